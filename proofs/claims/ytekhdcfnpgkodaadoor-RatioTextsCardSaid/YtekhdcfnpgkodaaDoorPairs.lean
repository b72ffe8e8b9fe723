/-
  The pairs of ratios that the laws look at, by their contract.
-/
import Derived.Test.YtekhdcfnpgkodaaDoorDag
import Derived.Test.YtekhdcfnpgkodaaDoorOrdM
namespace Go.Proofs.YtekhdcfnpgkodaaDoor
open Go.RowKit
/-- a slice of six pairs of ratios, whatever they are -/
def PairsIs (w : World) (e : Ending) (w' : World) : Prop := ∃ (B : Nat) (f : Nat → Int), e = .returned (.slice (some ⟨B, 0, none⟩) 6 6) ∧ w.grownBy w' none ∧ (∀ j : Nat, j < 24 → w'.cell? ⟨B, j, none⟩ = some (.int .i64 (f j)) ∧ i64 (f j))
theorem pairs_made (w0 w : World) (n d m c a1 a2 b1 b2 : Int) (gg : w0.grownBy w none) (h1 : i64 n) (h2 : i64 d) (h3 : i64 m) (h4 : i64 c) (h5 : i64 a1) (h6 : i64 a2) (h7 : i64 b1) (h8 : i64 b2) :
    PairsIs w0 (.returned (.slice (some ⟨w.heap.size, 0, none⟩) 6 6)) (w.alloc (.cells #[.int .i64 n, .int .i64 d, .int .i64 m, .int .i64 c, .int .i64 m, .int .i64 c, .int .i64 n, .int .i64 d, .int .i64 n, .int .i64 d, .int .i64 n, .int .i64 d, .int .i64 a1, .int .i64 a2, .int .i64 m, .int .i64 c, .int .i64 n, .int .i64 d, .int .i64 b1, .int .i64 b2, .int .i64 a1, .int .i64 a2, .int .i64 b1, .int .i64 b2] 33)) := by
  have H : ∀ x ∈ [n, d, m, c, a1, a2, b1, b2], i64 x := by
    intro x hx
    simp only [List.mem_cons, List.not_mem_nil, or_false] at hx
    rcases hx with rfl | rfl | rfl | rfl | rfl | rfl | rfl | rfl <;> assumption
  refine ⟨_, fun j => [n, d, m, c, m, c, n, d, n, d, n, d, a1, a2, m, c, n, d, b1, b2, a1, a2, b1, b2].getD j 0, rfl, grown_al gg, fun j hj => ?_⟩
  rw [cell_at rfl]
  rcases (show j = 0 ∨ j = 1 ∨ j = 2 ∨ j = 3 ∨ j = 4 ∨ j = 5 ∨ j = 6 ∨ j = 7 ∨ j = 8 ∨ j = 9 ∨ j = 10 ∨ j = 11 ∨ j = 12 ∨ j = 13 ∨ j = 14 ∨ j = 15 ∨ j = 16 ∨ j = 17 ∨ j = 18 ∨ j = 19 ∨ j = 20 ∨ j = 21 ∨ j = 22 ∨ j = 23 by omega) with rfl | rfl | rfl | rfl | rfl | rfl | rfl | rfl | rfl | rfl | rfl | rfl | rfl | rfl | rfl | rfl | rfl | rfl | rfl | rfl | rfl | rfl | rfl | rfl
  all_goals exact ⟨rfl, by first | exact h1 | exact h2 | exact h3 | exact h4 | exact h5 | exact h6 | exact h7 | exact h8⟩
set_option maxRecDepth 100000 in
set_option maxHeartbeats 4000000 in
theorem pairs_k (n0 n1 n2 n3 a1 a2 b1 b2 : Int) (hA : i64 a1 ∧ i64 a2) (hB : i64 b1 ∧ i64 b2) (w0 : World) : Calls Tryd.prog 12 #[.agg #[.int .i64 n0, .int .i64 n1, .int .i64 n2, .int .i64 n3, .int .i64 a1, .int .i64 a2, .int .i64 b1, .int .i64 b2]] w0 (PairsIs w0) := by
  have HP : Hid (∀ (i : Nat) v, #[Value.int .i64 n0, .int .i64 n1, .int .i64 n2, .int .i64 n3, .int .i64 a1, .int .i64 a2, .int .i64 b1, .int .i64 b2][i]? = some v → (w0.alloc (.cells #[.int .i64 n0, .int .i64 n1, .int .i64 n2, .int .i64 n3, .int .i64 a1, .int .i64 a2, .int .i64 b1, .int .i64 b2] 26)).cell? ⟨w0.heap.size, i, none⟩ = some v) := Lib.hid fun i v hv => (cell_at rfl).trans hv
  have gg := World.grownBy_alloc w0 (.cells #[.int .i64 n0, .int .i64 n1, .int .i64 n2, .int .i64 n3, .int .i64 a1, .int .i64 a2, .int .i64 b1, .int .i64 b2] 26) none
  have q0 := HP.out 0 _ rfl
  have q1 := HP.out 1 _ rfl
  have q2 := HP.out 2 _ rfl
  have q3 := HP.out 3 _ rfl
  have q4 := HP.out 4 _ rfl
  have q5 := HP.out 5 _ rfl
  have q6 := HP.out 6 _ rfl
  have q7 := HP.out 7 _ rfl
  clear HP
  obtain ⟨v1, hv1⟩ : ∃ v1, v1 = w0.alloc (.cells #[.int .i64 n0, .int .i64 n1, .int .i64 n2, .int .i64 n3, .int .i64 a1, .int .i64 a2, .int .i64 b1, .int .i64 b2] 26) := ⟨_, rfl⟩
  rw [← hv1] at gg q0 q1 q2 q3 q4 q5 q6 q7
  have H1 := Lib.hid hv1
  clear hv1
  go_enter Tryd.func12, Tryd.ntmps12
  go_wp2_with fail
  rw [← H1.out]
  refine wp_region_noPanic ?_
  refine wp_region_held_drew (S := (fun w' => v1.grownBy w' none)) (by kernel_rfl) ?_ (fun hHeld => ?_)
  · (try dsimp only); (repeat (first | assumption | exact grown_refl _ | refine grown_dr ?_ | refine grown_al ?_))
  refine wpAnyH_take (i := 0) (oi := _) (v := ?_) rfl (by kernel_rfl) (by kernel_rfl) (by kernel_rfl) (fun _ _ _ h => h) (Or.inl ⟨by rfl, ?_⟩) (by assumption) ?_
  rotate_left 1
  · (intro w hSw; (try dsimp only at hSw); go_simp; first | done | with_reducible rfl)
  try go_simp
  refine wpAnyH_take (i := 1) (oi := _) (v := ?_) rfl (by kernel_rfl) (by kernel_rfl) (by kernel_rfl) (fun _ _ _ h => h) (Or.inl ⟨by rfl, ?_⟩) (by assumption) ?_
  rotate_left 1
  · (intro w hSw; (try dsimp only at hSw); go_simp; first | done | with_reducible rfl)
  try go_simp
  refine wpAnyH_take (i := 2) (oi := _) (v := .int .i64 n0) rfl (by kernel_rfl) (by kernel_rfl) (by kernel_rfl) (fun _ _ _ h => h) (Or.inl ⟨by kernel_rfl, ?_⟩) (by assumption) ?_
  · (intro w hSw; (try dsimp only at hSw); go_simp; have y := gcell hSw q0; clear hSw; go_simp; first | done | with_reducible rfl)
  try go_simp
  refine wpAnyH_take (i := 3) (oi := _) (v := ?_) rfl (by kernel_rfl) (by kernel_rfl) (by kernel_rfl) (fun _ _ _ h => h) (Or.inl ⟨by rfl, ?_⟩) (by assumption) ?_
  rotate_left 1
  · (intro w hSw; (try dsimp only at hSw); go_simp; first | done | with_reducible rfl)
  try go_simp
  refine wpAnyH_take (i := 4) (oi := _) (v := ?_) rfl (by kernel_rfl) (by kernel_rfl) (by kernel_rfl) (fun _ _ _ h => h) (Or.inl ⟨by rfl, ?_⟩) (by assumption) ?_
  rotate_left 1
  · (intro w hSw; (try dsimp only at hSw); go_simp; first | done | with_reducible rfl)
  try go_simp
  refine wpAnyH_take (i := 5) (oi := _) (v := .int .i64 n1) rfl (by kernel_rfl) (by kernel_rfl) (by kernel_rfl) (fun _ _ _ h => h) (Or.inl ⟨by kernel_rfl, ?_⟩) (by assumption) ?_
  · (intro w hSw; (try dsimp only at hSw); go_simp; have y := gcell hSw q1; clear hSw; go_simp; first | done | with_reducible rfl)
  try go_simp
  refine wpAnyH_take (i := 7) (oi := _) (v := ?_) rfl (by kernel_rfl) (by kernel_rfl) (by kernel_rfl) (fun _ _ _ h => h) (Or.inl ⟨by rfl, ?_⟩) (by assumption) ?_
  rotate_left 1
  · (intro w hSw; (try dsimp only at hSw); go_simp; first | done | with_reducible rfl)
  try go_simp
  refine wpAnyH_take (i := 8) (oi := _) (v := ?_) rfl (by kernel_rfl) (by kernel_rfl) (by kernel_rfl) (fun _ _ _ h => h) (Or.inl ⟨by rfl, ?_⟩) (by assumption) ?_
  rotate_left 1
  · (intro w hSw; (try dsimp only at hSw); go_simp; first | done | with_reducible rfl)
  try go_simp
  refine wpAnyH_take (i := 9) (oi := _) (v := .int .i64 n2) rfl (by kernel_rfl) (by kernel_rfl) (by kernel_rfl) (fun _ _ _ h => h) (Or.inl ⟨by kernel_rfl, ?_⟩) (by assumption) ?_
  · (intro w hSw; (try dsimp only at hSw); go_simp; have y := gcell hSw q2; clear hSw; go_simp; first | done | with_reducible rfl)
  try go_simp
  refine wpAnyH_take (i := 10) (oi := _) (v := ?_) rfl (by kernel_rfl) (by kernel_rfl) (by kernel_rfl) (fun _ _ _ h => h) (Or.inl ⟨by rfl, ?_⟩) (by assumption) ?_
  rotate_left 1
  · (intro w hSw; (try dsimp only at hSw); go_simp; first | done | with_reducible rfl)
  try go_simp
  refine wpAnyH_take (i := 11) (oi := _) (v := ?_) rfl (by kernel_rfl) (by kernel_rfl) (by kernel_rfl) (fun _ _ _ h => h) (Or.inl ⟨by rfl, ?_⟩) (by assumption) ?_
  rotate_left 1
  · (intro w hSw; (try dsimp only at hSw); go_simp; first | done | with_reducible rfl)
  try go_simp
  refine wpAnyH_take (i := 12) (oi := _) (v := .int .i64 n3) rfl (by kernel_rfl) (by kernel_rfl) (by kernel_rfl) (fun _ _ _ h => h) (Or.inl ⟨by kernel_rfl, ?_⟩) (by assumption) ?_
  · (intro w hSw; (try dsimp only at hSw); go_simp; have y := gcell hSw q3; clear hSw; go_simp; first | done | with_reducible rfl)
  try go_simp
  refine name_them fun ops Q a0 hops hQ ha => ?_
  have LD6_13_14_15_16_17 : Hid (∀ (a : Act) (w : World) (b14 : Nat) (b15 : Nat), a = ((((a0.put (some 11) (.agg #[.int .i64 (madeN n0 n1), .int .i64 (madeD n0 n1)])).put (some 18) (.agg #[.int .i64 (madeN n2 n3), .int .i64 (madeD n2 n3)])).put (some 3) (.pointer (some ⟨b14, 0, none⟩))).put (some 4) (.pointer (some ⟨b15, 0, none⟩))) → v1.grownBy w none → R2 w b14 (madeN n0 n1) (madeD n0 n1) → v1.heap.size ≤ b14 → R2 w b15 (madeN n2 n3) (madeD n2 n3) → v1.heap.size ≤ b15 → Hid (b14 ≠ b15) → wpAnyH Tryd.prog .any ops Q (fun w' => v1.grownBy w' none) 0 #[true, true, true, true, true, true, true, true, true, true, true, true, true, true, true, true, true, true] a w) := Lib.hid (by
    rintro a w b14 b15 rfl HG HR14 HS14 HR15 HS15 HN14_15
    subst hops hQ ha
    have hHeld := HG
    go_simp
    refine wpAnyH_done (by kernel_rfl) ?_ _
    refine NoPanic.normal ?_
    go_simp
    clear hHeld
    obtain ⟨m1, m2⟩ := right_ints (made_right n0 n1)
    obtain ⟨m3, m4⟩ := right_ints (made_right n2 n3)
    generalize madeN n0 n1 = n at *
    generalize madeD n0 n1 = d at *
    generalize madeN n2 n3 = m at *
    generalize madeD n2 n3 = c at *
    replace gg := gg.trans HG
    replace q4 := gcell HG q4
    replace q5 := gcell HG q5
    replace q6 := gcell HG q6
    replace q7 := gcell HG q7
    clear q0 q1 q2 q3
    have k0 := HR14.c0
    have k1 := HR14.c1
    have k2 := HR15.c0
    have k3 := HR15.c1
    go_wp2_with fail
    go_ret
    exact pairs_made w0 w n d m c a1 a2 b1 b2 gg m1 m2 m3 m4 hA.1 hA.2 hB.1 hB.2)
  have LD6_13_14_15_16 : Hid (∀ (a : Act) (w : World) (b14 : Nat) (b15 : Nat), a = ((((a0.put (some 11) (.agg #[.int .i64 (madeN n0 n1), .int .i64 (madeD n0 n1)])).put (some 18) (.agg #[.int .i64 (madeN n2 n3), .int .i64 (madeD n2 n3)])).put (some 3) (.pointer (some ⟨b14, 0, none⟩))).put (some 4) (.pointer (some ⟨b15, 0, none⟩))) → v1.grownBy w none → R2 w b14 (madeN n0 n1) (madeD n0 n1) → v1.heap.size ≤ b14 → R2 w b15 0 0 → v1.heap.size ≤ b15 → Hid (b14 ≠ b15) → wpAnyH Tryd.prog .any ops Q (fun w' => v1.grownBy w' none) 1 #[true, true, true, true, true, true, true, true, true, true, true, true, true, true, true, true, true, false] a w) := Lib.hid (by
    rintro a w b14 b15 rfl HG HR14 HS14 HR15 HS15 HN14_15
    subst hops hQ ha
    have hHeld := HG
    go_simp
    refine wpAnyH_ready (rs := [17]) (by kernel_rfl) (by simp) ?_
    refine AllReadyH.cons (o := _) rfl (fun K hK => ?_) ?_
    · clear hHeld
      have c0 := HR15.c0
      have c1 := HR15.c1
      have f0 := HR15.f0
      have f1 := HR15.f1
      have hl := HR15.lt
      go_simp
      first | (refine hK.out _ _ ?_ (fun hHeld => ?_)) | (go_wp2_with fail; refine hK.out _ _ ?_ (fun hHeld => ?_))
      · exact grown_set (grown_set HG (.inl HS15)) (.inl HS15)
      clear hK K
      go_simp
      exact LD6_13_14_15_16_17.out _ _ _ _ (by kernel_rfl) (grown_set (grown_set HG (.inl HS15)) (.inl HS15)) ((HR14.far HN14_15.out).far HN14_15.out) HS14 (HR15.set _ _) HS15 HN14_15
    exact AllReadyH.nil)
  have LD6_13_14_15 : Hid (∀ (a : Act) (w : World) (b14 : Nat) (b15 : Nat), a = ((((a0.put (some 11) (.agg #[.int .i64 (madeN n0 n1), .int .i64 (madeD n0 n1)])).put (some 18) (.agg #[.int .i64 (madeN n2 n3), .int .i64 (madeD n2 n3)])).put (some 3) (.pointer (some ⟨b14, 0, none⟩))).put (some 4) (.pointer (some ⟨b15, 0, none⟩))) → v1.grownBy w none → R2 w b14 0 0 → v1.heap.size ≤ b14 → R2 w b15 0 0 → v1.heap.size ≤ b15 → Hid (b14 ≠ b15) → wpAnyH Tryd.prog .any ops Q (fun w' => v1.grownBy w' none) 2 #[true, true, true, true, true, true, true, true, true, true, true, true, true, true, true, true, false, false] a w) := Lib.hid (by
    rintro a w b14 b15 rfl HG HR14 HS14 HR15 HS15 HN14_15
    subst hops hQ ha
    have hHeld := HG
    go_simp
    refine wpAnyH_ready (rs := [16]) (by kernel_rfl) (by simp) ?_
    refine AllReadyH.cons (o := _) rfl (fun K hK => ?_) ?_
    · clear hHeld
      have c0 := HR14.c0
      have c1 := HR14.c1
      have f0 := HR14.f0
      have f1 := HR14.f1
      have hl := HR14.lt
      go_simp
      first | (refine hK.out _ _ ?_ (fun hHeld => ?_)) | (go_wp2_with fail; refine hK.out _ _ ?_ (fun hHeld => ?_))
      · exact grown_set (grown_set HG (.inl HS14)) (.inl HS14)
      clear hK K
      go_simp
      exact LD6_13_14_15_16.out _ _ _ _ (by kernel_rfl) (grown_set (grown_set HG (.inl HS14)) (.inl HS14)) (HR14.set _ _) HS14 ((HR15.far (Ne.symm HN14_15.out)).far (Ne.symm HN14_15.out)) HS15 HN14_15
    exact AllReadyH.nil)
  have LD6_14_15 : Hid (∀ (a : Act) (w : World) (b14 : Nat) (b15 : Nat), a = (((a0.put (some 11) (.agg #[.int .i64 (madeN n0 n1), .int .i64 (madeD n0 n1)])).put (some 3) (.pointer (some ⟨b14, 0, none⟩))).put (some 4) (.pointer (some ⟨b15, 0, none⟩))) → v1.grownBy w none → R2 w b14 0 0 → v1.heap.size ≤ b14 → R2 w b15 0 0 → v1.heap.size ≤ b15 → Hid (b14 ≠ b15) → wpAnyH Tryd.prog .any ops Q (fun w' => v1.grownBy w' none) 3 #[true, true, true, true, true, true, true, true, true, true, true, true, true, false, true, true, false, false] a w) := Lib.hid (by
    rintro a w b14 b15 rfl HG HR14 HS14 HR15 HS15 HN14_15
    subst hops hQ ha
    have hHeld := HG
    go_simp
    refine wpAnyH_ready (rs := [13]) (by kernel_rfl) (by simp) ?_
    refine AllReadyH.cons (o := _) rfl (fun K hK => ?_) ?_
    · clear hHeld
      go_simp
      refine (made_k n2 n3 _).mono ?_
      rintro e w2 ⟨rfl, g⟩
      first | (refine hK.out _ _ ?_ (fun hHeld => ?_)) | (go_wp2_with fail; refine hK.out _ _ ?_ (fun hHeld => ?_))
      · exact HG.trans g
      clear hK K
      go_simp
      exact LD6_13_14_15.out _ _ _ _ (by kernel_rfl) (HG.trans g) (HR14.kept g) HS14 (HR15.kept g) HS15 HN14_15
    exact AllReadyH.nil)
  have LD6_13_15 : Hid (∀ (a : Act) (w : World) (b15 : Nat), a = (((a0.put (some 11) (.agg #[.int .i64 (madeN n0 n1), .int .i64 (madeD n0 n1)])).put (some 18) (.agg #[.int .i64 (madeN n2 n3), .int .i64 (madeD n2 n3)])).put (some 4) (.pointer (some ⟨b15, 0, none⟩))) → v1.grownBy w none → R2 w b15 0 0 → v1.heap.size ≤ b15 → wpAnyH Tryd.prog .any ops Q (fun w' => v1.grownBy w' none) 3 #[true, true, true, true, true, true, true, true, true, true, true, true, true, true, false, true, false, false] a w) := Lib.hid (by
    rintro a w b15 rfl HG HR15 HS15
    subst hops hQ ha
    have hHeld := HG
    go_simp
    refine wpAnyH_ready (rs := [14]) (by kernel_rfl) (by simp) ?_
    refine AllReadyH.cons (o := _) rfl (fun K hK => ?_) ?_
    · clear hHeld
      go_simp
      first | (refine hK.out _ _ ?_ (fun hHeld => ?_)) | (go_wp2_with fail; refine hK.out _ _ ?_ (fun hHeld => ?_))
      · exact grown_al HG
      clear hK K
      go_simp
      exact LD6_13_14_15.out _ _ _ _ (by kernel_rfl) (grown_al HG) (R2.new _ _ _) HG.size (HR15.kept (World.grownBy_alloc _ _ none)) HS15 (Lib.hid (Ne.symm (Nat.ne_of_lt HR15.lt)))
    exact AllReadyH.nil)
  have LD6_13_14 : Hid (∀ (a : Act) (w : World) (b14 : Nat), a = (((a0.put (some 11) (.agg #[.int .i64 (madeN n0 n1), .int .i64 (madeD n0 n1)])).put (some 18) (.agg #[.int .i64 (madeN n2 n3), .int .i64 (madeD n2 n3)])).put (some 3) (.pointer (some ⟨b14, 0, none⟩))) → v1.grownBy w none → R2 w b14 0 0 → v1.heap.size ≤ b14 → wpAnyH Tryd.prog .any ops Q (fun w' => v1.grownBy w' none) 3 #[true, true, true, true, true, true, true, true, true, true, true, true, true, true, true, false, false, false] a w) := Lib.hid (by
    rintro a w b14 rfl HG HR14 HS14
    subst hops hQ ha
    have hHeld := HG
    go_simp
    refine wpAnyH_ready (rs := [15]) (by kernel_rfl) (by simp) ?_
    refine AllReadyH.cons (o := _) rfl (fun K hK => ?_) ?_
    · clear hHeld
      go_simp
      first | (refine hK.out _ _ ?_ (fun hHeld => ?_)) | (go_wp2_with fail; refine hK.out _ _ ?_ (fun hHeld => ?_))
      · exact grown_al HG
      clear hK K
      go_simp
      exact LD6_13_14_15.out _ _ _ _ (by kernel_rfl) (grown_al HG) (HR14.kept (World.grownBy_alloc _ _ none)) HS14 (R2.new _ _ _) HG.size (Lib.hid (Nat.ne_of_lt HR14.lt))
    exact AllReadyH.nil)
  have LD14_15 : Hid (∀ (a : Act) (w : World) (b14 : Nat) (b15 : Nat), a = ((a0.put (some 3) (.pointer (some ⟨b14, 0, none⟩))).put (some 4) (.pointer (some ⟨b15, 0, none⟩))) → v1.grownBy w none → R2 w b14 0 0 → v1.heap.size ≤ b14 → R2 w b15 0 0 → v1.heap.size ≤ b15 → Hid (b14 ≠ b15) → wpAnyH Tryd.prog .any ops Q (fun w' => v1.grownBy w' none) 4 #[true, true, true, true, true, true, false, true, true, true, true, true, true, false, true, true, false, false] a w) := Lib.hid (by
    rintro a w b14 b15 rfl HG HR14 HS14 HR15 HS15 HN14_15
    subst hops hQ ha
    have hHeld := HG
    go_simp
    refine wpAnyH_ready (rs := [6]) (by kernel_rfl) (by simp) ?_
    refine AllReadyH.cons (o := _) rfl (fun K hK => ?_) ?_
    · clear hHeld
      go_simp
      refine (made_k n0 n1 _).mono ?_
      rintro e w2 ⟨rfl, g⟩
      first | (refine hK.out _ _ ?_ (fun hHeld => ?_)) | (go_wp2_with fail; refine hK.out _ _ ?_ (fun hHeld => ?_))
      · exact HG.trans g
      clear hK K
      go_simp
      exact LD6_14_15.out _ _ _ _ (by kernel_rfl) (HG.trans g) (HR14.kept g) HS14 (HR15.kept g) HS15 HN14_15
    exact AllReadyH.nil)
  have LD6_15 : Hid (∀ (a : Act) (w : World) (b15 : Nat), a = ((a0.put (some 11) (.agg #[.int .i64 (madeN n0 n1), .int .i64 (madeD n0 n1)])).put (some 4) (.pointer (some ⟨b15, 0, none⟩))) → v1.grownBy w none → R2 w b15 0 0 → v1.heap.size ≤ b15 → wpAnyH Tryd.prog .any ops Q (fun w' => v1.grownBy w' none) 4 #[true, true, true, true, true, true, true, true, true, true, true, true, true, false, false, true, false, false] a w) := Lib.hid (by
    rintro a w b15 rfl HG HR15 HS15
    subst hops hQ ha
    have hHeld := HG
    go_simp
    refine wpAnyH_ready (rs := [13, 14]) (by kernel_rfl) (by simp) ?_
    refine AllReadyH.cons (o := _) rfl (fun K hK => ?_) ?_
    · clear hHeld
      go_simp
      refine (made_k n2 n3 _).mono ?_
      rintro e w2 ⟨rfl, g⟩
      first | (refine hK.out _ _ ?_ (fun hHeld => ?_)) | (go_wp2_with fail; refine hK.out _ _ ?_ (fun hHeld => ?_))
      · exact HG.trans g
      clear hK K
      go_simp
      exact LD6_13_15.out _ _ _ (by kernel_rfl) (HG.trans g) (HR15.kept g) HS15
    refine AllReadyH.cons (o := _) rfl (fun K hK => ?_) ?_
    · clear hHeld
      go_simp
      first | (refine hK.out _ _ ?_ (fun hHeld => ?_)) | (go_wp2_with fail; refine hK.out _ _ ?_ (fun hHeld => ?_))
      · exact grown_al HG
      clear hK K
      go_simp
      exact LD6_14_15.out _ _ _ _ (by kernel_rfl) (grown_al HG) (R2.new _ _ _) HG.size (HR15.kept (World.grownBy_alloc _ _ none)) HS15 (Lib.hid (Ne.symm (Nat.ne_of_lt HR15.lt)))
    exact AllReadyH.nil)
  have LD6_14 : Hid (∀ (a : Act) (w : World) (b14 : Nat), a = ((a0.put (some 11) (.agg #[.int .i64 (madeN n0 n1), .int .i64 (madeD n0 n1)])).put (some 3) (.pointer (some ⟨b14, 0, none⟩))) → v1.grownBy w none → R2 w b14 0 0 → v1.heap.size ≤ b14 → wpAnyH Tryd.prog .any ops Q (fun w' => v1.grownBy w' none) 4 #[true, true, true, true, true, true, true, true, true, true, true, true, true, false, true, false, false, false] a w) := Lib.hid (by
    rintro a w b14 rfl HG HR14 HS14
    subst hops hQ ha
    have hHeld := HG
    go_simp
    refine wpAnyH_ready (rs := [13, 15]) (by kernel_rfl) (by simp) ?_
    refine AllReadyH.cons (o := _) rfl (fun K hK => ?_) ?_
    · clear hHeld
      go_simp
      refine (made_k n2 n3 _).mono ?_
      rintro e w2 ⟨rfl, g⟩
      first | (refine hK.out _ _ ?_ (fun hHeld => ?_)) | (go_wp2_with fail; refine hK.out _ _ ?_ (fun hHeld => ?_))
      · exact HG.trans g
      clear hK K
      go_simp
      exact LD6_13_14.out _ _ _ (by kernel_rfl) (HG.trans g) (HR14.kept g) HS14
    refine AllReadyH.cons (o := _) rfl (fun K hK => ?_) ?_
    · clear hHeld
      go_simp
      first | (refine hK.out _ _ ?_ (fun hHeld => ?_)) | (go_wp2_with fail; refine hK.out _ _ ?_ (fun hHeld => ?_))
      · exact grown_al HG
      clear hK K
      go_simp
      exact LD6_14_15.out _ _ _ _ (by kernel_rfl) (grown_al HG) (HR14.kept (World.grownBy_alloc _ _ none)) HS14 (R2.new _ _ _) HG.size (Lib.hid (Nat.ne_of_lt HR14.lt))
    exact AllReadyH.nil)
  have LD6_13 : Hid (∀ (a : Act) (w : World) , a = ((a0.put (some 11) (.agg #[.int .i64 (madeN n0 n1), .int .i64 (madeD n0 n1)])).put (some 18) (.agg #[.int .i64 (madeN n2 n3), .int .i64 (madeD n2 n3)])) → v1.grownBy w none → wpAnyH Tryd.prog .any ops Q (fun w' => v1.grownBy w' none) 4 #[true, true, true, true, true, true, true, true, true, true, true, true, true, true, false, false, false, false] a w) := Lib.hid (by
    rintro a w rfl HG
    subst hops hQ ha
    have hHeld := HG
    go_simp
    refine wpAnyH_ready (rs := [14, 15]) (by kernel_rfl) (by simp) ?_
    refine AllReadyH.cons (o := _) rfl (fun K hK => ?_) ?_
    · clear hHeld
      go_simp
      first | (refine hK.out _ _ ?_ (fun hHeld => ?_)) | (go_wp2_with fail; refine hK.out _ _ ?_ (fun hHeld => ?_))
      · exact grown_al HG
      clear hK K
      go_simp
      exact LD6_13_14.out _ _ _ (by kernel_rfl) (grown_al HG) (R2.new _ _ _) HG.size
    refine AllReadyH.cons (o := _) rfl (fun K hK => ?_) ?_
    · clear hHeld
      go_simp
      first | (refine hK.out _ _ ?_ (fun hHeld => ?_)) | (go_wp2_with fail; refine hK.out _ _ ?_ (fun hHeld => ?_))
      · exact grown_al HG
      clear hK K
      go_simp
      exact LD6_13_15.out _ _ _ (by kernel_rfl) (grown_al HG) (R2.new _ _ _) HG.size
    exact AllReadyH.nil)
  have LD15 : Hid (∀ (a : Act) (w : World) (b15 : Nat), a = (a0.put (some 4) (.pointer (some ⟨b15, 0, none⟩))) → v1.grownBy w none → R2 w b15 0 0 → v1.heap.size ≤ b15 → wpAnyH Tryd.prog .any ops Q (fun w' => v1.grownBy w' none) 5 #[true, true, true, true, true, true, false, true, true, true, true, true, true, false, false, true, false, false] a w) := Lib.hid (by
    rintro a w b15 rfl HG HR15 HS15
    subst hops hQ ha
    have hHeld := HG
    go_simp
    refine wpAnyH_ready (rs := [6, 14]) (by kernel_rfl) (by simp) ?_
    refine AllReadyH.cons (o := _) rfl (fun K hK => ?_) ?_
    · clear hHeld
      go_simp
      refine (made_k n0 n1 _).mono ?_
      rintro e w2 ⟨rfl, g⟩
      first | (refine hK.out _ _ ?_ (fun hHeld => ?_)) | (go_wp2_with fail; refine hK.out _ _ ?_ (fun hHeld => ?_))
      · exact HG.trans g
      clear hK K
      go_simp
      exact LD6_15.out _ _ _ (by kernel_rfl) (HG.trans g) (HR15.kept g) HS15
    refine AllReadyH.cons (o := _) rfl (fun K hK => ?_) ?_
    · clear hHeld
      go_simp
      first | (refine hK.out _ _ ?_ (fun hHeld => ?_)) | (go_wp2_with fail; refine hK.out _ _ ?_ (fun hHeld => ?_))
      · exact grown_al HG
      clear hK K
      go_simp
      exact LD14_15.out _ _ _ _ (by kernel_rfl) (grown_al HG) (R2.new _ _ _) HG.size (HR15.kept (World.grownBy_alloc _ _ none)) HS15 (Lib.hid (Ne.symm (Nat.ne_of_lt HR15.lt)))
    exact AllReadyH.nil)
  have LD14 : Hid (∀ (a : Act) (w : World) (b14 : Nat), a = (a0.put (some 3) (.pointer (some ⟨b14, 0, none⟩))) → v1.grownBy w none → R2 w b14 0 0 → v1.heap.size ≤ b14 → wpAnyH Tryd.prog .any ops Q (fun w' => v1.grownBy w' none) 5 #[true, true, true, true, true, true, false, true, true, true, true, true, true, false, true, false, false, false] a w) := Lib.hid (by
    rintro a w b14 rfl HG HR14 HS14
    subst hops hQ ha
    have hHeld := HG
    go_simp
    refine wpAnyH_ready (rs := [6, 15]) (by kernel_rfl) (by simp) ?_
    refine AllReadyH.cons (o := _) rfl (fun K hK => ?_) ?_
    · clear hHeld
      go_simp
      refine (made_k n0 n1 _).mono ?_
      rintro e w2 ⟨rfl, g⟩
      first | (refine hK.out _ _ ?_ (fun hHeld => ?_)) | (go_wp2_with fail; refine hK.out _ _ ?_ (fun hHeld => ?_))
      · exact HG.trans g
      clear hK K
      go_simp
      exact LD6_14.out _ _ _ (by kernel_rfl) (HG.trans g) (HR14.kept g) HS14
    refine AllReadyH.cons (o := _) rfl (fun K hK => ?_) ?_
    · clear hHeld
      go_simp
      first | (refine hK.out _ _ ?_ (fun hHeld => ?_)) | (go_wp2_with fail; refine hK.out _ _ ?_ (fun hHeld => ?_))
      · exact grown_al HG
      clear hK K
      go_simp
      exact LD14_15.out _ _ _ _ (by kernel_rfl) (grown_al HG) (HR14.kept (World.grownBy_alloc _ _ none)) HS14 (R2.new _ _ _) HG.size (Lib.hid (Nat.ne_of_lt HR14.lt))
    exact AllReadyH.nil)
  have LD6 : Hid (∀ (a : Act) (w : World) , a = (a0.put (some 11) (.agg #[.int .i64 (madeN n0 n1), .int .i64 (madeD n0 n1)])) → v1.grownBy w none → wpAnyH Tryd.prog .any ops Q (fun w' => v1.grownBy w' none) 5 #[true, true, true, true, true, true, true, true, true, true, true, true, true, false, false, false, false, false] a w) := Lib.hid (by
    rintro a w rfl HG
    subst hops hQ ha
    have hHeld := HG
    go_simp
    refine wpAnyH_ready (rs := [13, 14, 15]) (by kernel_rfl) (by simp) ?_
    refine AllReadyH.cons (o := _) rfl (fun K hK => ?_) ?_
    · clear hHeld
      go_simp
      refine (made_k n2 n3 _).mono ?_
      rintro e w2 ⟨rfl, g⟩
      first | (refine hK.out _ _ ?_ (fun hHeld => ?_)) | (go_wp2_with fail; refine hK.out _ _ ?_ (fun hHeld => ?_))
      · exact HG.trans g
      clear hK K
      go_simp
      exact LD6_13.out _ _  (by kernel_rfl) (HG.trans g)
    refine AllReadyH.cons (o := _) rfl (fun K hK => ?_) ?_
    · clear hHeld
      go_simp
      first | (refine hK.out _ _ ?_ (fun hHeld => ?_)) | (go_wp2_with fail; refine hK.out _ _ ?_ (fun hHeld => ?_))
      · exact grown_al HG
      clear hK K
      go_simp
      exact LD6_14.out _ _ _ (by kernel_rfl) (grown_al HG) (R2.new _ _ _) HG.size
    refine AllReadyH.cons (o := _) rfl (fun K hK => ?_) ?_
    · clear hHeld
      go_simp
      first | (refine hK.out _ _ ?_ (fun hHeld => ?_)) | (go_wp2_with fail; refine hK.out _ _ ?_ (fun hHeld => ?_))
      · exact grown_al HG
      clear hK K
      go_simp
      exact LD6_15.out _ _ _ (by kernel_rfl) (grown_al HG) (R2.new _ _ _) HG.size
    exact AllReadyH.nil)
  have LD : Hid (∀ (a : Act) (w : World) , a = a0 → v1.grownBy w none → wpAnyH Tryd.prog .any ops Q (fun w' => v1.grownBy w' none) 6 #[true, true, true, true, true, true, false, true, true, true, true, true, true, false, false, false, false, false] a w) := Lib.hid (by
    rintro a w rfl HG
    subst hops hQ ha
    have hHeld := HG
    go_simp
    refine wpAnyH_ready (rs := [6, 14, 15]) (by kernel_rfl) (by simp) ?_
    refine AllReadyH.cons (o := _) rfl (fun K hK => ?_) ?_
    · clear hHeld
      go_simp
      refine (made_k n0 n1 _).mono ?_
      rintro e w2 ⟨rfl, g⟩
      first | (refine hK.out _ _ ?_ (fun hHeld => ?_)) | (go_wp2_with fail; refine hK.out _ _ ?_ (fun hHeld => ?_))
      · exact HG.trans g
      clear hK K
      go_simp
      exact LD6.out _ _  (by kernel_rfl) (HG.trans g)
    refine AllReadyH.cons (o := _) rfl (fun K hK => ?_) ?_
    · clear hHeld
      go_simp
      first | (refine hK.out _ _ ?_ (fun hHeld => ?_)) | (go_wp2_with fail; refine hK.out _ _ ?_ (fun hHeld => ?_))
      · exact grown_al HG
      clear hK K
      go_simp
      exact LD14.out _ _ _ (by kernel_rfl) (grown_al HG) (R2.new _ _ _) HG.size
    refine AllReadyH.cons (o := _) rfl (fun K hK => ?_) ?_
    · clear hHeld
      go_simp
      first | (refine hK.out _ _ ?_ (fun hHeld => ?_)) | (go_wp2_with fail; refine hK.out _ _ ?_ (fun hHeld => ?_))
      · exact grown_al HG
      clear hK K
      go_simp
      exact LD15.out _ _ _ (by kernel_rfl) (grown_al HG) (R2.new _ _ _) HG.size
    exact AllReadyH.nil)
  exact LD.out _ _ rfl hHeld
end Go.Proofs.YtekhdcfnpgkodaaDoor
