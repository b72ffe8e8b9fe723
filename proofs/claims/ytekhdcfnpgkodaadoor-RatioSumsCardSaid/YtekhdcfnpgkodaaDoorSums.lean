/-
  The law RatioSums.
-/
import Derived.Test.YtekhdcfnpgkodaaDoorPairs
import Derived.Deep.DeepCutAuto
namespace Go.Proofs.YtekhdcfnpgkodaaDoor
open Go.RowKit
theorem row4 (w : World) (p q r s : Int) : ∃ wx : World, wx = w.alloc (.cells #[.int .i64 p, .int .i64 q, .int .i64 r, .int .i64 s] 33) ∧ w.grownBy wx none ∧
    wx.cell? ⟨w.heap.size, 0, none⟩ = some (.int .i64 p) ∧ wx.cell? ⟨w.heap.size, 1, none⟩ = some (.int .i64 q) ∧ wx.cell? ⟨w.heap.size, 2, none⟩ = some (.int .i64 r) ∧ wx.cell? ⟨w.heap.size, 3, none⟩ = some (.int .i64 s) :=
  ⟨_, rfl, World.grownBy_alloc w _ none, cell_at rfl, cell_at rfl, cell_at rfl, cell_at rfl⟩
set_option maxRecDepth 100000 in
set_option maxHeartbeats 8000000 in
theorem sums_walk (n0 n1 n2 n3 a1 a2 b1 b2 : Int) (hN : i64 n0 ∧ i64 n1 ∧ i64 n2 ∧ i64 n3) (hA : i64 a1 ∧ i64 a2) (hB : i64 b1 ∧ i64 b2) (w0 : World) (hb : Base w0) : Calls Tryd.prog 3 #[.agg #[.int .i64 n0, .int .i64 n1, .int .i64 n2, .int .i64 n3, .int .i64 a1, .int .i64 a2, .int .i64 b1, .int .i64 b2]] w0 fun e w' => e = .returned (.bool true) ∧ w0.grownBy w' none := by
  have HP : Hid (∀ (i : Nat) v, #[Value.int .i64 n0, .int .i64 n1, .int .i64 n2, .int .i64 n3, .int .i64 a1, .int .i64 a2, .int .i64 b1, .int .i64 b2][i]? = some v → (w0.alloc (.cells #[.int .i64 n0, .int .i64 n1, .int .i64 n2, .int .i64 n3, .int .i64 a1, .int .i64 a2, .int .i64 b1, .int .i64 b2] 26)).cell? ⟨w0.heap.size, i, none⟩ = some v) := Lib.hid fun i v hv => (cell_at rfl).trans hv
  have gg := World.grownBy_alloc w0 (.cells #[.int .i64 n0, .int .i64 n1, .int .i64 n2, .int .i64 n3, .int .i64 a1, .int .i64 a2, .int .i64 b1, .int .i64 b2] 26) none
  have S := Lib.hid (sane_k _ (hb.none_ gg))
  have KP := Lib.hid (pairs_k n0 n1 n2 n3 a1 a2 b1 b2 hA hB)
  clear hb hA hB
  go_enter Tryd.func3, Tryd.ntmps3
  go_wp2_with fail
  refine S.out.mono ?_
  rintro e v1 ⟨rfl, g⟩
  obtain ⟨fv, hfv⟩ : ∃ fv : Nat → Int, ∀ i : Nat, i < 4 → v1.cell? ⟨w0.heap.size, i, none⟩ = some (.int .i64 (fv i)) ∧ i64 (fv i) :=
    ⟨fun i => [n0, n1, n2, n3].getD i 0, fun i hi => by
      rcases (show i = 0 ∨ i = 1 ∨ i = 2 ∨ i = 3 by omega) with rfl | rfl | rfl | rfl
      · exact ⟨gcell g (HP.out 0 _ rfl), hN.1⟩
      · exact ⟨gcell g (HP.out 1 _ rfl), hN.2.1⟩
      · exact ⟨gcell g (HP.out 2 _ rfl), hN.2.2.1⟩
      · exact ⟨gcell g (HP.out 3 _ rfl), hN.2.2.2⟩⟩
  have q0 := gcell g (HP.out 0 _ rfl)
  have q1 := gcell g (HP.out 1 _ rfl)
  have q2 := gcell g (HP.out 2 _ rfl)
  have q3 := gcell g (HP.out 3 _ rfl)
  have q4 := gcell g (HP.out 4 _ rfl)
  have q5 := gcell g (HP.out 5 _ rfl)
  have q6 := gcell g (HP.out 6 _ rfl)
  have q7 := gcell g (HP.out 7 _ rfl)
  have HF := Lib.hid hfv
  replace gg := gg.trans g
  clear g HP S hfv hN
  have HQ := Lib.hid (And.intro q0 (And.intro q1 (And.intro q2 (And.intro q3 (And.intro q4 (And.intro q5 (And.intro q6 q7)))))))
  clear q0 q1 q2 q3 q4 q5 q6 q7
  go_wp2_with fail
  go_loopw [20] (fun i wr => ∃ k : Nat, k ≤ 4 ∧ i = .int .i64 k ∧ v1.grownBy wr none) (fun i _ => 4 - (intOf i).toNat)
  case atStart => exact ⟨0, by omega, rfl, grown_refl _⟩
  case round =>
    obtain ⟨k, hk, rfl, hg⟩ := hrel
    by_cases hlt : k < 4
    · obtain ⟨k2, hk2⟩ : ∃ k2 : Nat, (((k : Int) + 1).tmod 4 = (k2 : Int)) ∧ k2 < 4 ∧ ((k : Int) + 1) % 4 = (k2 : Int) := by
        refine ⟨(k + 1) % 4, ?_, Nat.mod_lt _ (by decide), by omega⟩
        rcases (show k = 0 ∨ k = 1 ∨ k = 2 ∨ k = 3 by omega) with rfl | rfl | rfl | rfl <;> rfl
      obtain ⟨hk2, hk3, hk4⟩ := hk2
      have hd4 : decide ((k : Int) < 4) = true := by simp; omega
      have hk5 : (k : Int) < 4 := by omega
      have hk6 : (k2 : Int) < 4 := by omega
      obtain ⟨e0, j0⟩ := HF.out k hlt
      obtain ⟨e1, j1⟩ := HF.out k2 hk3
      replace e0 := gcell hg e0
      replace e1 := gcell hg e1
      generalize fv k = p at *
      generalize fv k2 = q at *
      have KA := Lib.hid (of_k p q j0 j1)
      have KB := Lib.hid (of_r p q j0 j1)
      generalize ofN p q = rn at *
      generalize ofD p q = rd at *
      generalize ofE p q = re at *
      clear j0 j1
      obtain ⟨ws, rfl⟩ : ∃ ws : World, ws = wr := ⟨_, rfl⟩
      go_upto_region 5 with fail
      go_cut [5, 6] (fun u v wx => ∃ b, u = .pointer (some ⟨b, 0, none⟩) ∧ v = .int .i64 re ∧ R2 wx b rn rd ∧ ws.grownBy wx none)
      case first =>
        refine wp_region_noPanic ?_
        refine wp_region_held_drew (S := (fun w' => ws.grownBy w' none)) (by kernel_rfl) ?_ (fun hHeld => ?_)
        · (try dsimp only); (repeat (first | assumption | exact grown_refl _ | refine grown_dr ?_ | refine grown_al ?_))
        refine wpAnyH_take (i := 0) (oi := _) (v := ?_) rfl (by kernel_rfl) (by kernel_rfl) (by kernel_rfl) (fun _ _ _ h => h) (Or.inl ⟨by rfl, ?_⟩) (by assumption) ?_
        rotate_left 1
        · (intro w hSw; (try dsimp only at hSw); go_simp; first | done | with_reducible rfl)
        try go_simp
        refine wpAnyH_take (i := 1) (oi := _) (v := ?_) rfl (by kernel_rfl) (by kernel_rfl) (by kernel_rfl) (fun _ _ _ h => h) (Or.inl ⟨by rfl, ?_⟩) (by assumption) ?_
        rotate_left 1
        · (intro w hSw; (try dsimp only at hSw); go_simp; first | done | with_reducible rfl)
        try go_simp
        refine wpAnyH_take (i := 2) (oi := _) (v := ?_) rfl (by kernel_rfl) (by kernel_rfl) (by kernel_rfl) (fun _ _ _ h => h) (Or.inl ⟨by rfl, ?_⟩) (by assumption) ?_
        rotate_left 1
        · (intro w hSw; (try dsimp only at hSw); go_simp; first | done | with_reducible rfl)
        try go_simp
        refine wpAnyH_take (i := 3) (oi := _) (v := .int .i64 p) rfl (by kernel_rfl) (by kernel_rfl) (by kernel_rfl) (fun _ _ _ h => h) (Or.inl ⟨by kernel_rfl, ?_⟩) (by assumption) ?_
        · (intro w hSw; (try dsimp only at hSw); go_simp; have y := gcell hSw e0; clear hSw; go_simp; first | done | with_reducible rfl)
        try go_simp
        refine wpAnyH_take (i := 4) (oi := _) (v := ?_) rfl (by kernel_rfl) (by kernel_rfl) (by kernel_rfl) (fun _ _ _ h => h) (Or.inl ⟨by rfl, ?_⟩) (by assumption) ?_
        rotate_left 1
        · (intro w hSw; (try dsimp only at hSw); go_simp; first | done | with_reducible rfl)
        try go_simp
        refine wpAnyH_take (i := 5) (oi := _) (v := .int .i64 ((k : Int) + 1)) rfl (by kernel_rfl) (by kernel_rfl) (by kernel_rfl) (fun _ _ _ h => h) (Or.inl ⟨by kernel_rfl, ?_⟩) (by assumption) ?_
        · (intro w hSw; (try dsimp only at hSw); go_simp; all_goals (first | done | (rw [IntKind.wrap_i64]; omega)))
        try go_simp
        refine wpAnyH_take (i := 6) (oi := _) (v := .int .i64 (k2 : Int)) rfl (by kernel_rfl) (by kernel_rfl) (by kernel_rfl) (fun _ _ _ h => h) (Or.inl ⟨by kernel_rfl, ?_⟩) (by assumption) ?_
        · (intro w hSw; (try dsimp only at hSw); go_simp; all_goals (first | done | (simp [hk2]; done) | (rw [hk2])))
        try go_simp
        refine wpAnyH_take (i := 7) (oi := _) (v := ?_) rfl (by kernel_rfl) (by kernel_rfl) (by kernel_rfl) (fun _ _ _ h => h) (Or.inl ⟨by rfl, ?_⟩) (by assumption) ?_
        rotate_left 1
        · (intro w hSw; (try dsimp only at hSw); go_simp; first | done | with_reducible rfl)
        try go_simp
        refine wpAnyH_take (i := 8) (oi := _) (v := ?_) rfl (by kernel_rfl) (by kernel_rfl) (by kernel_rfl) (fun _ _ _ h => h) (Or.inl ⟨by rfl, ?_⟩) (by assumption) ?_
        rotate_left 1
        · (intro w hSw; (try dsimp only at hSw); go_simp; first | done | with_reducible rfl)
        try go_simp
        refine wpAnyH_take (i := 9) (oi := _) (v := .int .i64 q) rfl (by kernel_rfl) (by kernel_rfl) (by kernel_rfl) (fun _ _ _ h => h) (Or.inl ⟨by kernel_rfl, ?_⟩) (by assumption) ?_
        · (intro w hSw; (try dsimp only at hSw); go_simp; have y := gcell hSw e1; clear hSw; go_simp; first | done | with_reducible rfl)
        try go_simp
        refine name_them fun ops Q a0 hops hQ ha => ?_
        have LD10_11_12_13_14_15_16 : Hid (∀ (a : Act) (w : World) (b14 : Nat), a = ((((((a0.put (some 34) (.tuple #[.agg #[.int .i64 rn, .int .i64 rd], .int .i64 re])).put (some 23) (.tuple #[.agg #[.int .i64 rn, .int .i64 rd], .int .i64 re])).put (some 35) (.agg #[.int .i64 rn, .int .i64 rd])).put (some 36) (.int .i64 re)).put (some 5) (.pointer (some ⟨b14, 0, none⟩))).put (some 6) (.int .i64 re)) → ws.grownBy w none → R2 w b14 rn rd → ws.heap.size ≤ b14 → wpAnyH Tryd.prog .any ops Q (fun w' => ws.grownBy w' none) 0 #[true, true, true, true, true, true, true, true, true, true, true, true, true, true, true, true, true] a w) := Lib.hid (by
          rintro a w b14 rfl HG HR14 HS14
          subst hops hQ ha
          have hHeld := HG
          go_simp
          refine wpAnyH_done (by kernel_rfl) ?_ _
          refine NoPanic.normal ?_
          go_simp
          go_wp2_with fail
          go_meet
          exact ⟨b14, rfl, rfl, HR14, HG⟩)
        have LD10_11_12_13_14 : Hid (∀ (a : Act) (w : World) (b14 : Nat), a = (((((a0.put (some 34) (.tuple #[.agg #[.int .i64 rn, .int .i64 rd], .int .i64 re])).put (some 23) (.tuple #[.agg #[.int .i64 rn, .int .i64 rd], .int .i64 re])).put (some 35) (.agg #[.int .i64 rn, .int .i64 rd])).put (some 36) (.int .i64 re)).put (some 5) (.pointer (some ⟨b14, 0, none⟩))) → ws.grownBy w none → R2 w b14 0 0 → ws.heap.size ≤ b14 → wpAnyH Tryd.prog .any ops Q (fun w' => ws.grownBy w' none) 2 #[true, true, true, true, true, true, true, true, true, true, true, true, true, true, true, false, false] a w) := Lib.hid (by
          rintro a w b14 rfl HG HR14 HS14
          subst hops hQ ha
          have hHeld := HG
          go_simp
          refine wpAnyH_ready (rs := [15]) (by kernel_rfl) (by simp) ?_
          refine AllReadyH.cons (o := _) rfl (fun K hK => ?_) ?_
          · clear hHeld
            have c0 := HR14.c0
            have c1 := HR14.c1
            have f0 := HR14.f0
            have f1 := HR14.f1
            have hl := HR14.lt
            go_simp
            first | (refine hK.out _ _ ?_ (fun hHeld => ?_)) | (go_wp2_with fail; refine hK.out _ _ ?_ (fun hHeld => ?_))
            · exact grown_set (grown_set HG (.inl HS14)) (.inl HS14)
            clear hK K
            go_simp
            refine wpAnyH_take (i := 16) (oi := _) (v := .int .i64 re) rfl (by kernel_rfl) (by kernel_rfl) (by kernel_rfl) (fun _ _ _ h => h) (Or.inl ⟨by kernel_rfl, fun _ _ => by kernel_rfl⟩) (by assumption) ?_
            try go_simp
            exact LD10_11_12_13_14_15_16.out _ _ _ (by kernel_rfl) (grown_set (grown_set HG (.inl HS14)) (.inl HS14)) (HR14.set _ _) HS14
          exact AllReadyH.nil)
        have LD14 : Hid (∀ (a : Act) (w : World) (b14 : Nat), a = (a0.put (some 5) (.pointer (some ⟨b14, 0, none⟩))) → ws.grownBy w none → R2 w b14 0 0 → ws.heap.size ≤ b14 → wpAnyH Tryd.prog .any ops Q (fun w' => ws.grownBy w' none) 6 #[true, true, true, true, true, true, true, true, true, true, false, false, false, false, true, false, false] a w) := Lib.hid (by
          rintro a w b14 rfl HG HR14 HS14
          subst hops hQ ha
          have hHeld := HG
          go_simp
          refine wpAnyH_ready (rs := [10]) (by kernel_rfl) (by simp) ?_
          refine AllReadyH.cons (o := _) rfl (fun K hK => ?_) ?_
          · clear hHeld
            go_simp
            refine (KA.out _).mono ?_
            rintro e w2 ⟨rfl, g⟩
            first | (refine hK.out _ _ ?_ (fun hHeld => ?_)) | (go_wp2_with fail; refine hK.out _ _ ?_ (fun hHeld => ?_))
            · exact HG.trans g
            clear hK K
            go_simp
            refine wpAnyH_take (i := 11) (oi := _) (v := .tuple #[.agg #[.int .i64 rn, .int .i64 rd], .int .i64 re]) rfl (by kernel_rfl) (by kernel_rfl) (by kernel_rfl) (fun _ _ _ h => h) (Or.inl ⟨by kernel_rfl, fun _ _ => by kernel_rfl⟩) (by assumption) ?_
            try go_simp
            refine wpAnyH_take (i := 12) (oi := _) (v := .agg #[.int .i64 rn, .int .i64 rd]) rfl (by kernel_rfl) (by kernel_rfl) (by kernel_rfl) (fun _ _ _ h => h) (Or.inl ⟨by kernel_rfl, fun _ _ => by kernel_rfl⟩) (by assumption) ?_
            try go_simp
            refine wpAnyH_take (i := 13) (oi := _) (v := .int .i64 re) rfl (by kernel_rfl) (by kernel_rfl) (by kernel_rfl) (fun _ _ _ h => h) (Or.inl ⟨by kernel_rfl, fun _ _ => by kernel_rfl⟩) (by assumption) ?_
            try go_simp
            exact LD10_11_12_13_14.out _ _ _ (by kernel_rfl) (HG.trans g) (HR14.kept g) HS14
          exact AllReadyH.nil)
        have LD10_11_12_13 : Hid (∀ (a : Act) (w : World) , a = ((((a0.put (some 34) (.tuple #[.agg #[.int .i64 rn, .int .i64 rd], .int .i64 re])).put (some 23) (.tuple #[.agg #[.int .i64 rn, .int .i64 rd], .int .i64 re])).put (some 35) (.agg #[.int .i64 rn, .int .i64 rd])).put (some 36) (.int .i64 re)) → ws.grownBy w none → wpAnyH Tryd.prog .any ops Q (fun w' => ws.grownBy w' none) 3 #[true, true, true, true, true, true, true, true, true, true, true, true, true, true, false, false, false] a w) := Lib.hid (by
          rintro a w rfl HG
          subst hops hQ ha
          have hHeld := HG
          go_simp
          refine wpAnyH_ready (rs := [14]) (by kernel_rfl) (by simp) ?_
          refine AllReadyH.cons (o := _) rfl (fun K hK => ?_) ?_
          · clear hHeld
            go_simp
            first | (refine hK.out _ _ ?_ (fun hHeld => ?_)) | (go_wp2_with fail; refine hK.out _ _ ?_ (fun hHeld => ?_))
            · exact grown_al HG
            clear hK K
            go_simp
            exact LD10_11_12_13_14.out _ _ _ (by kernel_rfl) (grown_al HG) (R2.new _ _ _) HG.size
          exact AllReadyH.nil)
        have LD : Hid (∀ (a : Act) (w : World) , a = a0 → ws.grownBy w none → wpAnyH Tryd.prog .any ops Q (fun w' => ws.grownBy w' none) 7 #[true, true, true, true, true, true, true, true, true, true, false, false, false, false, false, false, false] a w) := Lib.hid (by
          rintro a w rfl HG
          subst hops hQ ha
          have hHeld := HG
          go_simp
          refine wpAnyH_ready (rs := [10, 14]) (by kernel_rfl) (by simp) ?_
          refine AllReadyH.cons (o := _) rfl (fun K hK => ?_) ?_
          · clear hHeld
            go_simp
            refine (KA.out _).mono ?_
            rintro e w2 ⟨rfl, g⟩
            first | (refine hK.out _ _ ?_ (fun hHeld => ?_)) | (go_wp2_with fail; refine hK.out _ _ ?_ (fun hHeld => ?_))
            · exact HG.trans g
            clear hK K
            go_simp
            refine wpAnyH_take (i := 11) (oi := _) (v := .tuple #[.agg #[.int .i64 rn, .int .i64 rd], .int .i64 re]) rfl (by kernel_rfl) (by kernel_rfl) (by kernel_rfl) (fun _ _ _ h => h) (Or.inl ⟨by kernel_rfl, fun _ _ => by kernel_rfl⟩) (by assumption) ?_
            try go_simp
            refine wpAnyH_take (i := 12) (oi := _) (v := .agg #[.int .i64 rn, .int .i64 rd]) rfl (by kernel_rfl) (by kernel_rfl) (by kernel_rfl) (fun _ _ _ h => h) (Or.inl ⟨by kernel_rfl, fun _ _ => by kernel_rfl⟩) (by assumption) ?_
            try go_simp
            refine wpAnyH_take (i := 13) (oi := _) (v := .int .i64 re) rfl (by kernel_rfl) (by kernel_rfl) (by kernel_rfl) (fun _ _ _ h => h) (Or.inl ⟨by kernel_rfl, fun _ _ => by kernel_rfl⟩) (by assumption) ?_
            try go_simp
            exact LD10_11_12_13.out _ _  (by kernel_rfl) (HG.trans g)
          refine AllReadyH.cons (o := _) rfl (fun K hK => ?_) ?_
          · clear hHeld
            go_simp
            first | (refine hK.out _ _ ?_ (fun hHeld => ?_)) | (go_wp2_with fail; refine hK.out _ _ ?_ (fun hHeld => ?_))
            · exact grown_al HG
            clear hK K
            go_simp
            exact LD14.out _ _ _ (by kernel_rfl) (grown_al HG) (R2.new _ _ _) HG.size
          exact AllReadyH.nil)
        exact LD.out _ _ rfl hHeld
      case rest =>
        obtain ⟨b5, rfl, rfl, H5, g5⟩ := hcut
        obtain ⟨wt, rfl⟩ : ∃ wt : World, wt = wc := ⟨_, rfl⟩
        replace e0 := gcell g5 e0
        replace e1 := gcell g5 e1
        go_upto_region 6 with fail
        go_cut [7, 8] (fun u v wx => ∃ b, u = .pointer (some ⟨b, 0, none⟩) ∧ v = .int .i64 re ∧ R2 wx b rn rd ∧ wt.grownBy wx none)
        case first =>
          refine wp_region_noPanic ?_
          refine wp_region_held_drew (S := (fun w' => wt.grownBy w' none)) (by kernel_rfl) ?_ (fun hHeld => ?_)
          · (try dsimp only); (repeat (first | assumption | exact grown_refl _ | refine grown_dr ?_ | refine grown_al ?_))
          refine wpAnyH_take (i := 0) (oi := _) (v := ?_) rfl (by kernel_rfl) (by kernel_rfl) (by kernel_rfl) (fun _ _ _ h => h) (Or.inl ⟨by rfl, ?_⟩) (by assumption) ?_
          rotate_left 1
          · (intro w hSw; (try dsimp only at hSw); go_simp; first | done | with_reducible rfl)
          try go_simp
          refine wpAnyH_take (i := 1) (oi := _) (v := ?_) rfl (by kernel_rfl) (by kernel_rfl) (by kernel_rfl) (fun _ _ _ h => h) (Or.inl ⟨by rfl, ?_⟩) (by assumption) ?_
          rotate_left 1
          · (intro w hSw; (try dsimp only at hSw); go_simp; first | done | with_reducible rfl)
          try go_simp
          refine wpAnyH_take (i := 2) (oi := _) (v := ?_) rfl (by kernel_rfl) (by kernel_rfl) (by kernel_rfl) (fun _ _ _ h => h) (Or.inl ⟨by rfl, ?_⟩) (by assumption) ?_
          rotate_left 1
          · (intro w hSw; (try dsimp only at hSw); go_simp; first | done | with_reducible rfl)
          try go_simp
          refine wpAnyH_take (i := 3) (oi := _) (v := .int .i64 p) rfl (by kernel_rfl) (by kernel_rfl) (by kernel_rfl) (fun _ _ _ h => h) (Or.inl ⟨by kernel_rfl, ?_⟩) (by assumption) ?_
          · (intro w hSw; (try dsimp only at hSw); go_simp; have y := gcell hSw e0; clear hSw; go_simp; first | done | with_reducible rfl)
          try go_simp
          refine wpAnyH_take (i := 4) (oi := _) (v := ?_) rfl (by kernel_rfl) (by kernel_rfl) (by kernel_rfl) (fun _ _ _ h => h) (Or.inl ⟨by rfl, ?_⟩) (by assumption) ?_
          rotate_left 1
          · (intro w hSw; (try dsimp only at hSw); go_simp; first | done | with_reducible rfl)
          try go_simp
          refine wpAnyH_take (i := 5) (oi := _) (v := .int .i64 ((k : Int) + 1)) rfl (by kernel_rfl) (by kernel_rfl) (by kernel_rfl) (fun _ _ _ h => h) (Or.inl ⟨by kernel_rfl, ?_⟩) (by assumption) ?_
          · (intro w hSw; (try dsimp only at hSw); go_simp; all_goals (first | done | (rw [IntKind.wrap_i64]; omega)))
          try go_simp
          refine wpAnyH_take (i := 6) (oi := _) (v := .int .i64 (k2 : Int)) rfl (by kernel_rfl) (by kernel_rfl) (by kernel_rfl) (fun _ _ _ h => h) (Or.inl ⟨by kernel_rfl, ?_⟩) (by assumption) ?_
          · (intro w hSw; (try dsimp only at hSw); go_simp; all_goals (first | done | (simp [hk2]; done) | (rw [hk2])))
          try go_simp
          refine wpAnyH_take (i := 7) (oi := _) (v := ?_) rfl (by kernel_rfl) (by kernel_rfl) (by kernel_rfl) (fun _ _ _ h => h) (Or.inl ⟨by rfl, ?_⟩) (by assumption) ?_
          rotate_left 1
          · (intro w hSw; (try dsimp only at hSw); go_simp; first | done | with_reducible rfl)
          try go_simp
          refine wpAnyH_take (i := 8) (oi := _) (v := ?_) rfl (by kernel_rfl) (by kernel_rfl) (by kernel_rfl) (fun _ _ _ h => h) (Or.inl ⟨by rfl, ?_⟩) (by assumption) ?_
          rotate_left 1
          · (intro w hSw; (try dsimp only at hSw); go_simp; first | done | with_reducible rfl)
          try go_simp
          refine wpAnyH_take (i := 9) (oi := _) (v := .int .i64 q) rfl (by kernel_rfl) (by kernel_rfl) (by kernel_rfl) (fun _ _ _ h => h) (Or.inl ⟨by kernel_rfl, ?_⟩) (by assumption) ?_
          · (intro w hSw; (try dsimp only at hSw); go_simp; have y := gcell hSw e1; clear hSw; go_simp; first | done | with_reducible rfl)
          try go_simp
          refine name_them fun ops Q a0 hops hQ ha => ?_
          have LD10_11_12_13_14_15_16 : Hid (∀ (a : Act) (w : World) (b14 : Nat), a = ((((((a0.put (some 48) (.tuple #[.agg #[.int .i64 rn, .int .i64 rd], .int .i64 re])).put (some 37) (.tuple #[.agg #[.int .i64 rn, .int .i64 rd], .int .i64 re])).put (some 49) (.agg #[.int .i64 rn, .int .i64 rd])).put (some 50) (.int .i64 re)).put (some 7) (.pointer (some ⟨b14, 0, none⟩))).put (some 8) (.int .i64 re)) → wt.grownBy w none → R2 w b14 rn rd → wt.heap.size ≤ b14 → wpAnyH Tryd.prog .any ops Q (fun w' => wt.grownBy w' none) 0 #[true, true, true, true, true, true, true, true, true, true, true, true, true, true, true, true, true] a w) := Lib.hid (by
            rintro a w b14 rfl HG HR14 HS14
            subst hops hQ ha
            have hHeld := HG
            go_simp
            refine wpAnyH_done (by kernel_rfl) ?_ _
            refine NoPanic.normal ?_
            go_simp
            go_wp2_with fail
            go_meet
            exact ⟨b14, rfl, rfl, HR14, HG⟩)
          have LD10_11_12_13_14 : Hid (∀ (a : Act) (w : World) (b14 : Nat), a = (((((a0.put (some 48) (.tuple #[.agg #[.int .i64 rn, .int .i64 rd], .int .i64 re])).put (some 37) (.tuple #[.agg #[.int .i64 rn, .int .i64 rd], .int .i64 re])).put (some 49) (.agg #[.int .i64 rn, .int .i64 rd])).put (some 50) (.int .i64 re)).put (some 7) (.pointer (some ⟨b14, 0, none⟩))) → wt.grownBy w none → R2 w b14 0 0 → wt.heap.size ≤ b14 → wpAnyH Tryd.prog .any ops Q (fun w' => wt.grownBy w' none) 2 #[true, true, true, true, true, true, true, true, true, true, true, true, true, true, true, false, false] a w) := Lib.hid (by
            rintro a w b14 rfl HG HR14 HS14
            subst hops hQ ha
            have hHeld := HG
            go_simp
            refine wpAnyH_ready (rs := [15]) (by kernel_rfl) (by simp) ?_
            refine AllReadyH.cons (o := _) rfl (fun K hK => ?_) ?_
            · clear hHeld
              have c0 := HR14.c0
              have c1 := HR14.c1
              have f0 := HR14.f0
              have f1 := HR14.f1
              have hl := HR14.lt
              go_simp
              first | (refine hK.out _ _ ?_ (fun hHeld => ?_)) | (go_wp2_with fail; refine hK.out _ _ ?_ (fun hHeld => ?_))
              · exact grown_set (grown_set HG (.inl HS14)) (.inl HS14)
              clear hK K
              go_simp
              refine wpAnyH_take (i := 16) (oi := _) (v := .int .i64 re) rfl (by kernel_rfl) (by kernel_rfl) (by kernel_rfl) (fun _ _ _ h => h) (Or.inl ⟨by kernel_rfl, fun _ _ => by kernel_rfl⟩) (by assumption) ?_
              try go_simp
              exact LD10_11_12_13_14_15_16.out _ _ _ (by kernel_rfl) (grown_set (grown_set HG (.inl HS14)) (.inl HS14)) (HR14.set _ _) HS14
            exact AllReadyH.nil)
          have LD14 : Hid (∀ (a : Act) (w : World) (b14 : Nat), a = (a0.put (some 7) (.pointer (some ⟨b14, 0, none⟩))) → wt.grownBy w none → R2 w b14 0 0 → wt.heap.size ≤ b14 → wpAnyH Tryd.prog .any ops Q (fun w' => wt.grownBy w' none) 6 #[true, true, true, true, true, true, true, true, true, true, false, false, false, false, true, false, false] a w) := Lib.hid (by
            rintro a w b14 rfl HG HR14 HS14
            subst hops hQ ha
            have hHeld := HG
            go_simp
            refine wpAnyH_ready (rs := [10]) (by kernel_rfl) (by simp) ?_
            refine AllReadyH.cons (o := _) rfl (fun K hK => ?_) ?_
            · clear hHeld
              go_simp
              refine (KB.out _).mono ?_
              rintro e w2 ⟨rfl, g⟩
              first | (refine hK.out _ _ ?_ (fun hHeld => ?_)) | (go_wp2_with fail; refine hK.out _ _ ?_ (fun hHeld => ?_))
              · exact HG.trans g
              clear hK K
              go_simp
              refine wpAnyH_take (i := 11) (oi := _) (v := .tuple #[.agg #[.int .i64 rn, .int .i64 rd], .int .i64 re]) rfl (by kernel_rfl) (by kernel_rfl) (by kernel_rfl) (fun _ _ _ h => h) (Or.inl ⟨by kernel_rfl, fun _ _ => by kernel_rfl⟩) (by assumption) ?_
              try go_simp
              refine wpAnyH_take (i := 12) (oi := _) (v := .agg #[.int .i64 rn, .int .i64 rd]) rfl (by kernel_rfl) (by kernel_rfl) (by kernel_rfl) (fun _ _ _ h => h) (Or.inl ⟨by kernel_rfl, fun _ _ => by kernel_rfl⟩) (by assumption) ?_
              try go_simp
              refine wpAnyH_take (i := 13) (oi := _) (v := .int .i64 re) rfl (by kernel_rfl) (by kernel_rfl) (by kernel_rfl) (fun _ _ _ h => h) (Or.inl ⟨by kernel_rfl, fun _ _ => by kernel_rfl⟩) (by assumption) ?_
              try go_simp
              exact LD10_11_12_13_14.out _ _ _ (by kernel_rfl) (HG.trans g) (HR14.kept g) HS14
            exact AllReadyH.nil)
          have LD10_11_12_13 : Hid (∀ (a : Act) (w : World) , a = ((((a0.put (some 48) (.tuple #[.agg #[.int .i64 rn, .int .i64 rd], .int .i64 re])).put (some 37) (.tuple #[.agg #[.int .i64 rn, .int .i64 rd], .int .i64 re])).put (some 49) (.agg #[.int .i64 rn, .int .i64 rd])).put (some 50) (.int .i64 re)) → wt.grownBy w none → wpAnyH Tryd.prog .any ops Q (fun w' => wt.grownBy w' none) 3 #[true, true, true, true, true, true, true, true, true, true, true, true, true, true, false, false, false] a w) := Lib.hid (by
            rintro a w rfl HG
            subst hops hQ ha
            have hHeld := HG
            go_simp
            refine wpAnyH_ready (rs := [14]) (by kernel_rfl) (by simp) ?_
            refine AllReadyH.cons (o := _) rfl (fun K hK => ?_) ?_
            · clear hHeld
              go_simp
              first | (refine hK.out _ _ ?_ (fun hHeld => ?_)) | (go_wp2_with fail; refine hK.out _ _ ?_ (fun hHeld => ?_))
              · exact grown_al HG
              clear hK K
              go_simp
              exact LD10_11_12_13_14.out _ _ _ (by kernel_rfl) (grown_al HG) (R2.new _ _ _) HG.size
            exact AllReadyH.nil)
          have LD : Hid (∀ (a : Act) (w : World) , a = a0 → wt.grownBy w none → wpAnyH Tryd.prog .any ops Q (fun w' => wt.grownBy w' none) 7 #[true, true, true, true, true, true, true, true, true, true, false, false, false, false, false, false, false] a w) := Lib.hid (by
            rintro a w rfl HG
            subst hops hQ ha
            have hHeld := HG
            go_simp
            refine wpAnyH_ready (rs := [10, 14]) (by kernel_rfl) (by simp) ?_
            refine AllReadyH.cons (o := _) rfl (fun K hK => ?_) ?_
            · clear hHeld
              go_simp
              refine (KB.out _).mono ?_
              rintro e w2 ⟨rfl, g⟩
              first | (refine hK.out _ _ ?_ (fun hHeld => ?_)) | (go_wp2_with fail; refine hK.out _ _ ?_ (fun hHeld => ?_))
              · exact HG.trans g
              clear hK K
              go_simp
              refine wpAnyH_take (i := 11) (oi := _) (v := .tuple #[.agg #[.int .i64 rn, .int .i64 rd], .int .i64 re]) rfl (by kernel_rfl) (by kernel_rfl) (by kernel_rfl) (fun _ _ _ h => h) (Or.inl ⟨by kernel_rfl, fun _ _ => by kernel_rfl⟩) (by assumption) ?_
              try go_simp
              refine wpAnyH_take (i := 12) (oi := _) (v := .agg #[.int .i64 rn, .int .i64 rd]) rfl (by kernel_rfl) (by kernel_rfl) (by kernel_rfl) (fun _ _ _ h => h) (Or.inl ⟨by kernel_rfl, fun _ _ => by kernel_rfl⟩) (by assumption) ?_
              try go_simp
              refine wpAnyH_take (i := 13) (oi := _) (v := .int .i64 re) rfl (by kernel_rfl) (by kernel_rfl) (by kernel_rfl) (fun _ _ _ h => h) (Or.inl ⟨by kernel_rfl, fun _ _ => by kernel_rfl⟩) (by assumption) ?_
              try go_simp
              exact LD10_11_12_13.out _ _  (by kernel_rfl) (HG.trans g)
            refine AllReadyH.cons (o := _) rfl (fun K hK => ?_) ?_
            · clear hHeld
              go_simp
              first | (refine hK.out _ _ ?_ (fun hHeld => ?_)) | (go_wp2_with fail; refine hK.out _ _ ?_ (fun hHeld => ?_))
              · exact grown_al HG
              clear hK K
              go_simp
              exact LD14.out _ _ _ (by kernel_rfl) (grown_al HG) (R2.new _ _ _) HG.size
            exact AllReadyH.nil)
          exact LD.out _ _ rfl hHeld
        case rest =>
          obtain ⟨b7, rfl, rfl, H7, g7⟩ := hcut
          replace H5 := H5.kept g7
          have k0 := H5.c0
          have k1 := H5.c1
          have k3 := H7.c0
          have k4 := H7.c1
          replace hg := hg.trans (g5.trans g7)
          clear g5 g7 e0 e1 KA KB
          go_wp2_with fail
          go_roundw
          case rel => exact ⟨k + 1, by omega, by go_num, hg⟩
          case measure => simp [intOf]; omega
    · obtain ⟨q0, q1, q2, q3, q4, q5, q6, q7⟩ := HQ.out
      replace q0 := gcell hg q0
      replace q1 := gcell hg q1
      replace q2 := gcell hg q2
      replace q3 := gcell hg q3
      replace q4 := gcell hg q4
      replace q5 := gcell hg q5
      replace q6 := gcell hg q6
      replace q7 := gcell hg q7
      replace gg := gg.trans hg
      obtain rfl : k = 4 := by omega
      clear HQ HF hg hlt hk
      go_wp2_with fail
      refine (KP.out _).mono ?_
      rintro e vp ⟨B, f, rfl, g, hrow⟩
      have HW := Lib.hid hrow
      replace gg := gg.trans g
      clear g hrow KP q0 q1 q2 q3 q4 q5 q6 q7
      go_wp2_with fail
      go_loopw [63] (fun i wx => ∃ k : Nat, k ≤ 6 ∧ i = .int .i64 k ∧ vp.grownBy wx none) (fun i _ => 6 - (intOf i).toNat)
      case atStart => exact ⟨0, by omega, rfl, grown_refl _⟩
      case round =>
        obtain ⟨k, hk, rfl, hg⟩ := hrel
        by_cases hlt : k < 6
        · obtain ⟨j0, i0⟩ := HW.out (k * 4) (by omega)
          obtain ⟨j1, i1⟩ := HW.out (k * 4 + 1) (by omega)
          obtain ⟨j2, i2⟩ := HW.out (k * 4 + 2) (by omega)
          obtain ⟨j3, i3⟩ := HW.out (k * 4 + 3) (by omega)
          replace j0 := gcell hg j0
          replace j1 := gcell hg j1
          replace j2 := gcell hg j2
          replace j3 := gcell hg j3
          generalize f (k * 4) = p at *
          generalize f (k * 4 + 1) = q at *
          generalize f (k * 4 + 2) = r at *
          generalize f (k * 4 + 3) = s at *
          have KA := Lib.hid (add_k p q r s i0 i1 i2 i3)
          have KB := Lib.hid (add_r p q r s i0 i1 i2 i3)
          have KC := Lib.hid (sub_k p q r s i0 i1 i3)
          have KD := Lib.hid (sub_r p q r s i0 i1 i3)
          have KE := Lib.hid (cmp_k p q r s i0 i1 i2 i3)
          have KF := Lib.hid (cmp_r p q r s i0 i1 i2 i3)
          have KG := Lib.hid (mul_k p q r s i0 i1 i2 i3)
          have KH := Lib.hid (mul_r p q r s i0 i1 i2 i3)
          generalize addN p q r s = an at *
          generalize addD p q r s = ad at *
          generalize addE p q r s = ae at *
          generalize addN p q (wrap64 (-r)) s = sn at *
          generalize addD p q (wrap64 (-r)) s = sd at *
          generalize addE p q (wrap64 (-r)) s = se at *
          generalize mulN p q r s = mn at *
          generalize mulD p q r s = md at *
          generalize mulE p q r s = me at *
          generalize cmpV p q r s = cv at *
          clear i0 i1 i2 i3
          obtain ⟨wx, hwx, gx, y0, y1, y2, y3⟩ := row4 wr p q r s
          go_upto_region 13 with fail
          rw [← hwx]
          replace hg := hg.trans gx
          clear hwx gx j0 j1 j2 j3
          have j0 := y0
          have j1 := y1
          have j2 := y2
          have j3 := y3
          clear y0 y1 y2 y3
          generalize wr.heap.size = bx at *
          go_wp2_with fail
          refine (KA.out _).mono ?_
          rintro e s1 ⟨rfl, g⟩
          have jz := gcell g j0
          have z1 := (hg.trans g).size
          replace g := g.trans (World.grownBy_alloc s1 (.cells #[.int .i64 an, .int .i64 ad] 24) none)
          replace j0 := gcell g j0
          replace j1 := gcell g j1
          replace j2 := gcell g j2
          replace j3 := gcell g j3
          replace hg := hg.trans g
          clear g
          have l1 : bx < s1.heap.size := World.block_lt_of_cell? _ _ jz
          have HA := R2.new s1 an ad
          go_wp2_with fail
          refine (KB.out _).mono ?_
          rintro e s2 ⟨rfl, g⟩
          have z2 := (hg.trans g).size
          have l2 := (HA.kept g).lt
          replace g := g.trans (World.grownBy_alloc s2 (.cells #[.int .i64 an, .int .i64 ad] 24) none)
          replace j0 := gcell g j0
          replace j1 := gcell g j1
          replace j2 := gcell g j2
          replace j3 := gcell g j3
          replace HA := HA.kept g
          replace hg := hg.trans g
          clear g
          have HB := R2.new s2 an ad
          go_wp2_with fail
          refine (KC.out _).mono ?_
          rintro e s3 ⟨rfl, g⟩
          replace g := g.trans (World.grownBy_alloc s3 (.cells #[.int .i64 sn, .int .i64 sd] 24) none)
          replace j0 := gcell g j0
          replace j1 := gcell g j1
          replace j2 := gcell g j2
          replace j3 := gcell g j3
          replace HA := HA.kept g
          replace HB := HB.kept g
          replace hg := hg.trans g
          clear g
          have HC := R2.new s3 sn sd
          go_wp2_with fail
          refine (KD.out _).mono ?_
          rintro e s4 ⟨rfl, g⟩
          replace g := g.trans (World.grownBy_alloc s4 (.cells #[.int .i64 sn, .int .i64 sd] 24) none)
          replace j0 := gcell g j0
          replace j1 := gcell g j1
          replace j2 := gcell g j2
          replace j3 := gcell g j3
          replace HA := HA.kept g
          replace HB := HB.kept g
          replace HC := HC.kept g
          replace hg := hg.trans g
          clear g
          have HD := R2.new s4 sn sd
          go_upto_region 17 with fail
          obtain ⟨wt, hwt⟩ : ∃ wt : World, wt = s4.alloc (.cells #[.int .i64 sn, .int .i64 sd] 24) := ⟨_, rfl⟩
          rw [← hwt] at hg HA HB HC HD j0 j1 j2 j3 ⊢
          clear hwt
          go_cut [129] (fun u wx => u = .bool false ∧ wt.grownBy wx none)
          case first =>
            have c0 := HA.c0
            have c1 := HA.c1
            have c2 := HB.c0
            have c3 := HB.c1
            have c4 := HC.c0
            have c5 := HC.c1
            have c6 := HD.c0
            have c7 := HD.c1
            refine wp_region_noPanic ?_
            refine wp_region_held_drew (S := (fun w' => wt.grownBy w' none)) (by kernel_rfl) ?_ (fun hHeld => ?_)
            · (try dsimp only); (repeat (first | assumption | exact grown_refl _ | refine grown_dr ?_ | refine grown_al ?_))
            refine wpAnyH_take (i := 0) (oi := _) (v := .agg #[.int .i64 an, .int .i64 ad]) rfl (by kernel_rfl) (by kernel_rfl) (by kernel_rfl) (fun _ _ _ h => h) (Or.inl ⟨by kernel_rfl, ?_⟩) (by assumption) ?_
            · (intro w hSw; (try dsimp only at hSw); go_simp; have y := gcell hSw c0; have y2 := gcell hSw c1; clear hSw; go_simp; first | done | with_reducible rfl)
            try go_simp
            refine wpAnyH_take (i := 1) (oi := _) (v := .agg #[.int .i64 an, .int .i64 ad]) rfl (by kernel_rfl) (by kernel_rfl) (by kernel_rfl) (fun _ _ _ h => h) (Or.inl ⟨by kernel_rfl, ?_⟩) (by assumption) ?_
            · (intro w hSw; (try dsimp only at hSw); go_simp; have y := gcell hSw c2; have y2 := gcell hSw c3; clear hSw; go_simp; first | done | with_reducible rfl)
            try go_simp
            refine wpAnyH_take (i := 2) (oi := _) (v := .bool false) rfl (by kernel_rfl) (by kernel_rfl) (by kernel_rfl) (fun _ _ _ h => h) (Or.inl ⟨by kernel_rfl, ?_⟩) (by assumption) ?_
            · (intro w hSw; (try dsimp only at hSw); go_simp; all_goals (first | done | simp))
            try go_simp
            refine wpAnyH_take (i := 3) (oi := _) (v := ?_) rfl (by kernel_rfl) (by kernel_rfl) (by kernel_rfl) (fun _ _ _ h => h) (Or.inl ⟨by rfl, ?_⟩) (by assumption) ?_
            rotate_left 1
            · (intro w hSw; (try dsimp only at hSw); go_simp; first | done | with_reducible rfl)
            try go_simp
            refine wpAnyH_take (i := 4) (oi := _) (v := ?_) rfl (by kernel_rfl) (by kernel_rfl) (by kernel_rfl) (fun _ _ _ h => h) (Or.inl ⟨by kernel_rfl, ?_⟩) (by assumption) ?_
            rotate_left 1
            · (intro w hSw; (try dsimp only at hSw); go_simp; first | done | with_reducible rfl)
            try go_simp
            refine wpAnyH_take (i := 5) (oi := _) (v := ?_) rfl (by kernel_rfl) (by kernel_rfl) (by kernel_rfl) (fun _ _ _ h => h) (Or.inl ⟨by kernel_rfl, ?_⟩) (by assumption) ?_
            rotate_left 1
            · (intro w hSw; (try dsimp only at hSw); go_simp; first | done | with_reducible rfl)
            try go_simp
            refine wpAnyH_take (i := 6) (oi := _) (v := .bool false) rfl (by kernel_rfl) (by kernel_rfl) (by kernel_rfl) (fun _ _ _ h => h) (Or.inl ⟨by kernel_rfl, ?_⟩) (by assumption) ?_
            · (intro w hSw; (try dsimp only at hSw); go_simp; all_goals (first | done | simp))
            try go_simp
            refine wpAnyH_take (i := 7) (oi := _) (v := ?_) rfl (by kernel_rfl) (by kernel_rfl) (by kernel_rfl) (fun _ _ _ h => h) (Or.inl ⟨by rfl, ?_⟩) (by assumption) ?_
            rotate_left 1
            · (intro w hSw; (try dsimp only at hSw); go_simp; first | done | with_reducible rfl)
            try go_simp
            refine wpAnyH_take (i := 8) (oi := _) (v := ?_) rfl (by kernel_rfl) (by kernel_rfl) (by kernel_rfl) (fun _ _ _ h => h) (Or.inl ⟨by rfl, ?_⟩) (by assumption) ?_
            rotate_left 1
            · (intro w hSw; (try dsimp only at hSw); go_simp; first | done | with_reducible rfl)
            try go_simp
            refine wpAnyH_take (i := 9) (oi := _) (v := .agg #[.int .i64 sn, .int .i64 sd]) rfl (by kernel_rfl) (by kernel_rfl) (by kernel_rfl) (fun _ _ _ h => h) (Or.inl ⟨by kernel_rfl, ?_⟩) (by assumption) ?_
            · (intro w hSw; (try dsimp only at hSw); go_simp; have y := gcell hSw c4; have y2 := gcell hSw c5; clear hSw; go_simp; first | done | with_reducible rfl)
            try go_simp
            refine wpAnyH_take (i := 10) (oi := _) (v := .agg #[.int .i64 sn, .int .i64 sd]) rfl (by kernel_rfl) (by kernel_rfl) (by kernel_rfl) (fun _ _ _ h => h) (Or.inl ⟨by kernel_rfl, ?_⟩) (by assumption) ?_
            · (intro w hSw; (try dsimp only at hSw); go_simp; have y := gcell hSw c6; have y2 := gcell hSw c7; clear hSw; go_simp; first | done | with_reducible rfl)
            try go_simp
            refine wpAnyH_take (i := 11) (oi := _) (v := .bool false) rfl (by kernel_rfl) (by kernel_rfl) (by kernel_rfl) (fun _ _ _ h => h) (Or.inl ⟨by kernel_rfl, ?_⟩) (by assumption) ?_
            · (intro w hSw; (try dsimp only at hSw); go_simp; all_goals (first | done | simp))
            try go_simp
            refine wpAnyH_take (i := 12) (oi := _) (v := ?_) rfl (by kernel_rfl) (by kernel_rfl) (by kernel_rfl) (fun _ _ _ h => h) (Or.inl ⟨by rfl, ?_⟩) (by assumption) ?_
            rotate_left 1
            · (intro w hSw; (try dsimp only at hSw); go_simp; first | done | with_reducible rfl)
            try go_simp
            refine wpAnyH_take (i := 13) (oi := _) (v := ?_) rfl (by kernel_rfl) (by kernel_rfl) (by kernel_rfl) (fun _ _ _ h => h) (Or.inl ⟨by rfl, ?_⟩) (by assumption) ?_
            rotate_left 1
            · (intro w hSw; (try dsimp only at hSw); go_simp; first | done | with_reducible rfl)
            try go_simp
            refine wpAnyH_take (i := 14) (oi := _) (v := ?_) rfl (by kernel_rfl) (by kernel_rfl) (by kernel_rfl) (fun _ _ _ h => h) (Or.inl ⟨by kernel_rfl, ?_⟩) (by assumption) ?_
            rotate_left 1
            · (intro w hSw; (try dsimp only at hSw); go_simp; first | done | with_reducible rfl)
            try go_simp
            refine wpAnyH_take (i := 15) (oi := _) (v := ?_) rfl (by kernel_rfl) (by kernel_rfl) (by kernel_rfl) (fun _ _ _ h => h) (Or.inl ⟨by kernel_rfl, ?_⟩) (by assumption) ?_
            rotate_left 1
            · (intro w hSw; (try dsimp only at hSw); go_simp; first | done | with_reducible rfl)
            try go_simp
            refine wpAnyH_take (i := 16) (oi := _) (v := .bool false) rfl (by kernel_rfl) (by kernel_rfl) (by kernel_rfl) (fun _ _ _ h => h) (Or.inl ⟨by kernel_rfl, ?_⟩) (by assumption) ?_
            · (intro w hSw; (try dsimp only at hSw); go_simp; all_goals (first | done | simp))
            try go_simp
            refine wpAnyH_take (i := 17) (oi := _) (v := ?_) rfl (by kernel_rfl) (by kernel_rfl) (by kernel_rfl) (fun _ _ _ h => h) (Or.inl ⟨by rfl, ?_⟩) (by assumption) ?_
            rotate_left 1
            · (intro w hSw; (try dsimp only at hSw); go_simp; first | done | with_reducible rfl)
            try go_simp
            refine wpAnyH_take (i := 18) (oi := _) (v := ?_) rfl (by kernel_rfl) (by kernel_rfl) (by kernel_rfl) (fun _ _ _ h => h) (Or.inl ⟨by rfl, ?_⟩) (by assumption) ?_
            rotate_left 1
            · (intro w hSw; (try dsimp only at hSw); go_simp; first | done | with_reducible rfl)
            try go_simp
            refine wpAnyH_take (i := 19) (oi := _) (v := ?_) rfl (by kernel_rfl) (by kernel_rfl) (by kernel_rfl) (fun _ _ _ h => h) (Or.inl ⟨by kernel_rfl, ?_⟩) (by assumption) ?_
            rotate_left 1
            · (intro w hSw; (try dsimp only at hSw); go_simp; first | done | with_reducible rfl)
            try go_simp
            refine wpAnyH_take (i := 20) (oi := _) (v := .agg #[.int .i64 p, .int .i64 q]) rfl (by kernel_rfl) (by kernel_rfl) (by kernel_rfl) (fun _ _ _ h => h) (Or.inl ⟨by kernel_rfl, ?_⟩) (by assumption) ?_
            · (intro w hSw; (try dsimp only at hSw); go_simp; have y := gcell hSw j0; have y2 := gcell hSw j1; clear hSw; go_simp; first | done | with_reducible rfl)
            try go_simp
            refine wpAnyH_take (i := 21) (oi := _) (v := ?_) rfl (by kernel_rfl) (by kernel_rfl) (by kernel_rfl) (fun _ _ _ h => h) (Or.inl ⟨by kernel_rfl, ?_⟩) (by assumption) ?_
            rotate_left 1
            · (intro w hSw; (try dsimp only at hSw); go_simp; first | done | with_reducible rfl)
            try go_simp
            refine wpAnyH_take (i := 22) (oi := _) (v := .agg #[.int .i64 r, .int .i64 s]) rfl (by kernel_rfl) (by kernel_rfl) (by kernel_rfl) (fun _ _ _ h => h) (Or.inl ⟨by kernel_rfl, ?_⟩) (by assumption) ?_
            · (intro w hSw; (try dsimp only at hSw); go_simp; have y := gcell hSw j2; have y2 := gcell hSw j3; clear hSw; go_simp; first | done | with_reducible rfl)
            try go_simp
            refine wpAnyH_take (i := 24) (oi := _) (v := ?_) rfl (by kernel_rfl) (by kernel_rfl) (by kernel_rfl) (fun _ _ _ h => h) (Or.inl ⟨by kernel_rfl, ?_⟩) (by assumption) ?_
            rotate_left 1
            · (intro w hSw; (try dsimp only at hSw); go_simp; first | done | with_reducible rfl)
            try go_simp
            refine wpAnyH_take (i := 25) (oi := _) (v := .agg #[.int .i64 p, .int .i64 q]) rfl (by kernel_rfl) (by kernel_rfl) (by kernel_rfl) (fun _ _ _ h => h) (Or.inl ⟨by kernel_rfl, ?_⟩) (by assumption) ?_
            · (intro w hSw; (try dsimp only at hSw); go_simp; have y := gcell hSw j0; have y2 := gcell hSw j1; clear hSw; go_simp; first | done | with_reducible rfl)
            try go_simp
            refine wpAnyH_take (i := 26) (oi := _) (v := ?_) rfl (by kernel_rfl) (by kernel_rfl) (by kernel_rfl) (fun _ _ _ h => h) (Or.inl ⟨by kernel_rfl, ?_⟩) (by assumption) ?_
            rotate_left 1
            · (intro w hSw; (try dsimp only at hSw); go_simp; first | done | with_reducible rfl)
            try go_simp
            refine wpAnyH_take (i := 27) (oi := _) (v := .agg #[.int .i64 r, .int .i64 s]) rfl (by kernel_rfl) (by kernel_rfl) (by kernel_rfl) (fun _ _ _ h => h) (Or.inl ⟨by kernel_rfl, ?_⟩) (by assumption) ?_
            · (intro w hSw; (try dsimp only at hSw); go_simp; have y := gcell hSw j2; have y2 := gcell hSw j3; clear hSw; go_simp; first | done | with_reducible rfl)
            try go_simp
            refine wpAnyH_ready (rs := [23]) (by kernel_rfl) (by simp) ?_
            refine AllReadyH.cons (o := _) rfl (fun K hK => ?_) AllReadyH.nil
            go_simp
            refine (KE.out _).mono ?_
            rintro e t1 ⟨rfl, g⟩
            have gt1 : wt.grownBy t1 none := (grown_dr (grown_refl _)).trans g
            clear g
            first | (refine hK.out _ _ ?_ (fun hHeld => ?_)) | (go_wp2_with fail; refine hK.out _ _ ?_ (fun hHeld => ?_))
            · (try dsimp only); (repeat (first | assumption | exact grown_refl _ | refine grown_dr ?_ | refine grown_al ?_))
            clear hK K
            refine wpAnyH_ready (rs := [28]) (by kernel_rfl) (by simp) ?_
            refine AllReadyH.cons (o := _) rfl (fun K hK => ?_) AllReadyH.nil
            go_simp
            refine (KF.out _).mono ?_
            rintro e t2 ⟨rfl, g⟩
            have gt2 : wt.grownBy t2 none := gt1.trans g
            clear g
            first | (refine hK.out _ _ ?_ (fun hHeld => ?_)) | (go_wp2_with fail; refine hK.out _ _ ?_ (fun hHeld => ?_))
            · (try dsimp only); (repeat (first | assumption | exact grown_refl _ | refine grown_dr ?_ | refine grown_al ?_))
            clear hK K
            refine wpAnyH_take (i := 29) (oi := _) (v := .bool false) rfl (by kernel_rfl) (by kernel_rfl) (by kernel_rfl) (fun _ _ _ h => h) (Or.inl ⟨by kernel_rfl, ?_⟩) (by assumption) ?_
            · (intro w hSw; (try dsimp only at hSw); go_simp; all_goals (first | done | simp))
            try go_simp
            refine wpAnyH_take (i := 30) (oi := _) (v := ?_) rfl (by kernel_rfl) (by kernel_rfl) (by kernel_rfl) (fun _ _ _ h => h) (Or.inl ⟨by rfl, ?_⟩) (by assumption) ?_
            rotate_left 1
            · (intro w hSw; (try dsimp only at hSw); go_simp; first | done | with_reducible rfl)
            try go_simp
            refine wpAnyH_done (by kernel_rfl) ?_ _
            refine NoPanic.normal ?_
            go_simp
            go_wp2_with fail
            go_meet
            exact ⟨rfl, gt2⟩
          case rest =>
            obtain ⟨rfl, g⟩ := hcut
            replace HA := HA.kept g
            replace HB := HB.kept g
            replace j0 := gcell g j0
            replace j1 := gcell g j1
            replace j2 := gcell g j2
            replace j3 := gcell g j3
            replace hg := hg.trans g
            clear g HC HD
            go_wp2_with fail
            refine (KG.out _).mono ?_
            rintro e s5 ⟨rfl, g⟩
            replace HA := HA.kept g
            replace HB := HB.kept g
            replace j0 := gcell g j0
            replace j1 := gcell g j1
            replace j2 := gcell g j2
            replace j3 := gcell g j3
            replace hg := hg.trans g
            clear g
            have m1 : s1.heap.size ≠ bx := Ne.symm (Nat.ne_of_lt l1)
            have m2 : bx ≠ s1.heap.size := Nat.ne_of_lt l1
            have m3 : s1.heap.size ≠ s2.heap.size := Nat.ne_of_lt l2
            have m4 : s2.heap.size ≠ s1.heap.size := Ne.symm m3
            have k0 := HA.c0
            have k1 := HA.c1
            have f0 := HA.f0
            have f1 := HA.f1
            have kl := HA.lt
            go_wp2_with fail
            refine (KH.out _).mono ?_
            rintro e s6 ⟨rfl, g⟩
            replace HB := ((HB.far m4).far m4).kept g
            replace HA := (HA.set mn md).kept g
            replace hg := (grown_set (grown_set hg (.inl z1)) (.inl z1)).trans g
            clear g k0 k1 f0 f1 kl j0 j1 j2 j3 m1 m2
            have k0 := HA.c0
            have k1 := HA.c1
            have k2 := HB.c0
            have k3 := HB.c1
            have f2 := HB.f0
            have f3 := HB.f1
            have kl := HB.lt
            go_wp2_with fail
            go_roundw
            case rel => exact ⟨k + 1, by omega, by go_num, grown_set (grown_set hg (.inl z2)) (.inl z2)⟩
            case measure => simp [intOf]; omega
        · obtain rfl : k = 6 := by omega
          go_wp2_with fail
          go_ret
          exact ⟨rfl, gg.trans hg⟩
end Go.Proofs.YtekhdcfnpgkodaaDoor
