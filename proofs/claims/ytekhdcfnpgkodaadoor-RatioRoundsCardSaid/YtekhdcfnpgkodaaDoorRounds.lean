/-
  The law RatioRounds.
-/
import Derived.Test.YtekhdcfnpgkodaaDoorDag
import Derived.Test.YtekhdcfnpgkodaaDoorOrdM
namespace Go.Proofs.YtekhdcfnpgkodaaDoor
open Go.RowKit
theorem row10 (w : World) (x0 x1 x2 x3 x4 x5 x6 x7 x8 x9 : Int) (h0 : i64 x0) (h1 : i64 x1) (h2 : i64 x2) (h3 : i64 x3) (h4 : i64 x4) (h5 : i64 x5) (h6 : i64 x6) (h7 : i64 x7) (h8 : i64 x8) (h9 : i64 x9) :
    ∃ (wl : World) (f : Nat → Int), wl = w.alloc (.cells #[.int .i64 x0, .int .i64 x1, .int .i64 x2, .int .i64 x3, .int .i64 x4, .int .i64 x5, .int .i64 x6, .int .i64 x7, .int .i64 x8, .int .i64 x9] 24) ∧ w.grownBy wl none ∧
      (∀ j : Nat, j < 10 → wl.cell? ⟨w.heap.size, j, none⟩ = some (.int .i64 (f j)) ∧ i64 (f j)) := by
  refine ⟨_, fun j => [x0, x1, x2, x3, x4, x5, x6, x7, x8, x9].getD j 0, rfl, World.grownBy_alloc w _ none, fun j hj => ?_⟩
  rw [cell_at rfl]
  rcases (show j = 0 ∨ j = 1 ∨ j = 2 ∨ j = 3 ∨ j = 4 ∨ j = 5 ∨ j = 6 ∨ j = 7 ∨ j = 8 ∨ j = 9 by omega) with rfl | rfl | rfl | rfl | rfl | rfl | rfl | rfl | rfl | rfl
  · exact ⟨rfl, h0⟩
  · exact ⟨rfl, h1⟩
  · exact ⟨rfl, h2⟩
  · exact ⟨rfl, h3⟩
  · exact ⟨rfl, h4⟩
  · exact ⟨rfl, h5⟩
  · exact ⟨rfl, h6⟩
  · exact ⟨rfl, h7⟩
  · exact ⟨rfl, h8⟩
  · exact ⟨rfl, h9⟩
theorem row5 (w : World) (rn rd how : Int) : ∃ (wi : World) (f : Nat → Int), wi = (w.alloc (.cells #[.int .i64 rn, .int .i64 rd] 24)).alloc (.cells #[.int .i64 1, .int .i64 2, .int .i64 3, .int .i64 4, .int .i64 how] 3) ∧ w.grownBy wi none ∧ R2 wi w.heap.size rn rd ∧
      (∀ j : Nat, j < 5 → wi.cell? ⟨w.heap.size + 1, j, none⟩ = some (.int .i64 (f j))) := by
  refine ⟨_, fun j => [1, 2, 3, 4, how].getD j 0, rfl, (World.grownBy_alloc w _ none).trans (World.grownBy_alloc _ _ none), (R2.new w rn rd).kept (World.grownBy_alloc _ _ none), fun j hj => ?_⟩
  rw [cell_at (by simp)]
  rcases (show j = 0 ∨ j = 1 ∨ j = 2 ∨ j = 3 ∨ j = 4 by omega) with rfl | rfl | rfl | rfl | rfl <;> rfl
set_option maxRecDepth 100000 in
set_option maxHeartbeats 4000000 in
theorem rounds_walk (how n0 n1 n2 n3 a1 a2 b1 b2 : Int) (hA : i64 a1 ∧ i64 a2) (hB : i64 b1 ∧ i64 b2) (w0 : World) (hb : Base w0) : Calls Tryd.prog 4 #[.agg #[.int .i64 n0, .int .i64 n1, .int .i64 n2, .int .i64 n3, .int .i64 a1, .int .i64 a2, .int .i64 b1, .int .i64 b2], .int .i64 how] w0 fun e w' => e = .returned (.bool true) ∧ w0.grownBy w' none := by
  have HP : Hid (∀ (i : Nat) v, #[Value.int .i64 n0, .int .i64 n1, .int .i64 n2, .int .i64 n3, .int .i64 a1, .int .i64 a2, .int .i64 b1, .int .i64 b2][i]? = some v → (w0.alloc (.cells #[.int .i64 n0, .int .i64 n1, .int .i64 n2, .int .i64 n3, .int .i64 a1, .int .i64 a2, .int .i64 b1, .int .i64 b2] 26)).cell? ⟨w0.heap.size, i, none⟩ = some v) := Lib.hid fun i v hv => (cell_at rfl).trans hv
  have gg := World.grownBy_alloc w0 (.cells #[.int .i64 n0, .int .i64 n1, .int .i64 n2, .int .i64 n3, .int .i64 a1, .int .i64 a2, .int .i64 b1, .int .i64 b2] 26) none
  have S := Lib.hid (sane_k _ (hb.none_ gg))
  obtain ⟨z1, z2⟩ := tm_in n0 536870912 (by decide)
  have KH := Lib.hid (of_r (n0.tmod 536870912) 2 ⟨by omega, by omega⟩ ⟨by decide, by decide⟩)
  have HI := Lib.hid (of_i64 (n0.tmod 536870912) 2)
  generalize ofN (n0.tmod 536870912) 2 = hn at *
  generalize ofD (n0.tmod 536870912) 2 = hd at *
  generalize ofE (n0.tmod 536870912) 2 = he at *
  clear hb z1 z2
  go_enter Tryd.func4, Tryd.ntmps4
  go_wp2_with fail
  refine S.out.mono ?_
  rintro e v1 ⟨rfl, g⟩
  have q0 := gcell g (HP.out 0 _ rfl)
  have q1 := gcell g (HP.out 1 _ rfl)
  have q2 := gcell g (HP.out 2 _ rfl)
  have q3 := gcell g (HP.out 3 _ rfl)
  have q4 := gcell g (HP.out 4 _ rfl)
  have q5 := gcell g (HP.out 5 _ rfl)
  have q6 := gcell g (HP.out 6 _ rfl)
  have q7 := gcell g (HP.out 7 _ rfl)
  replace gg := gg.trans g
  clear g HP S
  go_wp2_with fail
  refine (KH.out _).mono ?_
  rintro e v2 ⟨rfl, g⟩
  have HR := R2.new v2 hn hd
  have g2 := g.trans (World.grownBy_alloc v2 (.cells #[.int .i64 hn, .int .i64 hd] 24) none)
  replace q0 := gcell g2 q0
  replace q1 := gcell g2 q1
  replace q2 := gcell g2 q2
  replace q3 := gcell g2 q3
  replace q4 := gcell g2 q4
  replace q5 := gcell g2 q5
  replace q6 := gcell g2 q6
  replace q7 := gcell g2 q7
  replace gg := gg.trans g2
  clear g g2 KH
  obtain ⟨v3, hv3⟩ : ∃ v3, v3 = v2.alloc (.cells #[.int .i64 hn, .int .i64 hd] 24) := ⟨_, rfl⟩
  rw [← hv3] at HR gg q0 q1 q2 q3 q4 q5 q6 q7
  have H3 := Lib.hid hv3
  clear hv3
  have h0 := HR.c0
  have h1 := HR.c1
  go_wp2_with fail
  rw [← H3.out]
  refine wp_region_noPanic ?_
  refine wp_region_held_drew (S := (fun w' => v3.grownBy w' none)) (by kernel_rfl) ?_ (fun hHeld => ?_)
  · (try dsimp only); (repeat (first | assumption | exact grown_refl _ | refine grown_dr ?_ | refine grown_al ?_))
  refine wpAnyH_take (i := 0) (oi := _) (v := ?_) rfl (by kernel_rfl) (by kernel_rfl) (by kernel_rfl) (fun _ _ _ h => h) (Or.inl ⟨by rfl, ?_⟩) (by assumption) ?_
  rotate_left 1
  · (intro w hSw; (try dsimp only at hSw); go_simp; first | done | with_reducible rfl)
  try go_simp
  refine wpAnyH_take (i := 1) (oi := _) (v := ?_) rfl (by kernel_rfl) (by kernel_rfl) (by kernel_rfl) (fun _ _ _ h => h) (Or.inl ⟨by rfl, ?_⟩) (by assumption) ?_
  rotate_left 1
  · (intro w hSw; (try dsimp only at hSw); go_simp; first | done | with_reducible rfl)
  try go_simp
  refine wpAnyH_take (i := 2) (oi := _) (v := .int .i64 n0) rfl (by kernel_rfl) (by kernel_rfl) (by kernel_rfl) (fun _ _ _ h => h) (Or.inl ⟨by kernel_rfl, ?_⟩) (by assumption) ?_
  · (intro w hSw; (try dsimp only at hSw); go_simp; have y := gcell hSw q0; clear hSw; go_simp; first | done | with_reducible rfl)
  try go_simp
  refine wpAnyH_take (i := 3) (oi := _) (v := ?_) rfl (by kernel_rfl) (by kernel_rfl) (by kernel_rfl) (fun _ _ _ h => h) (Or.inl ⟨by rfl, ?_⟩) (by assumption) ?_
  rotate_left 1
  · (intro w hSw; (try dsimp only at hSw); go_simp; first | done | with_reducible rfl)
  try go_simp
  refine wpAnyH_take (i := 4) (oi := _) (v := ?_) rfl (by kernel_rfl) (by kernel_rfl) (by kernel_rfl) (fun _ _ _ h => h) (Or.inl ⟨by rfl, ?_⟩) (by assumption) ?_
  rotate_left 1
  · (intro w hSw; (try dsimp only at hSw); go_simp; first | done | with_reducible rfl)
  try go_simp
  refine wpAnyH_take (i := 5) (oi := _) (v := .int .i64 n1) rfl (by kernel_rfl) (by kernel_rfl) (by kernel_rfl) (fun _ _ _ h => h) (Or.inl ⟨by kernel_rfl, ?_⟩) (by assumption) ?_
  · (intro w hSw; (try dsimp only at hSw); go_simp; have y := gcell hSw q1; clear hSw; go_simp; first | done | with_reducible rfl)
  try go_simp
  refine wpAnyH_take (i := 7) (oi := _) (v := ?_) rfl (by kernel_rfl) (by kernel_rfl) (by kernel_rfl) (fun _ _ _ h => h) (Or.inl ⟨by rfl, ?_⟩) (by assumption) ?_
  rotate_left 1
  · (intro w hSw; (try dsimp only at hSw); go_simp; first | done | with_reducible rfl)
  try go_simp
  refine wpAnyH_take (i := 8) (oi := _) (v := ?_) rfl (by kernel_rfl) (by kernel_rfl) (by kernel_rfl) (fun _ _ _ h => h) (Or.inl ⟨by rfl, ?_⟩) (by assumption) ?_
  rotate_left 1
  · (intro w hSw; (try dsimp only at hSw); go_simp; first | done | with_reducible rfl)
  try go_simp
  refine wpAnyH_take (i := 9) (oi := _) (v := .int .i64 n2) rfl (by kernel_rfl) (by kernel_rfl) (by kernel_rfl) (fun _ _ _ h => h) (Or.inl ⟨by kernel_rfl, ?_⟩) (by assumption) ?_
  · (intro w hSw; (try dsimp only at hSw); go_simp; have y := gcell hSw q2; clear hSw; go_simp; first | done | with_reducible rfl)
  try go_simp
  refine wpAnyH_take (i := 10) (oi := _) (v := ?_) rfl (by kernel_rfl) (by kernel_rfl) (by kernel_rfl) (fun _ _ _ h => h) (Or.inl ⟨by rfl, ?_⟩) (by assumption) ?_
  rotate_left 1
  · (intro w hSw; (try dsimp only at hSw); go_simp; first | done | with_reducible rfl)
  try go_simp
  refine wpAnyH_take (i := 11) (oi := _) (v := ?_) rfl (by kernel_rfl) (by kernel_rfl) (by kernel_rfl) (fun _ _ _ h => h) (Or.inl ⟨by rfl, ?_⟩) (by assumption) ?_
  rotate_left 1
  · (intro w hSw; (try dsimp only at hSw); go_simp; first | done | with_reducible rfl)
  try go_simp
  refine wpAnyH_take (i := 12) (oi := _) (v := .int .i64 n3) rfl (by kernel_rfl) (by kernel_rfl) (by kernel_rfl) (fun _ _ _ h => h) (Or.inl ⟨by kernel_rfl, ?_⟩) (by assumption) ?_
  · (intro w hSw; (try dsimp only at hSw); go_simp; have y := gcell hSw q3; clear hSw; go_simp; first | done | with_reducible rfl)
  try go_simp
  refine wpAnyH_take (i := 14) (oi := _) (v := .agg #[.int .i64 hn, .int .i64 hd]) rfl (by kernel_rfl) (by kernel_rfl) (by kernel_rfl) (fun _ _ _ h => h) (Or.inl ⟨by kernel_rfl, ?_⟩) (by assumption) ?_
  · (intro w hSw; (try dsimp only at hSw); go_simp; have y := gcell hSw h0; have y2 := gcell hSw h1; clear hSw; go_simp; first | done | with_reducible rfl)
  try go_simp
  refine wpAnyH_take (i := 15) (oi := _) (v := ?_) rfl (by kernel_rfl) (by kernel_rfl) (by kernel_rfl) (fun _ _ _ h => h) (Or.inl ⟨by rfl, ?_⟩) (by assumption) ?_
  rotate_left 1
  · (intro w hSw; (try dsimp only at hSw); go_simp; first | done | with_reducible rfl)
  try go_simp
  refine wpAnyH_take (i := 16) (oi := _) (v := .agg #[.int .i64 a1, .int .i64 a2]) rfl (by kernel_rfl) (by kernel_rfl) (by kernel_rfl) (fun _ _ _ h => h) (Or.inl ⟨by kernel_rfl, ?_⟩) (by assumption) ?_
  · (intro w hSw; (try dsimp only at hSw); go_simp; have y := gcell hSw q4; have y2 := gcell hSw q5; clear hSw; go_simp; first | done | with_reducible rfl)
  try go_simp
  refine wpAnyH_take (i := 17) (oi := _) (v := ?_) rfl (by kernel_rfl) (by kernel_rfl) (by kernel_rfl) (fun _ _ _ h => h) (Or.inl ⟨by rfl, ?_⟩) (by assumption) ?_
  rotate_left 1
  · (intro w hSw; (try dsimp only at hSw); go_simp; first | done | with_reducible rfl)
  try go_simp
  refine wpAnyH_take (i := 18) (oi := _) (v := .agg #[.int .i64 b1, .int .i64 b2]) rfl (by kernel_rfl) (by kernel_rfl) (by kernel_rfl) (fun _ _ _ h => h) (Or.inl ⟨by kernel_rfl, ?_⟩) (by assumption) ?_
  · (intro w hSw; (try dsimp only at hSw); go_simp; have y := gcell hSw q6; have y2 := gcell hSw q7; clear hSw; go_simp; first | done | with_reducible rfl)
  try go_simp
  refine wpAnyH_take (i := 21) (oi := _) (v := ?_) rfl (by kernel_rfl) (by kernel_rfl) (by kernel_rfl) (fun _ _ _ h => h) (Or.inl ⟨by rfl, ?_⟩) (by assumption) ?_
  rotate_left 1
  · (intro w hSw; (try dsimp only at hSw); go_simp; first | done | with_reducible rfl)
  try go_simp
  refine wpAnyH_ready (rs := [6]) (by kernel_rfl) (by simp) ?_
  refine AllReadyH.cons (o := _) rfl (fun K hK => ?_) AllReadyH.nil
  go_simp
  refine (made_k n0 n1 _).mono ?_
  rintro e t1 ⟨rfl, g⟩
  have gt1 : v3.grownBy t1 none := (grown_dr (grown_refl _)).trans g
  clear g
  first | (refine hK.out _ _ ?_ (fun hHeld => ?_)) | (go_wp2_with fail; refine hK.out _ _ ?_ (fun hHeld => ?_))
  · (try dsimp only); (repeat (first | assumption | exact grown_refl _ | refine grown_dr ?_ | refine grown_al ?_))
  clear hK K
  refine wpAnyH_ready (rs := [13]) (by kernel_rfl) (by simp) ?_
  refine AllReadyH.cons (o := _) rfl (fun K hK => ?_) AllReadyH.nil
  go_simp
  refine (made_k n2 n3 _).mono ?_
  rintro e t2 ⟨rfl, g⟩
  have gt2 : v3.grownBy t2 none := gt1.trans g
  clear g
  first | (refine hK.out _ _ ?_ (fun hHeld => ?_)) | (go_wp2_with fail; refine hK.out _ _ ?_ (fun hHeld => ?_))
  · (try dsimp only); (repeat (first | assumption | exact grown_refl _ | refine grown_dr ?_ | refine grown_al ?_))
  clear hK K
  refine wpAnyH_ready (rs := [19]) (by kernel_rfl) (by simp) ?_
  refine AllReadyH.cons (o := _) rfl (fun K hK => ?_) AllReadyH.nil
  go_simp
  first | (refine hK.out _ _ ?_ (fun hHeld => ?_)) | (go_wp2_with fail; refine hK.out _ _ ?_ (fun hHeld => ?_))
  · (try dsimp only); (repeat (first | assumption | exact grown_refl _ | refine grown_dr ?_ | refine grown_al ?_))
  clear hK K
  refine wpAnyH_ready (rs := [20]) (by kernel_rfl) (by simp) ?_
  refine AllReadyH.cons (o := _) rfl (fun K hK => ?_) AllReadyH.nil
  go_simp
  first | (refine hK.out _ _ ?_ (fun hHeld => ?_)) | (go_wp2_with fail; refine hK.out _ _ ?_ (fun hHeld => ?_))
  · (try dsimp only); (repeat (first | assumption | exact grown_refl _ | refine grown_dr ?_ | refine grown_al ?_))
  clear hK K
  refine wpAnyH_done (by kernel_rfl) ?_ _
  refine NoPanic.normal ?_
  go_simp
  obtain ⟨m1, m2⟩ := right_ints (made_right n0 n1)
  obtain ⟨m3, m4⟩ := right_ints (made_right n2 n3)
  obtain ⟨wl, f, hwl, gl, hrow⟩ := row10 t2 (madeN n0 n1) (madeD n0 n1) (madeN n2 n3) (madeD n2 n3) hn hd a1 a2 b1 b2 m1 m2 m3 m4 HI.out.1 HI.out.2 hA.1 hA.2 hB.1 hB.2
  rw [← hwl]
  replace gg := gg.trans (gt2.trans gl)
  have HW := Lib.hid hrow
  clear hwl gl hrow m1 m2 m3 m4 HI hA hB HR H3 h0 h1 gt1 gt2 q0 q1 q2 q3 q4 q5 q6 q7
  generalize t2.heap.size = B at *
  go_wp2_with fail
  go_loopw [46] (fun i wr => ∃ k : Nat, k ≤ 5 ∧ i = .int .i64 k ∧ wl.grownBy wr none) (fun i _ => 5 - (intOf i).toNat)
  case atStart => exact ⟨0, by omega, rfl, grown_refl _⟩
  case round =>
    obtain ⟨k, hk, rfl, hg⟩ := hrel
    by_cases hlt : k < 5
    · obtain ⟨c0, i0⟩ := HW.out (k * 2) (by omega)
      obtain ⟨c1, i1⟩ := HW.out (k * 2 + 1) (by omega)
      replace c0 := gcell hg c0
      replace c1 := gcell hg c1
      generalize f (k * 2) = rn at *
      generalize f (k * 2 + 1) = rd at *
      have hd5 : decide ((k : Int) < 5) = true := by simp; omega
      have KA := Lib.hid (fun h => round_k rn rd h i0 i1)
      have KB := Lib.hid (fun h => round_r rn rd h i0 i1)
      clear i0 i1
      go_wp2_with fail
      obtain ⟨wi, hf, hwi, gi, HR, hc⟩ := row5 wr rn rd how
      rw [← hwi]
      have HC := Lib.hid hc
      replace gi := hg.trans gi
      clear hwi hc c0 c1 hg
      generalize wr.heap.size = b at *
      go_loopw [53] (fun i wx => ∃ l : Nat, l ≤ 5 ∧ i = .int .i64 l ∧ wi.grownBy wx none) (fun i _ => 5 - (intOf i).toNat)
      case atStart => exact ⟨0, by omega, rfl, grown_refl _⟩
      case round =>
        obtain ⟨l, hl, rfl, hx⟩ := hrel
        by_cases hlt2 : l < 5
        · have cl := gcell hx (HC.out l hlt2)
          replace HR := HR.kept hx
          have c0 := HR.c0
          have c1 := HR.c1
          generalize hf l = hh at *
          go_wp2_with fail
          refine (KA.out hh _).mono ?_
          rintro e y1 ⟨rfl, g⟩
          replace HR := HR.kept g
          replace hx := hx.trans g
          clear g c0 c1 cl
          have c0 := HR.c0
          have c1 := HR.c1
          go_wp2_with fail
          refine (KB.out hh _).mono ?_
          rintro e y2 ⟨rfl, g⟩
          replace hx := hx.trans g
          clear g c0 c1
          go_wp2_with fail
          go_roundw
          case rel => exact ⟨l + 1, by omega, by go_num, hx⟩
          case measure => simp [intOf]; omega
        · go_wp2_with fail
          go_roundw
          case rel => exact ⟨k + 1, by omega, by go_num, gi.trans hx⟩
          case measure => simp [intOf]; omega
    · go_wp2_with fail
      go_ret
      exact ⟨rfl, gg.trans hg⟩
end Go.Proofs.YtekhdcfnpgkodaaDoor
