/-
  The law's sanity.
-/
import Derived.Test.YtnkemoicgadefaaGreatDoorSaM
namespace Go.Proofs.YtnkemoicgadefaaGreatDoor
open Go.RowKit
attribute [local go_sem] get_mk extract_mk
set_option maxRecDepth 100000 in
set_option maxHeartbeats 2000000 in
theorem sane_k (w : World) : Calls Tryz.prog 4 #[] w fun e w' => e = .returned (.bool true) ∧ w.grownBy w' none := by
  go_enter Tryz.func4, Tryz.ntmps4
  go_wp2_with fail
  refine (example_k _).mono ?_
  rintro e w1 ⟨s1, rfl, z1, x1, r1, g1⟩
  have gg := g1
  have y1 := Nat.lt_of_lt_of_le (Nat.lt_succ_self _) (Nat.succ_le_of_lt x1.sz)
  go_wp2_with fail
  refine (example_k _).mono ?_
  rintro e w2 ⟨s2, rfl, z2, x2, r2, g2⟩
  replace x1 := x1.kept g2
  replace r1 := r1.kept g2
  replace gg := gg.trans g2
  have y2 := Nat.lt_of_lt_of_le (Nat.lt_succ_self _) (Nat.succ_le_of_lt x2.sz)
  go_wp2_with fail
  refine (example_k _).mono ?_
  rintro e w3 ⟨s3, rfl, z3, x3, r3, g3⟩
  replace x1 := x1.kept g3
  replace r1 := r1.kept g3
  replace x2 := x2.kept g3
  replace r2 := r2.kept g3
  replace gg := gg.trans g3
  have y3 := Nat.lt_of_lt_of_le (Nat.lt_succ_self _) (Nat.succ_le_of_lt x3.sz)
  go_wp2_with fail
  refine (example_k _).mono ?_
  rintro e w4 ⟨s4, rfl, z4, x4, r4, g4⟩
  replace x1 := x1.kept g4
  replace r1 := r1.kept g4
  replace x2 := x2.kept g4
  replace r2 := r2.kept g4
  replace x3 := x3.kept g4
  replace r3 := r3.kept g4
  replace gg := gg.trans g4
  have y4 := Nat.lt_of_lt_of_le (Nat.lt_succ_self _) (Nat.succ_le_of_lt x4.sz)
  go_wp2_with fail
  refine (example_k _).mono ?_
  rintro e w5 ⟨s5, rfl, z5, x5, r5, g5⟩
  replace x1 := x1.kept g5
  replace r1 := r1.kept g5
  replace x2 := x2.kept g5
  replace r2 := r2.kept g5
  replace x3 := x3.kept g5
  replace r3 := r3.kept g5
  replace x4 := x4.kept g5
  replace r4 := r4.kept g5
  replace gg := gg.trans g5
  have y5 := Nat.lt_of_lt_of_le (Nat.lt_succ_self _) (Nat.succ_le_of_lt x5.sz)
  have d2 : s1 + 7 < s2 := by omega
  have d3 : s2 + 7 < s3 := by omega
  have d4 : s3 + 7 < s4 := by omega
  have d5 : s4 + 7 < s5 := by omega
  have hw := z1
  clear z2 z3 z4 z5 y1 y2 y3 y4 y5 z1 g1 g2 g3 g4 g5
  have c0 := r2.c 5 rfl
  have f0 := r2.fz 5
  have l0 := r2.lt
  have hq2 : s5 + 7 < w5.heap.size := r5.lt
  go_upto_region 3 with fail
  have gs := grown_setCell w5 (s2 + 7) 5 (.string ⟨#[66, 50]⟩)
  have rn := r2.set 5 (.string ⟨#[66, 50]⟩)
  have hz : (w5.setCell ⟨s2 + 7, 5, none⟩ (.string ⟨#[66, 50]⟩)).heap.size = w5.heap.size := by simp [World.setCell]
  clear c0 f0 l0
  generalize w5.setCell ⟨s2 + 7, 5, none⟩ (.string ⟨#[66, 50]⟩) = w6 at *
  replace x1 := x1.off gs (by omega)
  replace r1 := r1.keptR gs (by simp <;> omega)
  replace x2 := x2.off gs (by omega)
  replace x3 := x3.off gs (by omega)
  replace r3 := r3.keptR gs (by simp <;> omega)
  replace x4 := x4.off gs (by omega)
  replace r4 := r4.keptR gs (by simp <;> omega)
  replace x5 := x5.off gs (by omega)
  replace r5 := r5.keptR gs (by simp <;> omega)
  replace r2 := rn
  replace gg := gg.andThen gs (by rintro j ⟨⟩; exact .inl (by omega))
  clear gs rn
  clear hz
  have c0 := r3.c 4 rfl
  have f0 := r3.fz 4
  have l0 := r3.lt
  have hq3 : s5 + 7 < w6.heap.size := r5.lt
  go_upto_region 4 with fail
  have gs := grown_setCell w6 (s3 + 7) 4 (.slice (some ⟨w6.heap.size, 0, none⟩) 1 1)
  have rn := r3.set 4 (.slice (some ⟨w6.heap.size, 0, none⟩) 1 1)
  have hz : (w6.setCell ⟨s3 + 7, 4, none⟩ (.slice (some ⟨w6.heap.size, 0, none⟩) 1 1)).heap.size = w6.heap.size := by simp [World.setCell]
  clear c0 f0 l0
  generalize w6.setCell ⟨s3 + 7, 4, none⟩ (.slice (some ⟨w6.heap.size, 0, none⟩) 1 1) = w7b at *
  replace x1 := x1.off gs (by omega)
  replace r1 := r1.keptR gs (by simp <;> omega)
  replace x2 := x2.off gs (by omega)
  replace r2 := r2.keptR gs (by simp <;> omega)
  replace x3 := x3.off gs (by omega)
  replace x4 := x4.off gs (by omega)
  replace r4 := r4.keptR gs (by simp <;> omega)
  replace x5 := x5.off gs (by omega)
  replace r5 := r5.keptR gs (by simp <;> omega)
  replace r3 := rn
  replace gg := gg.andThen gs (by rintro j ⟨⟩; exact .inl (by omega))
  clear gs rn
  obtain ⟨w7, ea, qa, ga⟩ := row_of w7b 9 #[.string ⟨#[67, 49]⟩]
  rw [← ea]
  rw [hz] at qa
  clear ea hz
  replace x1 := x1.kept ga
  replace r1 := r1.kept ga
  replace x2 := x2.kept ga
  replace r2 := r2.kept ga
  replace x3 := x3.kept ga
  replace r3 := r3.kept ga
  replace x4 := x4.kept ga
  replace r4 := r4.kept ga
  replace x5 := x5.kept ga
  replace r5 := r5.kept ga
  replace gg := gg.trans ga
  clear ga
  generalize w6.heap.size = Qqa at *
  have c0 := r4.c 14 rfl
  have f0 := r4.fz 14
  have l0 := r4.lt
  have hq4 : s5 + 7 < w7.heap.size := r5.lt
  go_upto_region 5 with fail
  have gs := grown_setCell w7 (s4 + 7) 14 (.slice (some ⟨w7.heap.size, 0, none⟩) 1 1)
  have rn := r4.set 14 (.slice (some ⟨w7.heap.size, 0, none⟩) 1 1)
  have hz : (w7.setCell ⟨s4 + 7, 14, none⟩ (.slice (some ⟨w7.heap.size, 0, none⟩) 1 1)).heap.size = w7.heap.size := by simp [World.setCell]
  clear c0 f0 l0
  generalize w7.setCell ⟨s4 + 7, 14, none⟩ (.slice (some ⟨w7.heap.size, 0, none⟩) 1 1) = w8b at *
  replace x1 := x1.off gs (by omega)
  replace r1 := r1.keptR gs (by simp <;> omega)
  replace x2 := x2.off gs (by omega)
  replace r2 := r2.keptR gs (by simp <;> omega)
  replace x3 := x3.off gs (by omega)
  replace r3 := r3.keptR gs (by simp <;> omega)
  replace x4 := x4.off gs (by omega)
  replace x5 := x5.off gs (by omega)
  replace r5 := r5.keptR gs (by simp <;> omega)
  replace r4 := rn
  replace qa := qa.keptR gs (by simp <;> omega)
  replace gg := gg.andThen gs (by rintro j ⟨⟩; exact .inl (by omega))
  clear gs rn
  obtain ⟨w8, ea, qb, ga⟩ := row_of w8b 9 #[.string ⟨#[88]⟩]
  rw [← ea]
  rw [hz] at qb
  clear ea hz
  replace x1 := x1.kept ga
  replace r1 := r1.kept ga
  replace x2 := x2.kept ga
  replace r2 := r2.kept ga
  replace x3 := x3.kept ga
  replace r3 := r3.kept ga
  replace x4 := x4.kept ga
  replace r4 := r4.kept ga
  replace x5 := x5.kept ga
  replace r5 := r5.kept ga
  replace qa := qa.kept ga
  replace gg := gg.trans ga
  clear ga
  generalize w7.heap.size = Qqb at *
  have c0 := r5.c 16 rfl
  have f0 := r5.fz 16
  have l0 := r5.lt
  have hq5 : s5 + 7 < w8.heap.size := r5.lt
  go_upto_region 6 with fail
  have gs := grown_setCell w8 (s5 + 7) 16 (.int .i64 61)
  have rn := r5.set 16 (.int .i64 61)
  have hz : (w8.setCell ⟨s5 + 7, 16, none⟩ (.int .i64 61)).heap.size = w8.heap.size := by simp [World.setCell]
  clear c0 f0 l0
  generalize w8.setCell ⟨s5 + 7, 16, none⟩ (.int .i64 61) = w9 at *
  replace x1 := x1.off gs (by omega)
  replace r1 := r1.keptR gs (by simp <;> omega)
  replace x2 := x2.off gs (by omega)
  replace r2 := r2.keptR gs (by simp <;> omega)
  replace x3 := x3.off gs (by omega)
  replace r3 := r3.keptR gs (by simp <;> omega)
  replace x4 := x4.off gs (by omega)
  replace r4 := r4.keptR gs (by simp <;> omega)
  replace x5 := x5.off gs (by omega)
  replace r5 := rn
  replace qa := qa.keptR gs (by simp <;> omega)
  replace qb := qb.keptR gs (by simp <;> omega)
  replace gg := gg.andThen gs (by rintro j ⟨⟩; exact .inl (by omega))
  clear gs rn
  clear hz
  have O1 := Lib.hid (fun W (g : w9.grownBy W none) => (exOffs x1 r1).kept g)
  obtain ⟨v2, o2⟩ := exOffs2 x2 r2
  have O2 := Lib.hid (fun W (g : w9.grownBy W none) => o2.kept g)
  obtain ⟨v3, o3⟩ := exOffs3 x3 r3 qa
  have O3 := Lib.hid (fun W (g : w9.grownBy W none) => o3.kept g)
  obtain ⟨v4, o4⟩ := exOffs4 x4 r4 qb
  have O4 := Lib.hid (fun W (g : w9.grownBy W none) => o4.kept g)
  obtain ⟨v5, o5⟩ := exOffs5 x5 r5
  have O5 := Lib.hid (fun W (g : w9.grownBy W none) => o5.kept g)
  have X1 := Lib.hid x1
  have R1 := Lib.hid r1
  have GG := Lib.hid gg
  have gh := grown_refl w9
  clear x1 x2 x3 x4 x5 r1 r2 r3 r4 r5 qa qb o2 o3 o4 o5 d2 d3 d4 d5 hw gg hq2 hq3 hq4 hq5
  go_wp2_with fail
  refine (check_k _ _ _ _ _ _ (O1.out _ gh)).mono ?_
  rintro e w10 ⟨rfl, g⟩
  rw [check_exL]
  replace gh := gh.trans g
  clear g 
  go_wp2_with fail
  refine (check_k _ _ _ _ _ _ (O2.out _ gh)).mono ?_
  rintro e w11 ⟨rfl, g⟩
  rw [check_exTwice]
  replace gh := gh.trans g
  clear g O2
  go_wp2_with fail
  refine (check_k _ _ _ _ _ _ (O3.out _ gh)).mono ?_
  rintro e w12 ⟨rfl, g⟩
  rw [check_exCirc]
  replace gh := gh.trans g
  clear g O3
  go_wp2_with fail
  refine (check_k _ _ _ _ _ _ (O4.out _ gh)).mono ?_
  rintro e w13 ⟨rfl, g⟩
  rw [check_exNone]
  replace gh := gh.trans g
  clear g O4
  go_wp2_with fail
  refine (check_k _ _ _ _ _ _ (O5.out _ gh)).mono ?_
  rintro e w14 ⟨rfl, g⟩
  rw [check_exFar]
  replace gh := gh.trans g
  clear g O5
  go_wp2_with fail
  refine (needs_k _ _ _ _ _ sC1 (by decide) (fun x hx => len8 (by revert x; decide)) _ (O1.out _ gh)).mono ?_
  rintro e w20 ⟨B1, d1, rfl, hst, g⟩
  rw [needs_C1] at hst
  rw [needs_C1]
  replace gh := gh.trans g
  clear g
  go_wp2_with fail
  refine (sameT_r B1 3 d1 [sA1, sB1, sB2] _ 3 3 [sA1, sB1, sB2] _ (hst.kept (World.grownBy_alloc w20 _ none)) (strs_row (l := [sA1, sB1, sB2]) (Row.new w20 9 _) rfl rfl (by decide) (fun x hx => len8 (by simp at hx; first | (subst hx; decide) | (rcases hx with rfl | rfl | rfl | rfl <;> decide) | (rcases hx with rfl | rfl | rfl <;> decide) | (rcases hx with rfl | rfl <;> decide))))).mono ?_
  rintro e w21 ⟨rfl, g⟩
  rw [decide_eq_true rfl]
  replace gh := (gh.trans (World.grownBy_alloc w20 _ none)).trans g
  clear g hst
  go_wp2_with fail
  refine (needs_k _ _ _ _ _ sA1 (by decide) (fun x hx => len8 (by revert x; decide)) _ (O1.out _ gh)).mono ?_
  rintro e w22 ⟨B2, d2, rfl, hst, g⟩
  rw [needs_A1] at hst
  rw [needs_A1]
  replace gh := gh.trans g
  clear g
  clear hst
  go_wp2_with fail
  refine (needs_k _ _ _ _ _ sX (by decide) (fun x hx => len8 (by revert x; decide)) _ (O1.out _ gh)).mono ?_
  rintro e w23 ⟨B3, d3, rfl, hst, g⟩
  rw [needs_X] at hst
  rw [needs_X]
  replace gh := gh.trans g
  clear g
  clear hst
  go_wp2_with fail
  refine (order_k _ _ _ _ _ _ (O1.out _ gh)).mono ?_
  rintro e w24 ⟨B4, d4, rfl, hst, g⟩
  rw [order_ex] at hst
  rw [order_ex]
  replace gh := gh.trans g
  clear g
  go_wp2_with fail
  refine (sameT_r B4 4 d4 [sA1, sB1, sB2, sC1] _ 4 4 [sA1, sB1, sB2, sC1] _ (hst.kept (World.grownBy_alloc w24 _ none)) (strs_row (l := [sA1, sB1, sB2, sC1]) (Row.new w24 9 _) rfl rfl (by decide) (fun x hx => len8 (by simp at hx; first | (subst hx; decide) | (rcases hx with rfl | rfl | rfl | rfl <;> decide) | (rcases hx with rfl | rfl | rfl <;> decide) | (rcases hx with rfl | rfl <;> decide))))).mono ?_
  rintro e w25 ⟨rfl, g⟩
  rw [decide_eq_true rfl]
  replace gh := (gh.trans (World.grownBy_alloc w24 _ none)).trans g
  clear g hst
  have R25 := R1.out.kept gh
  have X25 := Lib.hid (X1.out.kept gh)
  have e0 : w25.cell? ⟨s1 + 7, 0, none⟩ = some (.string ⟨#[65, 49]⟩) := R25.c 0 rfl
  have e1 : w25.cell? ⟨s1 + 7, 1, none⟩ = some (.int .i64 5) := R25.c 1 rfl
  have e2 : w25.cell? ⟨s1 + 7, 2, none⟩ = some (.int .i64 30) := R25.c 2 rfl
  have e3 : w25.cell? ⟨s1 + 7, 3, none⟩ = some (.slice (some ⟨s1, 0, none⟩) 2 2) := R25.c 3 rfl
  have e4 : w25.cell? ⟨s1 + 7, 4, none⟩ = some (.slice none 0 0) := R25.c 4 rfl
  have e5 : w25.cell? ⟨s1 + 7, 5, none⟩ = some (.string ⟨#[66, 49]⟩) := R25.c 5 rfl
  have e6 : w25.cell? ⟨s1 + 7, 6, none⟩ = some (.int .i64 6) := R25.c 6 rfl
  have e7 : w25.cell? ⟨s1 + 7, 7, none⟩ = some (.int .i64 10) := R25.c 7 rfl
  have e8 : w25.cell? ⟨s1 + 7, 8, none⟩ = some (.slice (some ⟨s1 + 2, 0, none⟩) 1 1) := R25.c 8 rfl
  have e9 : w25.cell? ⟨s1 + 7, 9, none⟩ = some (.slice (some ⟨s1 + 3, 0, none⟩) 1 1) := R25.c 9 rfl
  have e10 : w25.cell? ⟨s1 + 7, 10, none⟩ = some (.string ⟨#[66, 50]⟩) := R25.c 10 rfl
  have e11 : w25.cell? ⟨s1 + 7, 11, none⟩ = some (.int .i64 3) := R25.c 11 rfl
  have e12 : w25.cell? ⟨s1 + 7, 12, none⟩ = some (.int .i64 0) := R25.c 12 rfl
  have e13 : w25.cell? ⟨s1 + 7, 13, none⟩ = some (.slice none 0 0) := R25.c 13 rfl
  have e14 : w25.cell? ⟨s1 + 7, 14, none⟩ = some (.slice none 0 0) := R25.c 14 rfl
  clear R25
  go_upto_region 8 with fail
  have gz : w25.grownBy w25.drew none := grown_dr (grown_refl _)
  refine wp_region_noPanic ?_
  refine wp_region_held_drew (S := (fun w' => w25.grownBy w' none)) (by kernel_rfl) ?_ (fun hHeld => ?_)
  · (try dsimp only); (repeat (first | assumption | exact grown_refl _ | refine grown_dr ?_ | refine grown_dn ?_ | refine grown_al ?_))
  refine wpAnyH_take (i := 0) (oi := _) (v := ?_) rfl (by kernel_rfl) (by kernel_rfl) (by kernel_rfl) (fun _ _ _ h => h) (Or.inl ⟨by rfl, ?_⟩) (by assumption) ?_
  rotate_left 1
  · (intro w hSw; (try dsimp only at hSw); go_simp; first | done | with_reducible rfl)
  try go_simp
  refine wpAnyH_ready (rs := [1]) (by kernel_rfl) (by simp) ?_
  refine AllReadyH.cons (o := _) rfl (fun K hK => ?_) AllReadyH.nil
  go_simp
  go_wp2_with fail
  obtain ⟨wz1, ez, HZ1, gy⟩ := row_of w25 9 #[.string ⟨#[65, 49]⟩]
  rw [← ez]
  replace gz := grown_dr gy
  replace HZ1 := HZ1.kept (grown_dr (grown_refl _))
  clear ez gy
  generalize w25.heap.size = Z1 at *
  first | (refine hK.out _ _ ?_ (fun hHeld => ?_)) | (go_wp2_with fail; refine hK.out _ _ ?_ (fun hHeld => ?_))
  · (try dsimp only); (repeat (first | assumption | exact grown_refl _ | refine grown_dr ?_ | refine grown_dn ?_ | refine grown_al ?_))
  clear hK K
  refine wpAnyH_ready (rs := [2]) (by kernel_rfl) (by simp) ?_
  refine AllReadyH.cons (o := _) rfl (fun K hK => ?_) AllReadyH.nil
  go_simp
  refine (met_k _ _ _ _ _ sB1 _ _ _ [sA1] _ (O1.out _ (gh.trans gz)) (strs_row (l := [sA1]) HZ1 rfl rfl (by decide) (fun x hx => len8 (by simp at hx; first | (subst hx; decide) | (rcases hx with rfl | rfl | rfl | rfl <;> decide) | (rcases hx with rfl | rfl | rfl <;> decide) | (rcases hx with rfl | rfl <;> decide))))).mono ?_
  rintro e wz2 ⟨rfl, g⟩
  rw [met_1]
  replace gz := gz.trans g
  clear g
  first | (refine hK.out _ _ ?_ (fun hHeld => ?_)) | (go_wp2_with fail; refine hK.out _ _ ?_ (fun hHeld => ?_))
  · (try dsimp only); (repeat (first | assumption | exact grown_refl _ | refine grown_dr ?_ | refine grown_dn ?_ | refine grown_al ?_))
  clear hK K
  refine wpAnyH_take (i := 3) (oi := _) (v := ?_) rfl (by kernel_rfl) (by kernel_rfl) (by kernel_rfl) (fun _ _ _ h => h) (Or.inl ⟨by rfl, ?_⟩) (by assumption) ?_
  rotate_left 1
  · (intro w hSw; (try dsimp only at hSw); go_simp; first | done | with_reducible rfl)
  try go_simp
  refine wpAnyH_take (i := 4) (oi := _) (v := ?_) rfl (by kernel_rfl) (by kernel_rfl) (by kernel_rfl) (fun _ _ _ h => h) (Or.inl ⟨by kernel_rfl, ?_⟩) (by assumption) ?_
  rotate_left 1
  · (intro w hSw; (try dsimp only at hSw); go_simp; first | done | with_reducible rfl)
  try go_simp
  refine wpAnyH_ready (rs := [5]) (by kernel_rfl) (by simp) ?_
  refine AllReadyH.cons (o := _) rfl (fun K hK => ?_) AllReadyH.nil
  go_simp
  go_wp2_with fail
  obtain ⟨wz3, ez, HZ3, gy⟩ := row_of wz2 9 #[.string ⟨#[65, 49]⟩, .string ⟨#[66, 49]⟩]
  rw [← ez]
  replace gz := gz.trans gy
  clear ez gy
  generalize wz2.heap.size = Z3 at *
  first | (refine hK.out _ _ ?_ (fun hHeld => ?_)) | (go_wp2_with fail; refine hK.out _ _ ?_ (fun hHeld => ?_))
  · (try dsimp only); (repeat (first | assumption | exact grown_refl _ | refine grown_dr ?_ | refine grown_dn ?_ | refine grown_al ?_))
  clear hK K
  refine wpAnyH_ready (rs := [6]) (by kernel_rfl) (by simp) ?_
  refine AllReadyH.cons (o := _) rfl (fun K hK => ?_) AllReadyH.nil
  go_simp
  refine (met_k _ _ _ _ _ sC1 _ _ _ [sA1, sB1] _ (O1.out _ (gh.trans gz)) (strs_row (l := [sA1, sB1]) HZ3 rfl rfl (by decide) (fun x hx => len8 (by simp at hx; first | (subst hx; decide) | (rcases hx with rfl | rfl | rfl | rfl <;> decide) | (rcases hx with rfl | rfl | rfl <;> decide) | (rcases hx with rfl | rfl <;> decide))))).mono ?_
  rintro e wz4 ⟨rfl, g⟩
  rw [met_2]
  replace gz := gz.trans g
  clear g
  first | (refine hK.out _ _ ?_ (fun hHeld => ?_)) | (go_wp2_with fail; refine hK.out _ _ ?_ (fun hHeld => ?_))
  · (try dsimp only); (repeat (first | assumption | exact grown_refl _ | refine grown_dr ?_ | refine grown_dn ?_ | refine grown_al ?_))
  clear hK K
  refine wpAnyH_take (i := 7) (oi := _) (v := ?_) rfl (by kernel_rfl) (by kernel_rfl) (by kernel_rfl) (fun _ _ _ h => h) (Or.inl ⟨by kernel_rfl, ?_⟩) (by assumption) ?_
  rotate_left 1
  · (intro w hSw; (try dsimp only at hSw); go_simp; first | done | with_reducible rfl)
  try go_simp
  refine wpAnyH_take (i := 8) (oi := _) (v := ?_) rfl (by kernel_rfl) (by kernel_rfl) (by kernel_rfl) (fun _ _ _ h => h) (Or.inl ⟨by rfl, ?_⟩) (by assumption) ?_
  rotate_left 1
  · (intro w hSw; (try dsimp only at hSw); go_simp; first | done | with_reducible rfl)
  try go_simp
  refine wpAnyH_take (i := 9) (oi := _) (v := ?_) rfl (by kernel_rfl) (by kernel_rfl) (by kernel_rfl) (fun _ _ _ h => h) (Or.inl ⟨by rfl, ?_⟩) (by assumption) ?_
  rotate_left 1
  · (intro w hSw; (try dsimp only at hSw); go_simp; first | done | with_reducible rfl)
  try go_simp
  refine wpAnyH_take (i := 10) (oi := _) (v := ?_) rfl (by kernel_rfl) (by kernel_rfl) (by kernel_rfl) (fun _ _ _ h => h) (Or.inl ⟨by kernel_rfl, ?_⟩) (by assumption) ?_
  rotate_left 1
  · (intro w hSw; (try dsimp only at hSw); go_simp; first | done | with_reducible rfl)
  try go_simp
  refine wpAnyH_ready (rs := [11]) (by kernel_rfl) (by simp) ?_
  refine AllReadyH.cons (o := _) rfl (fun K hK => ?_) AllReadyH.nil
  go_simp
  refine (met_k _ _ _ _ _ sX _ _ _ [] _ (O1.out _ (gh.trans gz)) (Strs.nil_ _)).mono ?_
  rintro e wz5 ⟨rfl, g⟩
  rw [met_3]
  replace gz := gz.trans g
  clear g
  first | (refine hK.out _ _ ?_ (fun hHeld => ?_)) | (go_wp2_with fail; refine hK.out _ _ ?_ (fun hHeld => ?_))
  · (try dsimp only); (repeat (first | assumption | exact grown_refl _ | refine grown_dr ?_ | refine grown_dn ?_ | refine grown_al ?_))
  clear hK K
  refine wpAnyH_take (i := 12) (oi := _) (v := ?_) rfl (by kernel_rfl) (by kernel_rfl) (by kernel_rfl) (fun _ _ _ h => h) (Or.inl ⟨by kernel_rfl, ?_⟩) (by assumption) ?_
  rotate_left 1
  · (intro w hSw; (try dsimp only at hSw); go_simp; first | done | with_reducible rfl)
  try go_simp
  refine wpAnyH_take (i := 13) (oi := _) (v := ?_) rfl (by kernel_rfl) (by kernel_rfl) (by kernel_rfl) (fun _ _ _ h => h) (Or.inl ⟨by rfl, ?_⟩) (by assumption) ?_
  rotate_left 1
  · (intro w hSw; (try dsimp only at hSw); go_simp; first | done | with_reducible rfl)
  try go_simp
  refine wpAnyH_take (i := 14) (oi := _) (v := ?_) rfl (by kernel_rfl) (by kernel_rfl) (by kernel_rfl) (fun _ _ _ h => h) (Or.inl ⟨by rfl, ?_⟩) (by assumption) ?_
  rotate_left 1
  · (intro w hSw; (try dsimp only at hSw); go_simp; first | done | with_reducible rfl)
  try go_simp
  refine wpAnyH_take (i := 15) (oi := _) (v := ?_) rfl (by kernel_rfl) (by kernel_rfl) (by kernel_rfl) (fun _ _ _ h => h) (Or.inl ⟨by kernel_rfl, ?_⟩) (by assumption) ?_
  rotate_left 1
  · (intro w hSw; (try dsimp only at hSw); go_simp; first | done | with_reducible rfl)
  try go_simp
  refine wpAnyH_take (i := 16) (oi := _) (v := ?_) rfl (by kernel_rfl) (by kernel_rfl) (by kernel_rfl) (fun _ _ _ h => h) (Or.inl ⟨by kernel_rfl, ?_⟩) (by assumption) ?_
  rotate_left 1
  · (intro w hSw; (try dsimp only at hSw); go_simp; first | done | with_reducible rfl)
  try go_simp
  refine wpAnyH_take (i := 17) (oi := _) (v := .agg #[.string ⟨#[65, 49]⟩, .int .i64 5, .int .i64 30, .slice (some ⟨s1, 0, none⟩) 2 2, .slice none 0 0]) rfl (by kernel_rfl) (by kernel_rfl) (by kernel_rfl) (fun _ _ _ h => h) (Or.inl ⟨by kernel_rfl, ?_⟩) (by assumption) ?_
  · (intro w hSw; (try dsimp only at hSw); go_simp; have y0 := gcell hSw e0; have y1 := gcell hSw e1; have y2 := gcell hSw e2; have y3 := gcell hSw e3; have y4 := gcell hSw e4; clear hSw; go_simp; first | done | with_reducible rfl)
  try go_simp
  refine wpAnyH_take (i := 18) (oi := _) (v := ?_) rfl (by kernel_rfl) (by kernel_rfl) (by kernel_rfl) (fun _ _ _ h => h) (Or.inl ⟨by kernel_rfl, ?_⟩) (by assumption) ?_
  rotate_left 1
  · (intro w hSw; (try dsimp only at hSw); go_simp; first | done | with_reducible rfl)
  try go_simp
  refine wpAnyH_take (i := 19) (oi := _) (v := ?_) rfl (by kernel_rfl) (by kernel_rfl) (by kernel_rfl) (fun _ _ _ h => h) (Or.inl ⟨by kernel_rfl, ?_⟩) (by assumption) ?_
  rotate_left 1
  · (intro w hSw; (try dsimp only at hSw); go_simp; first | done | with_reducible rfl)
  try go_simp
  refine wpAnyH_take (i := 20) (oi := _) (v := .agg #[.string ⟨#[66, 49]⟩, .int .i64 6, .int .i64 10, .slice (some ⟨s1 + 2, 0, none⟩) 1 1, .slice (some ⟨s1 + 3, 0, none⟩) 1 1]) rfl (by kernel_rfl) (by kernel_rfl) (by kernel_rfl) (fun _ _ _ h => h) (Or.inl ⟨by kernel_rfl, ?_⟩) (by assumption) ?_
  · (intro w hSw; (try dsimp only at hSw); go_simp; have y5 := gcell hSw e5; have y6 := gcell hSw e6; have y7 := gcell hSw e7; have y8 := gcell hSw e8; have y9 := gcell hSw e9; clear hSw; go_simp; first | done | with_reducible rfl)
  try go_simp
  refine wpAnyH_ready (rs := [21]) (by kernel_rfl) (by simp) ?_
  refine AllReadyH.cons (o := _) rfl (fun K hK => ?_) AllReadyH.nil
  go_simp
  refine (clash_k ⟨sA1, 5, 30, some ⟨s1, 0, none⟩, 2, 2, none, 0, 0⟩ ⟨sB1, 6, 10, some ⟨s1 + 2, 0, none⟩, 1, 1, some ⟨s1 + 3, 0, none⟩, 1, 1⟩ [1, 2] [2] _ (s12 (X25.out.kept gz)) (s2_ (X25.out.kept gz))).mono ?_
  rintro e wz6 ⟨rfl, g⟩
  rw [show ([2] : List Int).any (fun n => decide (n ∈ ([1, 2] : List Int))) = true by decide]
  replace gz := gz.trans g
  clear g
  first | (refine hK.out _ _ ?_ (fun hHeld => ?_)) | (go_wp2_with fail; refine hK.out _ _ ?_ (fun hHeld => ?_))
  · (try dsimp only); (repeat (first | assumption | exact grown_refl _ | refine grown_dr ?_ | refine grown_dn ?_ | refine grown_al ?_))
  clear hK K
  refine wpAnyH_take (i := 22) (oi := _) (v := ?_) rfl (by kernel_rfl) (by kernel_rfl) (by kernel_rfl) (fun _ _ _ h => h) (Or.inl ⟨by rfl, ?_⟩) (by assumption) ?_
  rotate_left 1
  · (intro w hSw; (try dsimp only at hSw); go_simp; first | done | with_reducible rfl)
  try go_simp
  refine wpAnyH_take (i := 23) (oi := _) (v := ?_) rfl (by kernel_rfl) (by kernel_rfl) (by kernel_rfl) (fun _ _ _ h => h) (Or.inl ⟨by rfl, ?_⟩) (by assumption) ?_
  rotate_left 1
  · (intro w hSw; (try dsimp only at hSw); go_simp; first | done | with_reducible rfl)
  try go_simp
  refine wpAnyH_take (i := 24) (oi := _) (v := ?_) rfl (by kernel_rfl) (by kernel_rfl) (by kernel_rfl) (fun _ _ _ h => h) (Or.inl ⟨by kernel_rfl, ?_⟩) (by assumption) ?_
  rotate_left 1
  · (intro w hSw; (try dsimp only at hSw); go_simp; first | done | with_reducible rfl)
  try go_simp
  refine wpAnyH_take (i := 25) (oi := _) (v := ?_) rfl (by kernel_rfl) (by kernel_rfl) (by kernel_rfl) (fun _ _ _ h => h) (Or.inl ⟨by kernel_rfl, ?_⟩) (by assumption) ?_
  rotate_left 1
  · (intro w hSw; (try dsimp only at hSw); go_simp; first | done | with_reducible rfl)
  try go_simp
  refine wpAnyH_take (i := 26) (oi := _) (v := .agg #[.string ⟨#[66, 49]⟩, .int .i64 6, .int .i64 10, .slice (some ⟨s1 + 2, 0, none⟩) 1 1, .slice (some ⟨s1 + 3, 0, none⟩) 1 1]) rfl (by kernel_rfl) (by kernel_rfl) (by kernel_rfl) (fun _ _ _ h => h) (Or.inl ⟨by kernel_rfl, ?_⟩) (by assumption) ?_
  · (intro w hSw; (try dsimp only at hSw); go_simp; have y5 := gcell hSw e5; have y6 := gcell hSw e6; have y7 := gcell hSw e7; have y8 := gcell hSw e8; have y9 := gcell hSw e9; clear hSw; go_simp; first | done | with_reducible rfl)
  try go_simp
  refine wpAnyH_take (i := 27) (oi := _) (v := ?_) rfl (by kernel_rfl) (by kernel_rfl) (by kernel_rfl) (fun _ _ _ h => h) (Or.inl ⟨by kernel_rfl, ?_⟩) (by assumption) ?_
  rotate_left 1
  · (intro w hSw; (try dsimp only at hSw); go_simp; first | done | with_reducible rfl)
  try go_simp
  refine wpAnyH_take (i := 28) (oi := _) (v := ?_) rfl (by kernel_rfl) (by kernel_rfl) (by kernel_rfl) (fun _ _ _ h => h) (Or.inl ⟨by kernel_rfl, ?_⟩) (by assumption) ?_
  rotate_left 1
  · (intro w hSw; (try dsimp only at hSw); go_simp; first | done | with_reducible rfl)
  try go_simp
  refine wpAnyH_take (i := 29) (oi := _) (v := .agg #[.string ⟨#[66, 50]⟩, .int .i64 3, .int .i64 0, .slice none 0 0, .slice none 0 0]) rfl (by kernel_rfl) (by kernel_rfl) (by kernel_rfl) (fun _ _ _ h => h) (Or.inl ⟨by kernel_rfl, ?_⟩) (by assumption) ?_
  · (intro w hSw; (try dsimp only at hSw); go_simp; have y10 := gcell hSw e10; have y11 := gcell hSw e11; have y12 := gcell hSw e12; have y13 := gcell hSw e13; have y14 := gcell hSw e14; clear hSw; go_simp; first | done | with_reducible rfl)
  try go_simp
  refine wpAnyH_ready (rs := [30]) (by kernel_rfl) (by simp) ?_
  refine AllReadyH.cons (o := _) rfl (fun K hK => ?_) AllReadyH.nil
  go_simp
  refine (clash_k ⟨sB1, 6, 10, some ⟨s1 + 2, 0, none⟩, 1, 1, some ⟨s1 + 3, 0, none⟩, 1, 1⟩ ⟨sB2, 3, 0, none, 0, 0, none, 0, 0⟩ [2] [] _ (s2_ (X25.out.kept gz)) (Ints.nil_ _)).mono ?_
  rintro e wz7 ⟨rfl, g⟩
  rw [show ([] : List Int).any (fun n => decide (n ∈ ([2] : List Int))) = false by decide]
  replace gz := gz.trans g
  clear g
  first | (refine hK.out _ _ ?_ (fun hHeld => ?_)) | (go_wp2_with fail; refine hK.out _ _ ?_ (fun hHeld => ?_))
  · (try dsimp only); (repeat (first | assumption | exact grown_refl _ | refine grown_dr ?_ | refine grown_dn ?_ | refine grown_al ?_))
  clear hK K
  refine wpAnyH_take (i := 31) (oi := _) (v := ?_) rfl (by kernel_rfl) (by kernel_rfl) (by kernel_rfl) (fun _ _ _ h => h) (Or.inl ⟨by kernel_rfl, ?_⟩) (by assumption) ?_
  rotate_left 1
  · (intro w hSw; (try dsimp only at hSw); go_simp; first | done | with_reducible rfl)
  try go_simp
  refine wpAnyH_take (i := 32) (oi := _) (v := ?_) rfl (by kernel_rfl) (by kernel_rfl) (by kernel_rfl) (fun _ _ _ h => h) (Or.inl ⟨by rfl, ?_⟩) (by assumption) ?_
  rotate_left 1
  · (intro w hSw; (try dsimp only at hSw); go_simp; first | done | with_reducible rfl)
  try go_simp
  refine wpAnyH_take (i := 33) (oi := _) (v := ?_) rfl (by kernel_rfl) (by kernel_rfl) (by kernel_rfl) (fun _ _ _ h => h) (Or.inl ⟨by rfl, ?_⟩) (by assumption) ?_
  rotate_left 1
  · (intro w hSw; (try dsimp only at hSw); go_simp; first | done | with_reducible rfl)
  try go_simp
  refine wpAnyH_done (by kernel_rfl) ?_ _
  refine NoPanic.normal ?_
  go_simp
  have GZ := Lib.hid ((GG.out.trans gh).trans gz)
  clear gz gh O1 X1 X25 R1 e0 e1 e2 e3 e4 e5 e6 e7 e8 e9 e10 e11 e12 e13 e14
  go_wp2_with fail
  refine (code_k sA1 (len8 (by decide)) _).mono ?_
  rintro e wy ⟨rfl, rfl⟩
  rw [show codeB sA1 = true by decide]
  go_wp2_with fail
  refine (code_k [97, 49] (len8 (by decide)) _).mono ?_
  rintro e wy ⟨rfl, rfl⟩
  rw [show codeB [97, 49] = false by decide]
  go_wp2_with fail
  refine (code_k [] (by decide) _).mono ?_
  rintro e wy ⟨rfl, rfl⟩
  rw [show codeB [] = false by decide]
  go_wp2_with fail
  go_ret
  exact ⟨rfl, GZ.out⟩
end Go.Proofs.YtnkemoicgadefaaGreatDoor
