/-
  The law RatioOrder.
-/
import Derived.Test.YtekhdcfnpgkodaaDoorDag
import Derived.Test.YtekhdcfnpgkodaaDoorOrdM
import Derived.Deep.DeepCutAuto
namespace Go.Proofs.YtekhdcfnpgkodaaDoor
open Go.RowKit
set_option maxRecDepth 100000 in
set_option maxHeartbeats 8000000 in
theorem order_walk (x0 x1 x2 x3 x4 x5 : Int) (w0 : World) (hb : Base w0) : Calls Tryd.prog 6 #[.agg #[.int .i64 x0, .int .i64 x1, .int .i64 x2, .int .i64 x3, .int .i64 x4, .int .i64 x5]] w0 fun e w' => e = .returned (.bool true) ∧ w0.grownBy w' none := by
  have HP : Hid (∀ (i : Nat) v, #[Value.int .i64 x0, .int .i64 x1, .int .i64 x2, .int .i64 x3, .int .i64 x4, .int .i64 x5][i]? = some v → (w0.alloc (.cells #[.int .i64 x0, .int .i64 x1, .int .i64 x2, .int .i64 x3, .int .i64 x4, .int .i64 x5] 49)).cell? ⟨w0.heap.size, i, none⟩ = some v) := Lib.hid fun i v hv => (cell_at rfl).trans hv
  have gg := World.grownBy_alloc w0 (.cells #[.int .i64 x0, .int .i64 x1, .int .i64 x2, .int .i64 x3, .int .i64 x4, .int .i64 x5] 49) none
  have S := Lib.hid (sane_k _ (hb.none_ gg))
  clear hb
  go_enter Tryd.func6, Tryd.ntmps6
  go_wp2_with fail
  refine S.out.mono ?_
  rintro e v1 ⟨rfl, g⟩
  have q0 := gcell g (HP.out 0 _ rfl)
  have q1 := gcell g (HP.out 1 _ rfl)
  have q2 := gcell g (HP.out 2 _ rfl)
  have q3 := gcell g (HP.out 3 _ rfl)
  have q4 := gcell g (HP.out 4 _ rfl)
  have q5 := gcell g (HP.out 5 _ rfl)
  replace gg := gg.trans g
  clear g HP S
  go_wp2_with fail
  refine wp_region_noPanic ?_
  refine wp_region_held_drew (S := (fun w' => v1.grownBy w' none)) (by kernel_rfl) ?_ (fun hHeld => ?_)
  · (try dsimp only); (repeat (first | assumption | exact grown_refl _ | refine grown_dr ?_ | refine grown_al ?_))
  refine wpAnyH_take (i := 0) (oi := _) (v := ?_) rfl (by kernel_rfl) (by kernel_rfl) (by kernel_rfl) (fun _ _ _ h => h) (Or.inl ⟨by rfl, ?_⟩) (by assumption) ?_
  rotate_left 1
  · (intro w hSw; (try dsimp only at hSw); go_simp; first | done | with_reducible rfl)
  try go_simp
  refine wpAnyH_take (i := 1) (oi := _) (v := ?_) rfl (by kernel_rfl) (by kernel_rfl) (by kernel_rfl) (fun _ _ _ h => h) (Or.inl ⟨by rfl, ?_⟩) (by assumption) ?_
  rotate_left 1
  · (intro w hSw; (try dsimp only at hSw); go_simp; first | done | with_reducible rfl)
  try go_simp
  refine wpAnyH_take (i := 2) (oi := _) (v := .int .i64 x0) rfl (by kernel_rfl) (by kernel_rfl) (by kernel_rfl) (fun _ _ _ h => h) (Or.inl ⟨by kernel_rfl, ?_⟩) (by assumption) ?_
  · (intro w hSw; (try dsimp only at hSw); go_simp; have y := gcell hSw q0; clear hSw; go_simp; first | done | with_reducible rfl)
  try go_simp
  refine wpAnyH_take (i := 3) (oi := _) (v := ?_) rfl (by kernel_rfl) (by kernel_rfl) (by kernel_rfl) (fun _ _ _ h => h) (Or.inl ⟨by rfl, ?_⟩) (by assumption) ?_
  rotate_left 1
  · (intro w hSw; (try dsimp only at hSw); go_simp; first | done | with_reducible rfl)
  try go_simp
  refine wpAnyH_take (i := 4) (oi := _) (v := ?_) rfl (by kernel_rfl) (by kernel_rfl) (by kernel_rfl) (fun _ _ _ h => h) (Or.inl ⟨by rfl, ?_⟩) (by assumption) ?_
  rotate_left 1
  · (intro w hSw; (try dsimp only at hSw); go_simp; first | done | with_reducible rfl)
  try go_simp
  refine wpAnyH_take (i := 5) (oi := _) (v := .int .i64 x1) rfl (by kernel_rfl) (by kernel_rfl) (by kernel_rfl) (fun _ _ _ h => h) (Or.inl ⟨by kernel_rfl, ?_⟩) (by assumption) ?_
  · (intro w hSw; (try dsimp only at hSw); go_simp; have y := gcell hSw q1; clear hSw; go_simp; first | done | with_reducible rfl)
  try go_simp
  refine wpAnyH_take (i := 7) (oi := _) (v := ?_) rfl (by kernel_rfl) (by kernel_rfl) (by kernel_rfl) (fun _ _ _ h => h) (Or.inl ⟨by rfl, ?_⟩) (by assumption) ?_
  rotate_left 1
  · (intro w hSw; (try dsimp only at hSw); go_simp; first | done | with_reducible rfl)
  try go_simp
  refine wpAnyH_take (i := 8) (oi := _) (v := ?_) rfl (by kernel_rfl) (by kernel_rfl) (by kernel_rfl) (fun _ _ _ h => h) (Or.inl ⟨by rfl, ?_⟩) (by assumption) ?_
  rotate_left 1
  · (intro w hSw; (try dsimp only at hSw); go_simp; first | done | with_reducible rfl)
  try go_simp
  refine wpAnyH_take (i := 9) (oi := _) (v := .int .i64 x2) rfl (by kernel_rfl) (by kernel_rfl) (by kernel_rfl) (fun _ _ _ h => h) (Or.inl ⟨by kernel_rfl, ?_⟩) (by assumption) ?_
  · (intro w hSw; (try dsimp only at hSw); go_simp; have y := gcell hSw q2; clear hSw; go_simp; first | done | with_reducible rfl)
  try go_simp
  refine wpAnyH_take (i := 10) (oi := _) (v := ?_) rfl (by kernel_rfl) (by kernel_rfl) (by kernel_rfl) (fun _ _ _ h => h) (Or.inl ⟨by rfl, ?_⟩) (by assumption) ?_
  rotate_left 1
  · (intro w hSw; (try dsimp only at hSw); go_simp; first | done | with_reducible rfl)
  try go_simp
  refine wpAnyH_take (i := 11) (oi := _) (v := ?_) rfl (by kernel_rfl) (by kernel_rfl) (by kernel_rfl) (fun _ _ _ h => h) (Or.inl ⟨by rfl, ?_⟩) (by assumption) ?_
  rotate_left 1
  · (intro w hSw; (try dsimp only at hSw); go_simp; first | done | with_reducible rfl)
  try go_simp
  refine wpAnyH_take (i := 12) (oi := _) (v := .int .i64 x3) rfl (by kernel_rfl) (by kernel_rfl) (by kernel_rfl) (fun _ _ _ h => h) (Or.inl ⟨by kernel_rfl, ?_⟩) (by assumption) ?_
  · (intro w hSw; (try dsimp only at hSw); go_simp; have y := gcell hSw q3; clear hSw; go_simp; first | done | with_reducible rfl)
  try go_simp
  refine wpAnyH_take (i := 14) (oi := _) (v := ?_) rfl (by kernel_rfl) (by kernel_rfl) (by kernel_rfl) (fun _ _ _ h => h) (Or.inl ⟨by rfl, ?_⟩) (by assumption) ?_
  rotate_left 1
  · (intro w hSw; (try dsimp only at hSw); go_simp; first | done | with_reducible rfl)
  try go_simp
  refine wpAnyH_take (i := 15) (oi := _) (v := ?_) rfl (by kernel_rfl) (by kernel_rfl) (by kernel_rfl) (fun _ _ _ h => h) (Or.inl ⟨by rfl, ?_⟩) (by assumption) ?_
  rotate_left 1
  · (intro w hSw; (try dsimp only at hSw); go_simp; first | done | with_reducible rfl)
  try go_simp
  refine wpAnyH_take (i := 16) (oi := _) (v := .int .i64 x4) rfl (by kernel_rfl) (by kernel_rfl) (by kernel_rfl) (fun _ _ _ h => h) (Or.inl ⟨by kernel_rfl, ?_⟩) (by assumption) ?_
  · (intro w hSw; (try dsimp only at hSw); go_simp; have y := gcell hSw q4; clear hSw; go_simp; first | done | with_reducible rfl)
  try go_simp
  refine wpAnyH_take (i := 17) (oi := _) (v := ?_) rfl (by kernel_rfl) (by kernel_rfl) (by kernel_rfl) (fun _ _ _ h => h) (Or.inl ⟨by rfl, ?_⟩) (by assumption) ?_
  rotate_left 1
  · (intro w hSw; (try dsimp only at hSw); go_simp; first | done | with_reducible rfl)
  try go_simp
  refine wpAnyH_take (i := 18) (oi := _) (v := ?_) rfl (by kernel_rfl) (by kernel_rfl) (by kernel_rfl) (fun _ _ _ h => h) (Or.inl ⟨by rfl, ?_⟩) (by assumption) ?_
  rotate_left 1
  · (intro w hSw; (try dsimp only at hSw); go_simp; first | done | with_reducible rfl)
  try go_simp
  refine wpAnyH_take (i := 19) (oi := _) (v := .int .i64 x5) rfl (by kernel_rfl) (by kernel_rfl) (by kernel_rfl) (fun _ _ _ h => h) (Or.inl ⟨by kernel_rfl, ?_⟩) (by assumption) ?_
  · (intro w hSw; (try dsimp only at hSw); go_simp; have y := gcell hSw q5; clear hSw; go_simp; first | done | with_reducible rfl)
  try go_simp
  refine name_them fun ops Q a0 hops hQ ha => ?_
  have LD6_13_20_21_22_23_24_25_26 : Hid (∀ (a : Act) (w : World) (b21 : Nat) (b22 : Nat) (b23 : Nat), a = ((((((a0.put (some 29) (.agg #[.int .i64 (madeN x0 x1), .int .i64 (madeD x0 x1)])).put (some 36) (.agg #[.int .i64 (madeN x2 x3), .int .i64 (madeD x2 x3)])).put (some 43) (.agg #[.int .i64 (madeN x4 x5), .int .i64 (madeD x4 x5)])).put (some 4) (.pointer (some ⟨b21, 0, none⟩))).put (some 5) (.pointer (some ⟨b22, 0, none⟩))).put (some 6) (.pointer (some ⟨b23, 0, none⟩))) → v1.grownBy w none → R2 w b21 (madeN x0 x1) (madeD x0 x1) → v1.heap.size ≤ b21 → R2 w b22 (madeN x2 x3) (madeD x2 x3) → v1.heap.size ≤ b22 → R2 w b23 (madeN x4 x5) (madeD x4 x5) → v1.heap.size ≤ b23 → Hid (b21 ≠ b22) → Hid (b21 ≠ b23) → Hid (b22 ≠ b23) → wpAnyH Tryd.prog .any ops Q (fun w' => v1.grownBy w' none) 0 #[true, true, true, true, true, true, true, true, true, true, true, true, true, true, true, true, true, true, true, true, true, true, true, true, true, true, true] a w) := Lib.hid (by
    rintro a w b21 b22 b23 rfl HG HR21 HS21 HR22 HS22 HR23 HS23 HN21_22 HN21_23 HN22_23
    subst hops hQ ha
    have hHeld := HG
    go_simp
    refine wpAnyH_done (by kernel_rfl) ?_ _
    refine NoPanic.normal ?_
    go_simp
    clear hHeld
    have HA := made_right x0 x1
    have HB := made_right x2 x3
    have HC := made_right x4 x5
    generalize madeN x0 x1 = n at *
    generalize madeD x0 x1 = d at *
    generalize madeN x2 x3 = m at *
    generalize madeD x2 x3 = c at *
    generalize madeN x4 x5 = p at *
    generalize madeD x4 x5 = q at *
    obtain ⟨ia1, ia2⟩ := right_ints HA
    obtain ⟨ib1, ib2⟩ := right_ints HB
    obtain ⟨ic1, ic2⟩ := right_ints HC
    have wm : wrap64 (-m) = -m := wrap_id (by obtain ⟨_, _, b1, b2, _⟩ := (right_iff m c).1 HB; exact ⟨by omega, by omega⟩)
    obtain ⟨sw1, sw2, sw3⟩ := add_swap HA HB
    obtain ⟨mw1, mw2, mw3⟩ := mul_swap HA HB
    have K1 := Lib.hid (add_k n d m c ia1 ia2 ib1 ib2)
    have K2 := Lib.hid (add_k m c n d ib1 ib2 ia1 ia2)
    rw [sw1, sw2, sw3] at K2
    have K3 := Lib.hid (mul_k n d m c ia1 ia2 ib1 ib2)
    have K4 := Lib.hid (mul_k m c n d ib1 ib2 ia1 ia2)
    rw [mw1, mw2, mw3] at K4
    obtain ⟨ix1, ix2⟩ := add_i64 n d m c
    have K5 := Lib.hid (sub_k (addN n d m c) (addD n d m c) m c ix1 ix2 ib2)
    rw [wm] at K5
    have H5 := sub_back HA HB
    have K6 := Lib.hid (sub_k n d m c ia1 ia2 ib2)
    rw [wm] at K6
    obtain ⟨iz1, iz2⟩ := add_i64 n d (-m) c
    have K7 := Lib.hid (cmp_k (addN n d (-m) c) (addD n d (-m) c) 0 1 iz1 iz2 ⟨by decide, by decide⟩ ⟨by decide, by decide⟩)
    have H7 := sub_cmp HA HB
    have K8 := Lib.hid (cmp_k n d m c ia1 ia2 ib1 ib2)
    have K9 := Lib.hid (cmp_k m c p q ib1 ib2 ic1 ic2)
    have K10 := Lib.hid (cmp_k n d p q ia1 ia2 ic1 ic2)
    have K11 := Lib.hid (cmp_k m c n d ib1 ib2 ia1 ia2)
    rw [cmp_swap HA HB] at K11
    have K12 := Lib.hid (cmp_k n d n d ia1 ia2 ia1 ia2)
    rw [cmp_self HA] at K12
    have z1 := cmp_zero HA HB
    have u1 := cmp_up HA HB HC
    have u2 := cmp_down HA HB HC
    obtain ⟨v1', v2'⟩ := cmp_in n d m c
    clear sw1 sw2 sw3 mw1 mw2 mw3 ix1 ix2 iz1 iz2 wm ia1 ia2 ib1 ib2 ic1 ic2 HA HB HC
    generalize addN (addN n d m c) (addD n d m c) (-m) c = un at *
    generalize addD (addN n d m c) (addD n d m c) (-m) c = ud at *
    generalize addE (addN n d m c) (addD n d m c) (-m) c = ue at *
    generalize addN n d m c = xn at *
    generalize addD n d m c = xd at *
    generalize addE n d m c = xe at *
    generalize mulN n d m c = yn at *
    generalize mulD n d m c = yd at *
    generalize mulE n d m c = ye at *
    generalize cmpV (addN n d (-m) c) (addD n d (-m) c) 0 1 = zc at *
    generalize addN n d (-m) c = zn at *
    generalize addD n d (-m) c = zd at *
    generalize addE n d (-m) c = ze at *
    generalize cmpV n d m c = c1 at *
    generalize cmpV m c p q = c2 at *
    generalize cmpV n d p q = c3 at *
    have FX : ((xe == 0) = true ∧ (ue != 0) = false ∧ (un == n) = true ∧ (ud == d) = true) ∨ ((xe == 0) = false ∧ True) := by
      by_cases h : xe = 0
      · obtain ⟨h1, h2, h3⟩ := H5 h
        exact .inl ⟨by simpa using h, by simpa using h3, by simpa using h1, by simpa using h2⟩
      · exact .inr ⟨by simpa using h, trivial⟩
    have FZ : (ze = 0 ∧ zc = c1) ∨ (ze = 0) = False := by
      by_cases h : ze = 0
      · exact .inl ⟨h, H7 h⟩
      · exact .inr (by simpa using h)
    clear H5 H7
    replace gg := gg.trans HG
    have HA := HR21
    have HB := HR22
    have HC := HR23
    clear HR21 HR22 HR23 HG HN21_22 HN21_23 HN22_23 HS21 HS22 HS23 q0 q1 q2 q3 q4 q5
    have kA0 := HA.c0
    have kA1 := HA.c1
    have kB0 := HB.c0
    have kB1 := HB.c1
    go_wp2_with fail
    refine (K1.out _).mono ?_
    rintro e s1 ⟨rfl, g⟩
    clear kA0 kA1 kB0 kB1
    replace HA := HA.kept g
    replace HB := HB.kept g
    replace HC := HC.kept g
    replace gg := gg.trans g
    clear g
    have HX := R2.new s1 xn xd
    have g := World.grownBy_alloc s1 (.cells #[.int .i64 xn, .int .i64 xd] 24) none
    replace HA := HA.kept g
    replace HB := HB.kept g
    replace HC := HC.kept g
    replace gg := gg.trans g
    clear g
    have kA0 := HA.c0
    have kA1 := HA.c1
    have kB0 := HB.c0
    have kB1 := HB.c1
    go_wp2_with fail
    refine (K2.out _).mono ?_
    rintro e s2 ⟨rfl, g⟩
    clear kA0 kA1 kB0 kB1
    replace HA := HA.kept g
    replace HB := HB.kept g
    replace HC := HC.kept g
    replace HX := HX.kept g
    replace gg := gg.trans g
    clear g
    have HX2 := R2.new s2 xn xd
    have g := World.grownBy_alloc s2 (.cells #[.int .i64 xn, .int .i64 xd] 24) none
    replace HA := HA.kept g
    replace HB := HB.kept g
    replace HC := HC.kept g
    replace HX := HX.kept g
    replace gg := gg.trans g
    clear g
    have kA0 := HA.c0
    have kA1 := HA.c1
    have kB0 := HB.c0
    have kB1 := HB.c1
    go_wp2_with fail
    refine (K3.out _).mono ?_
    rintro e s3 ⟨rfl, g⟩
    clear kA0 kA1 kB0 kB1
    replace HA := HA.kept g
    replace HB := HB.kept g
    replace HC := HC.kept g
    replace HX := HX.kept g
    replace HX2 := HX2.kept g
    replace gg := gg.trans g
    clear g
    have HY := R2.new s3 yn yd
    have g := World.grownBy_alloc s3 (.cells #[.int .i64 yn, .int .i64 yd] 24) none
    replace HA := HA.kept g
    replace HB := HB.kept g
    replace HC := HC.kept g
    replace HX := HX.kept g
    replace HX2 := HX2.kept g
    replace gg := gg.trans g
    clear g
    have kA0 := HA.c0
    have kA1 := HA.c1
    have kB0 := HB.c0
    have kB1 := HB.c1
    go_wp2_with fail
    refine (K4.out _).mono ?_
    rintro e s4 ⟨rfl, g⟩
    clear kA0 kA1 kB0 kB1
    replace HA := HA.kept g
    replace HB := HB.kept g
    replace HC := HC.kept g
    replace HX := HX.kept g
    replace HX2 := HX2.kept g
    replace HY := HY.kept g
    replace gg := gg.trans g
    clear g
    have HY2 := R2.new s4 yn yd
    have g := World.grownBy_alloc s4 (.cells #[.int .i64 yn, .int .i64 yd] 24) none
    replace HA := HA.kept g
    replace HB := HB.kept g
    replace HC := HC.kept g
    replace HX := HX.kept g
    replace HX2 := HX2.kept g
    replace HY := HY.kept g
    replace gg := gg.trans g
    clear g
    have kX0 := HX.c0
    have kX1 := HX.c1
    have kX20 := HX2.c0
    have kX21 := HX2.c1
    have kY0 := HY.c0
    have kY1 := HY.c1
    have kY20 := HY2.c0
    have kY21 := HY2.c1
    go_upto_region 9 with fail
    clear kX0 kX1 kX20 kX21 kY0 kY1 kY20 kY21
    have kX0 := HX.c0
    have kX1 := HX.c1
    have kB0 := HB.c0
    have kB1 := HB.c1
    go_wp2_with fail
    refine (K5.out _).mono ?_
    rintro e s5 ⟨rfl, g⟩
    clear kX0 kX1 kB0 kB1
    replace HA := HA.kept g
    replace HB := HB.kept g
    replace HC := HC.kept g
    replace HX := HX.kept g
    replace HX2 := HX2.kept g
    replace HY := HY.kept g
    replace HY2 := HY2.kept g
    replace gg := gg.trans g
    clear g
    have HU := R2.new s5 un ud
    have g := World.grownBy_alloc s5 (.cells #[.int .i64 un, .int .i64 ud] 24) none
    replace HA := HA.kept g
    replace HB := HB.kept g
    replace HC := HC.kept g
    replace HX := HX.kept g
    replace HX2 := HX2.kept g
    replace HY := HY.kept g
    replace HY2 := HY2.kept g
    replace gg := gg.trans g
    clear g
    have kU0 := HU.c0
    have kU1 := HU.c1
    have kA0 := HA.c0
    have kA1 := HA.c1
    go_upto_region 10 with fail
    go_cut [102] (fun u wx => u = .bool false ∧ wx = s5.alloc (.cells #[.int .i64 un, .int .i64 ud] 24))
    case first =>
      rcases FX with ⟨e1, e2, e3, e4⟩ | ⟨e1, e2⟩
      all_goals
        go_wp2_with fail
        go_meet
        exact ⟨by first | rfl | (simp only [e1, e2, e3, e4]; rfl) | simp_all, rfl⟩
    case rest =>
      obtain ⟨rfl, rfl⟩ := hcut
      clear FX
      clear kU0 kU1 kA0 kA1
      have kA0 := HA.c0
      have kA1 := HA.c1
      have kB0 := HB.c0
      have kB1 := HB.c1
      go_wp2_with fail
      refine (K6.out _).mono ?_
      rintro e s6 ⟨rfl, g⟩
      clear kA0 kA1 kB0 kB1
      replace HA := HA.kept g
      replace HB := HB.kept g
      replace HC := HC.kept g
      replace HX := HX.kept g
      replace HX2 := HX2.kept g
      replace HY := HY.kept g
      replace HY2 := HY2.kept g
      replace HU := HU.kept g
      replace gg := gg.trans g
      clear g
      have HZ := R2.new s6 zn zd
      have g := World.grownBy_alloc s6 (.cells #[.int .i64 zn, .int .i64 zd] 24) none
      replace HA := HA.kept g
      replace HB := HB.kept g
      replace HC := HC.kept g
      replace HX := HX.kept g
      replace HX2 := HX2.kept g
      replace HY := HY.kept g
      replace HY2 := HY2.kept g
      replace HU := HU.kept g
      replace gg := gg.trans g
      clear g
      have kZ0 := HZ.c0
      have kZ1 := HZ.c1
      have kA0 := HA.c0
      have kA1 := HA.c1
      have kB0 := HB.c0
      have kB1 := HB.c1
      go_upto_region 13 with fail
      go_cut [119] (fun u wx => u = .bool false ∧ (s6.alloc (.cells #[.int .i64 zn, .int .i64 zd] 24)).grownBy wx none)
      case first =>
        rcases FZ with ⟨rfl, rfl⟩ | hz
        · refine wp_region_noPanic ?_
          refine wp_region_held_drew (S := (fun w' => (s6.alloc (.cells #[.int .i64 zn, .int .i64 zd] 24)).grownBy w' none)) (by kernel_rfl) ?_ (fun hHeld => ?_)
          · (try dsimp only); (repeat (first | assumption | exact grown_refl _ | refine grown_dr ?_ | refine grown_al ?_))
          refine wpAnyH_take (i := 0) (oi := _) (v := ?_) rfl (by kernel_rfl) (by kernel_rfl) (by kernel_rfl) (fun _ _ _ h => h) (Or.inl ⟨by rfl, ?_⟩) (by assumption) ?_
          rotate_left 1
          · (intro w hSw; (try dsimp only at hSw); go_simp; first | done | with_reducible rfl)
          try go_simp
          refine wpAnyH_take (i := 1) (oi := _) (v := ?_) rfl (by kernel_rfl) (by kernel_rfl) (by kernel_rfl) (fun _ _ _ h => h) (Or.inl ⟨by rfl, ?_⟩) (by assumption) ?_
          rotate_left 1
          · (intro w hSw; (try dsimp only at hSw); go_simp; first | done | with_reducible rfl)
          try go_simp
          refine wpAnyH_take (i := 2) (oi := _) (v := ?_) rfl (by kernel_rfl) (by kernel_rfl) (by kernel_rfl) (fun _ _ _ h => h) (Or.inl ⟨by rfl, ?_⟩) (by assumption) ?_
          rotate_left 1
          · (intro w hSw; (try dsimp only at hSw); go_simp; first | done | with_reducible rfl)
          try go_simp
          refine wpAnyH_take (i := 3) (oi := _) (v := .agg #[.int .i64 zn, .int .i64 zd]) rfl (by kernel_rfl) (by kernel_rfl) (by kernel_rfl) (fun _ _ _ h => h) (Or.inl ⟨by kernel_rfl, ?_⟩) (by assumption) ?_
          · (intro w hSw; (try dsimp only at hSw); go_simp; have y := gcell hSw kZ0; have y2 := gcell hSw kZ1; clear hSw; go_simp; first | done | with_reducible rfl)
          try go_simp
          refine wpAnyH_take (i := 4) (oi := _) (v := ?_) rfl (by kernel_rfl) (by kernel_rfl) (by kernel_rfl) (fun _ _ _ h => h) (Or.inl ⟨by kernel_rfl, ?_⟩) (by assumption) ?_
          rotate_left 1
          · (intro w hSw; (try dsimp only at hSw); go_simp; first | done | with_reducible rfl)
          try go_simp
          refine wpAnyH_take (i := 6) (oi := _) (v := .agg #[.int .i64 n, .int .i64 d]) rfl (by kernel_rfl) (by kernel_rfl) (by kernel_rfl) (fun _ _ _ h => h) (Or.inl ⟨by kernel_rfl, ?_⟩) (by assumption) ?_
          · (intro w hSw; (try dsimp only at hSw); go_simp; have y := gcell hSw kA0; have y2 := gcell hSw kA1; clear hSw; go_simp; first | done | with_reducible rfl)
          try go_simp
          refine wpAnyH_take (i := 7) (oi := _) (v := .agg #[.int .i64 m, .int .i64 c]) rfl (by kernel_rfl) (by kernel_rfl) (by kernel_rfl) (fun _ _ _ h => h) (Or.inl ⟨by kernel_rfl, ?_⟩) (by assumption) ?_
          · (intro w hSw; (try dsimp only at hSw); go_simp; have y := gcell hSw kB0; have y2 := gcell hSw kB1; clear hSw; go_simp; first | done | with_reducible rfl)
          try go_simp
          refine wpAnyH_ready (rs := [5]) (by kernel_rfl) (by simp) ?_
          refine AllReadyH.cons (o := _) rfl (fun K hK => ?_) AllReadyH.nil
          go_simp
          refine (K7.out _).mono ?_
          rintro e t1 ⟨rfl, g⟩
          have gt1 : (s6.alloc (.cells #[.int .i64 zn, .int .i64 zd] 24)).grownBy t1 none := (grown_dr (grown_refl _)).trans g
          clear g
          first | (refine hK.out _ _ ?_ (fun hHeld => ?_)) | (go_wp2_with fail; refine hK.out _ _ ?_ (fun hHeld => ?_))
          · (try dsimp only); (repeat (first | assumption | exact grown_refl _ | refine grown_dr ?_ | refine grown_al ?_))
          clear hK K
          refine wpAnyH_ready (rs := [8]) (by kernel_rfl) (by simp) ?_
          refine AllReadyH.cons (o := _) rfl (fun K hK => ?_) AllReadyH.nil
          go_simp
          refine (K8.out _).mono ?_
          rintro e t2 ⟨rfl, g⟩
          have gt2 : (s6.alloc (.cells #[.int .i64 zn, .int .i64 zd] 24)).grownBy t2 none := gt1.trans g
          clear g
          first | (refine hK.out _ _ ?_ (fun hHeld => ?_)) | (go_wp2_with fail; refine hK.out _ _ ?_ (fun hHeld => ?_))
          · (try dsimp only); (repeat (first | assumption | exact grown_refl _ | refine grown_dr ?_ | refine grown_al ?_))
          clear hK K
          refine wpAnyH_take (i := 9) (oi := _) (v := ?_) rfl (by kernel_rfl) (by kernel_rfl) (by kernel_rfl) (fun _ _ _ h => h) (Or.inl ⟨by kernel_rfl, ?_⟩) (by assumption) ?_
          rotate_left 1
          · (intro w hSw; (try dsimp only at hSw); go_simp; first | done | with_reducible rfl)
          try go_simp
          refine wpAnyH_take (i := 10) (oi := _) (v := ?_) rfl (by kernel_rfl) (by kernel_rfl) (by kernel_rfl) (fun _ _ _ h => h) (Or.inl ⟨by rfl, ?_⟩) (by assumption) ?_
          rotate_left 1
          · (intro w hSw; (try dsimp only at hSw); go_simp; first | done | with_reducible rfl)
          try go_simp
          refine wpAnyH_done (by kernel_rfl) ?_ _
          refine NoPanic.normal ?_
          go_simp
          go_wp2_with fail
          go_meet
          exact ⟨by first | rfl | simp, gt2⟩
        · refine wp_region_noPanic ?_
          refine wp_region_held_drew (S := (fun w' => (s6.alloc (.cells #[.int .i64 zn, .int .i64 zd] 24)).grownBy w' none)) (by kernel_rfl) ?_ (fun hHeld => ?_)
          · (try dsimp only); (repeat (first | assumption | exact grown_refl _ | refine grown_dr ?_ | refine grown_al ?_))
          refine wpAnyH_take (i := 0) (oi := _) (v := ?_) rfl (by kernel_rfl) (by kernel_rfl) (by kernel_rfl) (fun _ _ _ h => h) (Or.inl ⟨by rfl, ?_⟩) (by assumption) ?_
          rotate_left 1
          · (intro w hSw; (try dsimp only at hSw); go_simp; first | done | with_reducible rfl)
          try go_simp
          refine wpAnyH_take (i := 1) (oi := _) (v := .bool false) rfl (by kernel_rfl) (by kernel_rfl) (by kernel_rfl) (fun _ _ _ h => h) (Or.inl ⟨by kernel_rfl, ?_⟩) (by assumption) ?_
          · (intro w hSw; (try dsimp only at hSw); go_simp; all_goals skip)
          try go_simp
          refine wpAnyH_take (i := 2) (oi := _) (v := ?_) rfl (by kernel_rfl) (by kernel_rfl) (by kernel_rfl) (fun _ _ _ h => h) (Or.inl ⟨by rfl, ?_⟩) (by assumption) ?_
          rotate_left 1
          · (intro w hSw; (try dsimp only at hSw); go_simp; first | done | with_reducible rfl)
          try go_simp
          refine wpAnyH_take (i := 3) (oi := _) (v := undef) rfl (by kernel_rfl) (by kernel_rfl) (by kernel_rfl) (fun _ _ _ h => h) (Or.inr ⟨by kernel_rfl, rfl⟩) (by assumption) ?_
          try go_simp
          refine wpAnyH_take (i := 4) (oi := _) (v := undef) rfl (by kernel_rfl) (by kernel_rfl) (by kernel_rfl) (fun _ _ _ h => h) (Or.inr ⟨by kernel_rfl, rfl⟩) (by assumption) ?_
          try go_simp
          refine wpAnyH_take (i := 5) (oi := _) (v := undef) rfl (by kernel_rfl) (by kernel_rfl) (by kernel_rfl) (fun _ _ _ h => h) (Or.inr ⟨by kernel_rfl, rfl⟩) (by assumption) ?_
          try go_simp
          refine wpAnyH_take (i := 6) (oi := _) (v := undef) rfl (by kernel_rfl) (by kernel_rfl) (by kernel_rfl) (fun _ _ _ h => h) (Or.inr ⟨by kernel_rfl, rfl⟩) (by assumption) ?_
          try go_simp
          refine wpAnyH_take (i := 7) (oi := _) (v := undef) rfl (by kernel_rfl) (by kernel_rfl) (by kernel_rfl) (fun _ _ _ h => h) (Or.inr ⟨by kernel_rfl, rfl⟩) (by assumption) ?_
          try go_simp
          refine wpAnyH_take (i := 8) (oi := _) (v := undef) rfl (by kernel_rfl) (by kernel_rfl) (by kernel_rfl) (fun _ _ _ h => h) (Or.inr ⟨by kernel_rfl, rfl⟩) (by assumption) ?_
          try go_simp
          refine wpAnyH_take (i := 9) (oi := _) (v := undef) rfl (by kernel_rfl) (by kernel_rfl) (by kernel_rfl) (fun _ _ _ h => h) (Or.inr ⟨by kernel_rfl, rfl⟩) (by assumption) ?_
          try go_simp
          refine wpAnyH_take (i := 10) (oi := _) (v := ?_) rfl (by kernel_rfl) (by kernel_rfl) (by kernel_rfl) (fun _ _ _ h => h) (Or.inl ⟨by rfl, ?_⟩) (by assumption) ?_
          rotate_left 1
          · (intro w hSw; (try dsimp only at hSw); go_simp; first | done | with_reducible rfl)
          try go_simp
          refine wpAnyH_done (by kernel_rfl) ?_ _
          refine NoPanic.normal ?_
          go_simp
          go_wp2_with fail
          go_meet
          exact ⟨by first | rfl | simp, grown_dr (grown_refl _)⟩
      case rest =>
        obtain ⟨rfl, g⟩ := hcut
        clear FZ
        clear kZ0 kZ1 kA0 kA1 kB0 kB1
        replace HA := HA.kept g
        replace HB := HB.kept g
        replace HC := HC.kept g
        replace gg := gg.trans g
        clear HZ HX HX2 HY HY2 HU g
        have kA0 := HA.c0
        have kA1 := HA.c1
        have kB0 := HB.c0
        have kB1 := HB.c1
        have kC0 := HC.c0
        have kC1 := HC.c1
        go_wp2_with fail
        refine wp_region_noPanic ?_
        refine wp_region_held_drew (S := (fun w' => wc.grownBy w' none)) (by kernel_rfl) ?_ (fun hHeld => ?_)
        · (try dsimp only); (repeat (first | assumption | exact grown_refl _ | refine grown_dr ?_ | refine grown_al ?_))
        refine wpAnyH_take (i := 0) (oi := _) (v := .agg #[.int .i64 n, .int .i64 d]) rfl (by kernel_rfl) (by kernel_rfl) (by kernel_rfl) (fun _ _ _ h => h) (Or.inl ⟨by kernel_rfl, ?_⟩) (by assumption) ?_
        · (intro w hSw; (try dsimp only at hSw); go_simp; have y := gcell hSw kA0; have y2 := gcell hSw kA1; clear hSw; go_simp; first | done | with_reducible rfl)
        try go_simp
        refine wpAnyH_take (i := 1) (oi := _) (v := .agg #[.int .i64 m, .int .i64 c]) rfl (by kernel_rfl) (by kernel_rfl) (by kernel_rfl) (fun _ _ _ h => h) (Or.inl ⟨by kernel_rfl, ?_⟩) (by assumption) ?_
        · (intro w hSw; (try dsimp only at hSw); go_simp; have y := gcell hSw kB0; have y2 := gcell hSw kB1; clear hSw; go_simp; first | done | with_reducible rfl)
        try go_simp
        refine wpAnyH_take (i := 3) (oi := _) (v := .agg #[.int .i64 m, .int .i64 c]) rfl (by kernel_rfl) (by kernel_rfl) (by kernel_rfl) (fun _ _ _ h => h) (Or.inl ⟨by kernel_rfl, ?_⟩) (by assumption) ?_
        · (intro w hSw; (try dsimp only at hSw); go_simp; have y := gcell hSw kB0; have y2 := gcell hSw kB1; clear hSw; go_simp; first | done | with_reducible rfl)
        try go_simp
        refine wpAnyH_take (i := 4) (oi := _) (v := .agg #[.int .i64 p, .int .i64 q]) rfl (by kernel_rfl) (by kernel_rfl) (by kernel_rfl) (fun _ _ _ h => h) (Or.inl ⟨by kernel_rfl, ?_⟩) (by assumption) ?_
        · (intro w hSw; (try dsimp only at hSw); go_simp; have y := gcell hSw kC0; have y2 := gcell hSw kC1; clear hSw; go_simp; first | done | with_reducible rfl)
        try go_simp
        refine wpAnyH_take (i := 6) (oi := _) (v := .agg #[.int .i64 n, .int .i64 d]) rfl (by kernel_rfl) (by kernel_rfl) (by kernel_rfl) (fun _ _ _ h => h) (Or.inl ⟨by kernel_rfl, ?_⟩) (by assumption) ?_
        · (intro w hSw; (try dsimp only at hSw); go_simp; have y := gcell hSw kA0; have y2 := gcell hSw kA1; clear hSw; go_simp; first | done | with_reducible rfl)
        try go_simp
        refine wpAnyH_take (i := 7) (oi := _) (v := .agg #[.int .i64 p, .int .i64 q]) rfl (by kernel_rfl) (by kernel_rfl) (by kernel_rfl) (fun _ _ _ h => h) (Or.inl ⟨by kernel_rfl, ?_⟩) (by assumption) ?_
        · (intro w hSw; (try dsimp only at hSw); go_simp; have y := gcell hSw kC0; have y2 := gcell hSw kC1; clear hSw; go_simp; first | done | with_reducible rfl)
        try go_simp
        refine wpAnyH_ready (rs := [2]) (by kernel_rfl) (by simp) ?_
        refine AllReadyH.cons (o := _) rfl (fun K hK => ?_) AllReadyH.nil
        go_simp
        refine (K8.out _).mono ?_
        rintro e t1 ⟨rfl, g⟩
        have gt1 : wc.grownBy t1 none := (grown_dr (grown_refl _)).trans g
        clear g
        first | (refine hK.out _ _ ?_ (fun hHeld => ?_)) | (go_wp2_with fail; refine hK.out _ _ ?_ (fun hHeld => ?_))
        · (try dsimp only); (repeat (first | assumption | exact grown_refl _ | refine grown_dr ?_ | refine grown_al ?_))
        clear hK K
        refine wpAnyH_ready (rs := [5]) (by kernel_rfl) (by simp) ?_
        refine AllReadyH.cons (o := _) rfl (fun K hK => ?_) AllReadyH.nil
        go_simp
        refine (K9.out _).mono ?_
        rintro e t2 ⟨rfl, g⟩
        have gt2 : wc.grownBy t2 none := gt1.trans g
        clear g
        first | (refine hK.out _ _ ?_ (fun hHeld => ?_)) | (go_wp2_with fail; refine hK.out _ _ ?_ (fun hHeld => ?_))
        · (try dsimp only); (repeat (first | assumption | exact grown_refl _ | refine grown_dr ?_ | refine grown_al ?_))
        clear hK K
        refine wpAnyH_ready (rs := [8]) (by kernel_rfl) (by simp) ?_
        refine AllReadyH.cons (o := _) rfl (fun K hK => ?_) AllReadyH.nil
        go_simp
        refine (K10.out _).mono ?_
        rintro e t3 ⟨rfl, g⟩
        have gt3 : wc.grownBy t3 none := gt2.trans g
        clear g
        first | (refine hK.out _ _ ?_ (fun hHeld => ?_)) | (go_wp2_with fail; refine hK.out _ _ ?_ (fun hHeld => ?_))
        · (try dsimp only); (repeat (first | assumption | exact grown_refl _ | refine grown_dr ?_ | refine grown_al ?_))
        clear hK K
        refine wpAnyH_take (i := 9) (oi := _) (v := ?_) rfl (by kernel_rfl) (by kernel_rfl) (by kernel_rfl) (fun _ _ _ h => h) (Or.inl ⟨by rfl, ?_⟩) (by assumption) ?_
        rotate_left 1
        · (intro w hSw; (try dsimp only at hSw); go_simp; first | done | with_reducible rfl)
        try go_simp
        refine wpAnyH_take (i := 10) (oi := _) (v := ?_) rfl (by kernel_rfl) (by kernel_rfl) (by kernel_rfl) (fun _ _ _ h => h) (Or.inl ⟨by rfl, ?_⟩) (by assumption) ?_
        rotate_left 1
        · (intro w hSw; (try dsimp only at hSw); go_simp; first | done | with_reducible rfl)
        try go_simp
        refine wpAnyH_take (i := 11) (oi := _) (v := ?_) rfl (by kernel_rfl) (by kernel_rfl) (by kernel_rfl) (fun _ _ _ h => h) (Or.inl ⟨by rfl, ?_⟩) (by assumption) ?_
        rotate_left 1
        · (intro w hSw; (try dsimp only at hSw); go_simp; first | done | with_reducible rfl)
        try go_simp
        refine wpAnyH_done (by kernel_rfl) ?_ _
        refine NoPanic.normal ?_
        go_simp
        clear kA0 kA1 kB0 kB1 kC0 kC1
        replace HA := HA.kept gt3
        replace HB := HB.kept gt3
        replace gg := gg.trans gt3
        clear HC gt1 gt2 gt3
        have kA0 := HA.c0
        have kA1 := HA.c1
        have kB0 := HB.c0
        have kB1 := HB.c1
        have FC : ((c1 == 0) = true ∧ ¬ 0 < c1 ∧ ¬ c1 < 0 ∧ (n == m) = true ∧ (d == c) = true) ∨ ((c1 == 0) = false ∧ 0 < c1 ∧ ¬ c1 < 0 ∧ 0 < c2 ∧ ¬ c3 ≤ 0) ∨ ((c1 == 0) = false ∧ 0 < c1 ∧ ¬ c1 < 0 ∧ ¬ 0 < c2 ∧ True) ∨
            ((c1 == 0) = false ∧ ¬ 0 < c1 ∧ c1 < 0 ∧ c2 < 0 ∧ ¬ 0 ≤ c3) ∨ ((c1 == 0) = false ∧ ¬ 0 < c1 ∧ c1 < 0 ∧ ¬ c2 < 0 ∧ True) := by
          rcases Int.lt_trichotomy c1 0 with h | h | h
          · by_cases h2 : c2 < 0
            · exact .inr (.inr (.inr (.inl ⟨by simp; omega, by omega, h, h2, by have := u2 h h2; omega⟩)))
            · exact .inr (.inr (.inr (.inr ⟨by simp; omega, by omega, h, h2, trivial⟩)))
          · obtain ⟨e1, e2⟩ := z1 h
            exact .inl ⟨by simpa using h, by omega, by omega, by simpa using e1, by simpa using e2⟩
          · by_cases h2 : 0 < c2
            · exact .inr (.inl ⟨by simp; omega, h, by omega, h2, by have := u1 h h2; omega⟩)
            · exact .inr (.inr (.inl ⟨by simp; omega, h, by omega, h2, trivial⟩))
        clear z1 u1 u2
        go_upto_region 16 with fail
        go_cut [167] (fun u wx => u = .bool false ∧ t3.grownBy wx none)
        case first =>
          rcases FC with ⟨f1, f2, f3, f4, f5⟩ | ⟨f1, f2, f3, f4, f5⟩ | ⟨f1, f2, f3, f4, f5⟩ | ⟨f1, f2, f3, f4, f5⟩ | ⟨f1, f2, f3, f4, f5⟩
          all_goals
            go_wp2_with fail
            refine (K11.out _).mono ?_
            rintro e t4 ⟨rfl, g⟩
            replace HA := HA.kept g
            replace HB := HB.kept g
            clear kA0 kA1 kB0 kB1
            have kA0 := HA.c0
            have kA1 := HA.c1
            have kB0 := HB.c0
            have kB1 := HB.c1
            go_wp2_with fail
            go_meet
            exact ⟨by first | rfl | (simp; done) | simp_all, g⟩
        case rest =>
          obtain ⟨rfl, g⟩ := hcut
          clear FC kA0 kA1 kB0 kB1
          replace HA := HA.kept g
          replace gg := gg.trans g
          have kA0 := HA.c0
          have kA1 := HA.c1
          go_wp2_with fail
          refine (K12.out _).mono ?_
          rintro e t5 ⟨rfl, g5⟩
          go_wp2_with fail
          go_ret
          exact ⟨rfl, gg.trans g5⟩)
  have LD6_13_20_21_22_23_24_25 : Hid (∀ (a : Act) (w : World) (b21 : Nat) (b22 : Nat) (b23 : Nat), a = ((((((a0.put (some 29) (.agg #[.int .i64 (madeN x0 x1), .int .i64 (madeD x0 x1)])).put (some 36) (.agg #[.int .i64 (madeN x2 x3), .int .i64 (madeD x2 x3)])).put (some 43) (.agg #[.int .i64 (madeN x4 x5), .int .i64 (madeD x4 x5)])).put (some 4) (.pointer (some ⟨b21, 0, none⟩))).put (some 5) (.pointer (some ⟨b22, 0, none⟩))).put (some 6) (.pointer (some ⟨b23, 0, none⟩))) → v1.grownBy w none → R2 w b21 (madeN x0 x1) (madeD x0 x1) → v1.heap.size ≤ b21 → R2 w b22 (madeN x2 x3) (madeD x2 x3) → v1.heap.size ≤ b22 → R2 w b23 0 0 → v1.heap.size ≤ b23 → Hid (b21 ≠ b22) → Hid (b21 ≠ b23) → Hid (b22 ≠ b23) → wpAnyH Tryd.prog .any ops Q (fun w' => v1.grownBy w' none) 1 #[true, true, true, true, true, true, true, true, true, true, true, true, true, true, true, true, true, true, true, true, true, true, true, true, true, true, false] a w) := Lib.hid (by
    rintro a w b21 b22 b23 rfl HG HR21 HS21 HR22 HS22 HR23 HS23 HN21_22 HN21_23 HN22_23
    subst hops hQ ha
    have hHeld := HG
    go_simp
    refine wpAnyH_ready (rs := [26]) (by kernel_rfl) (by simp) ?_
    refine AllReadyH.cons (o := _) rfl (fun K hK => ?_) ?_
    · clear hHeld
      have c0 := HR23.c0
      have c1 := HR23.c1
      have f0 := HR23.f0
      have f1 := HR23.f1
      have hl := HR23.lt
      go_simp
      first | (refine hK.out _ _ ?_ (fun hHeld => ?_)) | (go_wp2_with fail; refine hK.out _ _ ?_ (fun hHeld => ?_))
      · exact grown_set (grown_set HG (.inl HS23)) (.inl HS23)
      clear hK K
      go_simp
      exact LD6_13_20_21_22_23_24_25_26.out _ _ _ _ _ (by kernel_rfl) (grown_set (grown_set HG (.inl HS23)) (.inl HS23)) ((HR21.far HN21_23.out).far HN21_23.out) HS21 ((HR22.far HN22_23.out).far HN22_23.out) HS22 (HR23.set _ _) HS23 HN21_22 HN21_23 HN22_23
    exact AllReadyH.nil)
  have LD6_13_20_21_22_23_24 : Hid (∀ (a : Act) (w : World) (b21 : Nat) (b22 : Nat) (b23 : Nat), a = ((((((a0.put (some 29) (.agg #[.int .i64 (madeN x0 x1), .int .i64 (madeD x0 x1)])).put (some 36) (.agg #[.int .i64 (madeN x2 x3), .int .i64 (madeD x2 x3)])).put (some 43) (.agg #[.int .i64 (madeN x4 x5), .int .i64 (madeD x4 x5)])).put (some 4) (.pointer (some ⟨b21, 0, none⟩))).put (some 5) (.pointer (some ⟨b22, 0, none⟩))).put (some 6) (.pointer (some ⟨b23, 0, none⟩))) → v1.grownBy w none → R2 w b21 (madeN x0 x1) (madeD x0 x1) → v1.heap.size ≤ b21 → R2 w b22 0 0 → v1.heap.size ≤ b22 → R2 w b23 0 0 → v1.heap.size ≤ b23 → Hid (b21 ≠ b22) → Hid (b21 ≠ b23) → Hid (b22 ≠ b23) → wpAnyH Tryd.prog .any ops Q (fun w' => v1.grownBy w' none) 2 #[true, true, true, true, true, true, true, true, true, true, true, true, true, true, true, true, true, true, true, true, true, true, true, true, true, false, false] a w) := Lib.hid (by
    rintro a w b21 b22 b23 rfl HG HR21 HS21 HR22 HS22 HR23 HS23 HN21_22 HN21_23 HN22_23
    subst hops hQ ha
    have hHeld := HG
    go_simp
    refine wpAnyH_ready (rs := [25]) (by kernel_rfl) (by simp) ?_
    refine AllReadyH.cons (o := _) rfl (fun K hK => ?_) ?_
    · clear hHeld
      have c0 := HR22.c0
      have c1 := HR22.c1
      have f0 := HR22.f0
      have f1 := HR22.f1
      have hl := HR22.lt
      go_simp
      first | (refine hK.out _ _ ?_ (fun hHeld => ?_)) | (go_wp2_with fail; refine hK.out _ _ ?_ (fun hHeld => ?_))
      · exact grown_set (grown_set HG (.inl HS22)) (.inl HS22)
      clear hK K
      go_simp
      exact LD6_13_20_21_22_23_24_25.out _ _ _ _ _ (by kernel_rfl) (grown_set (grown_set HG (.inl HS22)) (.inl HS22)) ((HR21.far HN21_22.out).far HN21_22.out) HS21 (HR22.set _ _) HS22 ((HR23.far (Ne.symm HN22_23.out)).far (Ne.symm HN22_23.out)) HS23 HN21_22 HN21_23 HN22_23
    exact AllReadyH.nil)
  have LD6_13_20_21_22_23 : Hid (∀ (a : Act) (w : World) (b21 : Nat) (b22 : Nat) (b23 : Nat), a = ((((((a0.put (some 29) (.agg #[.int .i64 (madeN x0 x1), .int .i64 (madeD x0 x1)])).put (some 36) (.agg #[.int .i64 (madeN x2 x3), .int .i64 (madeD x2 x3)])).put (some 43) (.agg #[.int .i64 (madeN x4 x5), .int .i64 (madeD x4 x5)])).put (some 4) (.pointer (some ⟨b21, 0, none⟩))).put (some 5) (.pointer (some ⟨b22, 0, none⟩))).put (some 6) (.pointer (some ⟨b23, 0, none⟩))) → v1.grownBy w none → R2 w b21 0 0 → v1.heap.size ≤ b21 → R2 w b22 0 0 → v1.heap.size ≤ b22 → R2 w b23 0 0 → v1.heap.size ≤ b23 → Hid (b21 ≠ b22) → Hid (b21 ≠ b23) → Hid (b22 ≠ b23) → wpAnyH Tryd.prog .any ops Q (fun w' => v1.grownBy w' none) 3 #[true, true, true, true, true, true, true, true, true, true, true, true, true, true, true, true, true, true, true, true, true, true, true, true, false, false, false] a w) := Lib.hid (by
    rintro a w b21 b22 b23 rfl HG HR21 HS21 HR22 HS22 HR23 HS23 HN21_22 HN21_23 HN22_23
    subst hops hQ ha
    have hHeld := HG
    go_simp
    refine wpAnyH_ready (rs := [24]) (by kernel_rfl) (by simp) ?_
    refine AllReadyH.cons (o := _) rfl (fun K hK => ?_) ?_
    · clear hHeld
      have c0 := HR21.c0
      have c1 := HR21.c1
      have f0 := HR21.f0
      have f1 := HR21.f1
      have hl := HR21.lt
      go_simp
      first | (refine hK.out _ _ ?_ (fun hHeld => ?_)) | (go_wp2_with fail; refine hK.out _ _ ?_ (fun hHeld => ?_))
      · exact grown_set (grown_set HG (.inl HS21)) (.inl HS21)
      clear hK K
      go_simp
      exact LD6_13_20_21_22_23_24.out _ _ _ _ _ (by kernel_rfl) (grown_set (grown_set HG (.inl HS21)) (.inl HS21)) (HR21.set _ _) HS21 ((HR22.far (Ne.symm HN21_22.out)).far (Ne.symm HN21_22.out)) HS22 ((HR23.far (Ne.symm HN21_23.out)).far (Ne.symm HN21_23.out)) HS23 HN21_22 HN21_23 HN22_23
    exact AllReadyH.nil)
  have LD6_13_21_22_23 : Hid (∀ (a : Act) (w : World) (b21 : Nat) (b22 : Nat) (b23 : Nat), a = (((((a0.put (some 29) (.agg #[.int .i64 (madeN x0 x1), .int .i64 (madeD x0 x1)])).put (some 36) (.agg #[.int .i64 (madeN x2 x3), .int .i64 (madeD x2 x3)])).put (some 4) (.pointer (some ⟨b21, 0, none⟩))).put (some 5) (.pointer (some ⟨b22, 0, none⟩))).put (some 6) (.pointer (some ⟨b23, 0, none⟩))) → v1.grownBy w none → R2 w b21 0 0 → v1.heap.size ≤ b21 → R2 w b22 0 0 → v1.heap.size ≤ b22 → R2 w b23 0 0 → v1.heap.size ≤ b23 → Hid (b21 ≠ b22) → Hid (b21 ≠ b23) → Hid (b22 ≠ b23) → wpAnyH Tryd.prog .any ops Q (fun w' => v1.grownBy w' none) 4 #[true, true, true, true, true, true, true, true, true, true, true, true, true, true, true, true, true, true, true, true, false, true, true, true, false, false, false] a w) := Lib.hid (by
    rintro a w b21 b22 b23 rfl HG HR21 HS21 HR22 HS22 HR23 HS23 HN21_22 HN21_23 HN22_23
    subst hops hQ ha
    have hHeld := HG
    go_simp
    refine wpAnyH_ready (rs := [20]) (by kernel_rfl) (by simp) ?_
    refine AllReadyH.cons (o := _) rfl (fun K hK => ?_) ?_
    · clear hHeld
      go_simp
      refine (made_k x4 x5 _).mono ?_
      rintro e w2 ⟨rfl, g⟩
      first | (refine hK.out _ _ ?_ (fun hHeld => ?_)) | (go_wp2_with fail; refine hK.out _ _ ?_ (fun hHeld => ?_))
      · exact HG.trans g
      clear hK K
      go_simp
      exact LD6_13_20_21_22_23.out _ _ _ _ _ (by kernel_rfl) (HG.trans g) (HR21.kept g) HS21 (HR22.kept g) HS22 (HR23.kept g) HS23 HN21_22 HN21_23 HN22_23
    exact AllReadyH.nil)
  have LD6_13_20_22_23 : Hid (∀ (a : Act) (w : World) (b22 : Nat) (b23 : Nat), a = (((((a0.put (some 29) (.agg #[.int .i64 (madeN x0 x1), .int .i64 (madeD x0 x1)])).put (some 36) (.agg #[.int .i64 (madeN x2 x3), .int .i64 (madeD x2 x3)])).put (some 43) (.agg #[.int .i64 (madeN x4 x5), .int .i64 (madeD x4 x5)])).put (some 5) (.pointer (some ⟨b22, 0, none⟩))).put (some 6) (.pointer (some ⟨b23, 0, none⟩))) → v1.grownBy w none → R2 w b22 0 0 → v1.heap.size ≤ b22 → R2 w b23 0 0 → v1.heap.size ≤ b23 → Hid (b22 ≠ b23) → wpAnyH Tryd.prog .any ops Q (fun w' => v1.grownBy w' none) 4 #[true, true, true, true, true, true, true, true, true, true, true, true, true, true, true, true, true, true, true, true, true, false, true, true, false, false, false] a w) := Lib.hid (by
    rintro a w b22 b23 rfl HG HR22 HS22 HR23 HS23 HN22_23
    subst hops hQ ha
    have hHeld := HG
    go_simp
    refine wpAnyH_ready (rs := [21]) (by kernel_rfl) (by simp) ?_
    refine AllReadyH.cons (o := _) rfl (fun K hK => ?_) ?_
    · clear hHeld
      go_simp
      first | (refine hK.out _ _ ?_ (fun hHeld => ?_)) | (go_wp2_with fail; refine hK.out _ _ ?_ (fun hHeld => ?_))
      · exact grown_al HG
      clear hK K
      go_simp
      exact LD6_13_20_21_22_23.out _ _ _ _ _ (by kernel_rfl) (grown_al HG) (R2.new _ _ _) HG.size (HR22.kept (World.grownBy_alloc _ _ none)) HS22 (HR23.kept (World.grownBy_alloc _ _ none)) HS23 (Lib.hid (Ne.symm (Nat.ne_of_lt HR22.lt))) (Lib.hid (Ne.symm (Nat.ne_of_lt HR23.lt))) HN22_23
    exact AllReadyH.nil)
  have LD6_13_20_21_23 : Hid (∀ (a : Act) (w : World) (b21 : Nat) (b23 : Nat), a = (((((a0.put (some 29) (.agg #[.int .i64 (madeN x0 x1), .int .i64 (madeD x0 x1)])).put (some 36) (.agg #[.int .i64 (madeN x2 x3), .int .i64 (madeD x2 x3)])).put (some 43) (.agg #[.int .i64 (madeN x4 x5), .int .i64 (madeD x4 x5)])).put (some 4) (.pointer (some ⟨b21, 0, none⟩))).put (some 6) (.pointer (some ⟨b23, 0, none⟩))) → v1.grownBy w none → R2 w b21 0 0 → v1.heap.size ≤ b21 → R2 w b23 0 0 → v1.heap.size ≤ b23 → Hid (b21 ≠ b23) → wpAnyH Tryd.prog .any ops Q (fun w' => v1.grownBy w' none) 4 #[true, true, true, true, true, true, true, true, true, true, true, true, true, true, true, true, true, true, true, true, true, true, false, true, false, false, false] a w) := Lib.hid (by
    rintro a w b21 b23 rfl HG HR21 HS21 HR23 HS23 HN21_23
    subst hops hQ ha
    have hHeld := HG
    go_simp
    refine wpAnyH_ready (rs := [22]) (by kernel_rfl) (by simp) ?_
    refine AllReadyH.cons (o := _) rfl (fun K hK => ?_) ?_
    · clear hHeld
      go_simp
      first | (refine hK.out _ _ ?_ (fun hHeld => ?_)) | (go_wp2_with fail; refine hK.out _ _ ?_ (fun hHeld => ?_))
      · exact grown_al HG
      clear hK K
      go_simp
      exact LD6_13_20_21_22_23.out _ _ _ _ _ (by kernel_rfl) (grown_al HG) (HR21.kept (World.grownBy_alloc _ _ none)) HS21 (R2.new _ _ _) HG.size (HR23.kept (World.grownBy_alloc _ _ none)) HS23 (Lib.hid (Nat.ne_of_lt HR21.lt)) HN21_23 (Lib.hid (Ne.symm (Nat.ne_of_lt HR23.lt)))
    exact AllReadyH.nil)
  have LD6_13_20_21_22 : Hid (∀ (a : Act) (w : World) (b21 : Nat) (b22 : Nat), a = (((((a0.put (some 29) (.agg #[.int .i64 (madeN x0 x1), .int .i64 (madeD x0 x1)])).put (some 36) (.agg #[.int .i64 (madeN x2 x3), .int .i64 (madeD x2 x3)])).put (some 43) (.agg #[.int .i64 (madeN x4 x5), .int .i64 (madeD x4 x5)])).put (some 4) (.pointer (some ⟨b21, 0, none⟩))).put (some 5) (.pointer (some ⟨b22, 0, none⟩))) → v1.grownBy w none → R2 w b21 0 0 → v1.heap.size ≤ b21 → R2 w b22 0 0 → v1.heap.size ≤ b22 → Hid (b21 ≠ b22) → wpAnyH Tryd.prog .any ops Q (fun w' => v1.grownBy w' none) 4 #[true, true, true, true, true, true, true, true, true, true, true, true, true, true, true, true, true, true, true, true, true, true, true, false, false, false, false] a w) := Lib.hid (by
    rintro a w b21 b22 rfl HG HR21 HS21 HR22 HS22 HN21_22
    subst hops hQ ha
    have hHeld := HG
    go_simp
    refine wpAnyH_ready (rs := [23]) (by kernel_rfl) (by simp) ?_
    refine AllReadyH.cons (o := _) rfl (fun K hK => ?_) ?_
    · clear hHeld
      go_simp
      first | (refine hK.out _ _ ?_ (fun hHeld => ?_)) | (go_wp2_with fail; refine hK.out _ _ ?_ (fun hHeld => ?_))
      · exact grown_al HG
      clear hK K
      go_simp
      exact LD6_13_20_21_22_23.out _ _ _ _ _ (by kernel_rfl) (grown_al HG) (HR21.kept (World.grownBy_alloc _ _ none)) HS21 (HR22.kept (World.grownBy_alloc _ _ none)) HS22 (R2.new _ _ _) HG.size HN21_22 (Lib.hid (Nat.ne_of_lt HR21.lt)) (Lib.hid (Nat.ne_of_lt HR22.lt))
    exact AllReadyH.nil)
  have LD6_21_22_23 : Hid (∀ (a : Act) (w : World) (b21 : Nat) (b22 : Nat) (b23 : Nat), a = ((((a0.put (some 29) (.agg #[.int .i64 (madeN x0 x1), .int .i64 (madeD x0 x1)])).put (some 4) (.pointer (some ⟨b21, 0, none⟩))).put (some 5) (.pointer (some ⟨b22, 0, none⟩))).put (some 6) (.pointer (some ⟨b23, 0, none⟩))) → v1.grownBy w none → R2 w b21 0 0 → v1.heap.size ≤ b21 → R2 w b22 0 0 → v1.heap.size ≤ b22 → R2 w b23 0 0 → v1.heap.size ≤ b23 → Hid (b21 ≠ b22) → Hid (b21 ≠ b23) → Hid (b22 ≠ b23) → wpAnyH Tryd.prog .any ops Q (fun w' => v1.grownBy w' none) 5 #[true, true, true, true, true, true, true, true, true, true, true, true, true, false, true, true, true, true, true, true, false, true, true, true, false, false, false] a w) := Lib.hid (by
    rintro a w b21 b22 b23 rfl HG HR21 HS21 HR22 HS22 HR23 HS23 HN21_22 HN21_23 HN22_23
    subst hops hQ ha
    have hHeld := HG
    go_simp
    refine wpAnyH_ready (rs := [13]) (by kernel_rfl) (by simp) ?_
    refine AllReadyH.cons (o := _) rfl (fun K hK => ?_) ?_
    · clear hHeld
      go_simp
      refine (made_k x2 x3 _).mono ?_
      rintro e w2 ⟨rfl, g⟩
      first | (refine hK.out _ _ ?_ (fun hHeld => ?_)) | (go_wp2_with fail; refine hK.out _ _ ?_ (fun hHeld => ?_))
      · exact HG.trans g
      clear hK K
      go_simp
      exact LD6_13_21_22_23.out _ _ _ _ _ (by kernel_rfl) (HG.trans g) (HR21.kept g) HS21 (HR22.kept g) HS22 (HR23.kept g) HS23 HN21_22 HN21_23 HN22_23
    exact AllReadyH.nil)
  have LD6_13_22_23 : Hid (∀ (a : Act) (w : World) (b22 : Nat) (b23 : Nat), a = ((((a0.put (some 29) (.agg #[.int .i64 (madeN x0 x1), .int .i64 (madeD x0 x1)])).put (some 36) (.agg #[.int .i64 (madeN x2 x3), .int .i64 (madeD x2 x3)])).put (some 5) (.pointer (some ⟨b22, 0, none⟩))).put (some 6) (.pointer (some ⟨b23, 0, none⟩))) → v1.grownBy w none → R2 w b22 0 0 → v1.heap.size ≤ b22 → R2 w b23 0 0 → v1.heap.size ≤ b23 → Hid (b22 ≠ b23) → wpAnyH Tryd.prog .any ops Q (fun w' => v1.grownBy w' none) 5 #[true, true, true, true, true, true, true, true, true, true, true, true, true, true, true, true, true, true, true, true, false, false, true, true, false, false, false] a w) := Lib.hid (by
    rintro a w b22 b23 rfl HG HR22 HS22 HR23 HS23 HN22_23
    subst hops hQ ha
    have hHeld := HG
    go_simp
    refine wpAnyH_ready (rs := [20, 21]) (by kernel_rfl) (by simp) ?_
    refine AllReadyH.cons (o := _) rfl (fun K hK => ?_) ?_
    · clear hHeld
      go_simp
      refine (made_k x4 x5 _).mono ?_
      rintro e w2 ⟨rfl, g⟩
      first | (refine hK.out _ _ ?_ (fun hHeld => ?_)) | (go_wp2_with fail; refine hK.out _ _ ?_ (fun hHeld => ?_))
      · exact HG.trans g
      clear hK K
      go_simp
      exact LD6_13_20_22_23.out _ _ _ _ (by kernel_rfl) (HG.trans g) (HR22.kept g) HS22 (HR23.kept g) HS23 HN22_23
    refine AllReadyH.cons (o := _) rfl (fun K hK => ?_) ?_
    · clear hHeld
      go_simp
      first | (refine hK.out _ _ ?_ (fun hHeld => ?_)) | (go_wp2_with fail; refine hK.out _ _ ?_ (fun hHeld => ?_))
      · exact grown_al HG
      clear hK K
      go_simp
      exact LD6_13_21_22_23.out _ _ _ _ _ (by kernel_rfl) (grown_al HG) (R2.new _ _ _) HG.size (HR22.kept (World.grownBy_alloc _ _ none)) HS22 (HR23.kept (World.grownBy_alloc _ _ none)) HS23 (Lib.hid (Ne.symm (Nat.ne_of_lt HR22.lt))) (Lib.hid (Ne.symm (Nat.ne_of_lt HR23.lt))) HN22_23
    exact AllReadyH.nil)
  have LD6_13_21_23 : Hid (∀ (a : Act) (w : World) (b21 : Nat) (b23 : Nat), a = ((((a0.put (some 29) (.agg #[.int .i64 (madeN x0 x1), .int .i64 (madeD x0 x1)])).put (some 36) (.agg #[.int .i64 (madeN x2 x3), .int .i64 (madeD x2 x3)])).put (some 4) (.pointer (some ⟨b21, 0, none⟩))).put (some 6) (.pointer (some ⟨b23, 0, none⟩))) → v1.grownBy w none → R2 w b21 0 0 → v1.heap.size ≤ b21 → R2 w b23 0 0 → v1.heap.size ≤ b23 → Hid (b21 ≠ b23) → wpAnyH Tryd.prog .any ops Q (fun w' => v1.grownBy w' none) 5 #[true, true, true, true, true, true, true, true, true, true, true, true, true, true, true, true, true, true, true, true, false, true, false, true, false, false, false] a w) := Lib.hid (by
    rintro a w b21 b23 rfl HG HR21 HS21 HR23 HS23 HN21_23
    subst hops hQ ha
    have hHeld := HG
    go_simp
    refine wpAnyH_ready (rs := [20, 22]) (by kernel_rfl) (by simp) ?_
    refine AllReadyH.cons (o := _) rfl (fun K hK => ?_) ?_
    · clear hHeld
      go_simp
      refine (made_k x4 x5 _).mono ?_
      rintro e w2 ⟨rfl, g⟩
      first | (refine hK.out _ _ ?_ (fun hHeld => ?_)) | (go_wp2_with fail; refine hK.out _ _ ?_ (fun hHeld => ?_))
      · exact HG.trans g
      clear hK K
      go_simp
      exact LD6_13_20_21_23.out _ _ _ _ (by kernel_rfl) (HG.trans g) (HR21.kept g) HS21 (HR23.kept g) HS23 HN21_23
    refine AllReadyH.cons (o := _) rfl (fun K hK => ?_) ?_
    · clear hHeld
      go_simp
      first | (refine hK.out _ _ ?_ (fun hHeld => ?_)) | (go_wp2_with fail; refine hK.out _ _ ?_ (fun hHeld => ?_))
      · exact grown_al HG
      clear hK K
      go_simp
      exact LD6_13_21_22_23.out _ _ _ _ _ (by kernel_rfl) (grown_al HG) (HR21.kept (World.grownBy_alloc _ _ none)) HS21 (R2.new _ _ _) HG.size (HR23.kept (World.grownBy_alloc _ _ none)) HS23 (Lib.hid (Nat.ne_of_lt HR21.lt)) HN21_23 (Lib.hid (Ne.symm (Nat.ne_of_lt HR23.lt)))
    exact AllReadyH.nil)
  have LD6_13_21_22 : Hid (∀ (a : Act) (w : World) (b21 : Nat) (b22 : Nat), a = ((((a0.put (some 29) (.agg #[.int .i64 (madeN x0 x1), .int .i64 (madeD x0 x1)])).put (some 36) (.agg #[.int .i64 (madeN x2 x3), .int .i64 (madeD x2 x3)])).put (some 4) (.pointer (some ⟨b21, 0, none⟩))).put (some 5) (.pointer (some ⟨b22, 0, none⟩))) → v1.grownBy w none → R2 w b21 0 0 → v1.heap.size ≤ b21 → R2 w b22 0 0 → v1.heap.size ≤ b22 → Hid (b21 ≠ b22) → wpAnyH Tryd.prog .any ops Q (fun w' => v1.grownBy w' none) 5 #[true, true, true, true, true, true, true, true, true, true, true, true, true, true, true, true, true, true, true, true, false, true, true, false, false, false, false] a w) := Lib.hid (by
    rintro a w b21 b22 rfl HG HR21 HS21 HR22 HS22 HN21_22
    subst hops hQ ha
    have hHeld := HG
    go_simp
    refine wpAnyH_ready (rs := [20, 23]) (by kernel_rfl) (by simp) ?_
    refine AllReadyH.cons (o := _) rfl (fun K hK => ?_) ?_
    · clear hHeld
      go_simp
      refine (made_k x4 x5 _).mono ?_
      rintro e w2 ⟨rfl, g⟩
      first | (refine hK.out _ _ ?_ (fun hHeld => ?_)) | (go_wp2_with fail; refine hK.out _ _ ?_ (fun hHeld => ?_))
      · exact HG.trans g
      clear hK K
      go_simp
      exact LD6_13_20_21_22.out _ _ _ _ (by kernel_rfl) (HG.trans g) (HR21.kept g) HS21 (HR22.kept g) HS22 HN21_22
    refine AllReadyH.cons (o := _) rfl (fun K hK => ?_) ?_
    · clear hHeld
      go_simp
      first | (refine hK.out _ _ ?_ (fun hHeld => ?_)) | (go_wp2_with fail; refine hK.out _ _ ?_ (fun hHeld => ?_))
      · exact grown_al HG
      clear hK K
      go_simp
      exact LD6_13_21_22_23.out _ _ _ _ _ (by kernel_rfl) (grown_al HG) (HR21.kept (World.grownBy_alloc _ _ none)) HS21 (HR22.kept (World.grownBy_alloc _ _ none)) HS22 (R2.new _ _ _) HG.size HN21_22 (Lib.hid (Nat.ne_of_lt HR21.lt)) (Lib.hid (Nat.ne_of_lt HR22.lt))
    exact AllReadyH.nil)
  have LD6_13_20_23 : Hid (∀ (a : Act) (w : World) (b23 : Nat), a = ((((a0.put (some 29) (.agg #[.int .i64 (madeN x0 x1), .int .i64 (madeD x0 x1)])).put (some 36) (.agg #[.int .i64 (madeN x2 x3), .int .i64 (madeD x2 x3)])).put (some 43) (.agg #[.int .i64 (madeN x4 x5), .int .i64 (madeD x4 x5)])).put (some 6) (.pointer (some ⟨b23, 0, none⟩))) → v1.grownBy w none → R2 w b23 0 0 → v1.heap.size ≤ b23 → wpAnyH Tryd.prog .any ops Q (fun w' => v1.grownBy w' none) 5 #[true, true, true, true, true, true, true, true, true, true, true, true, true, true, true, true, true, true, true, true, true, false, false, true, false, false, false] a w) := Lib.hid (by
    rintro a w b23 rfl HG HR23 HS23
    subst hops hQ ha
    have hHeld := HG
    go_simp
    refine wpAnyH_ready (rs := [21, 22]) (by kernel_rfl) (by simp) ?_
    refine AllReadyH.cons (o := _) rfl (fun K hK => ?_) ?_
    · clear hHeld
      go_simp
      first | (refine hK.out _ _ ?_ (fun hHeld => ?_)) | (go_wp2_with fail; refine hK.out _ _ ?_ (fun hHeld => ?_))
      · exact grown_al HG
      clear hK K
      go_simp
      exact LD6_13_20_21_23.out _ _ _ _ (by kernel_rfl) (grown_al HG) (R2.new _ _ _) HG.size (HR23.kept (World.grownBy_alloc _ _ none)) HS23 (Lib.hid (Ne.symm (Nat.ne_of_lt HR23.lt)))
    refine AllReadyH.cons (o := _) rfl (fun K hK => ?_) ?_
    · clear hHeld
      go_simp
      first | (refine hK.out _ _ ?_ (fun hHeld => ?_)) | (go_wp2_with fail; refine hK.out _ _ ?_ (fun hHeld => ?_))
      · exact grown_al HG
      clear hK K
      go_simp
      exact LD6_13_20_22_23.out _ _ _ _ (by kernel_rfl) (grown_al HG) (R2.new _ _ _) HG.size (HR23.kept (World.grownBy_alloc _ _ none)) HS23 (Lib.hid (Ne.symm (Nat.ne_of_lt HR23.lt)))
    exact AllReadyH.nil)
  have LD6_13_20_22 : Hid (∀ (a : Act) (w : World) (b22 : Nat), a = ((((a0.put (some 29) (.agg #[.int .i64 (madeN x0 x1), .int .i64 (madeD x0 x1)])).put (some 36) (.agg #[.int .i64 (madeN x2 x3), .int .i64 (madeD x2 x3)])).put (some 43) (.agg #[.int .i64 (madeN x4 x5), .int .i64 (madeD x4 x5)])).put (some 5) (.pointer (some ⟨b22, 0, none⟩))) → v1.grownBy w none → R2 w b22 0 0 → v1.heap.size ≤ b22 → wpAnyH Tryd.prog .any ops Q (fun w' => v1.grownBy w' none) 5 #[true, true, true, true, true, true, true, true, true, true, true, true, true, true, true, true, true, true, true, true, true, false, true, false, false, false, false] a w) := Lib.hid (by
    rintro a w b22 rfl HG HR22 HS22
    subst hops hQ ha
    have hHeld := HG
    go_simp
    refine wpAnyH_ready (rs := [21, 23]) (by kernel_rfl) (by simp) ?_
    refine AllReadyH.cons (o := _) rfl (fun K hK => ?_) ?_
    · clear hHeld
      go_simp
      first | (refine hK.out _ _ ?_ (fun hHeld => ?_)) | (go_wp2_with fail; refine hK.out _ _ ?_ (fun hHeld => ?_))
      · exact grown_al HG
      clear hK K
      go_simp
      exact LD6_13_20_21_22.out _ _ _ _ (by kernel_rfl) (grown_al HG) (R2.new _ _ _) HG.size (HR22.kept (World.grownBy_alloc _ _ none)) HS22 (Lib.hid (Ne.symm (Nat.ne_of_lt HR22.lt)))
    refine AllReadyH.cons (o := _) rfl (fun K hK => ?_) ?_
    · clear hHeld
      go_simp
      first | (refine hK.out _ _ ?_ (fun hHeld => ?_)) | (go_wp2_with fail; refine hK.out _ _ ?_ (fun hHeld => ?_))
      · exact grown_al HG
      clear hK K
      go_simp
      exact LD6_13_20_22_23.out _ _ _ _ (by kernel_rfl) (grown_al HG) (HR22.kept (World.grownBy_alloc _ _ none)) HS22 (R2.new _ _ _) HG.size (Lib.hid (Nat.ne_of_lt HR22.lt))
    exact AllReadyH.nil)
  have LD6_13_20_21 : Hid (∀ (a : Act) (w : World) (b21 : Nat), a = ((((a0.put (some 29) (.agg #[.int .i64 (madeN x0 x1), .int .i64 (madeD x0 x1)])).put (some 36) (.agg #[.int .i64 (madeN x2 x3), .int .i64 (madeD x2 x3)])).put (some 43) (.agg #[.int .i64 (madeN x4 x5), .int .i64 (madeD x4 x5)])).put (some 4) (.pointer (some ⟨b21, 0, none⟩))) → v1.grownBy w none → R2 w b21 0 0 → v1.heap.size ≤ b21 → wpAnyH Tryd.prog .any ops Q (fun w' => v1.grownBy w' none) 5 #[true, true, true, true, true, true, true, true, true, true, true, true, true, true, true, true, true, true, true, true, true, true, false, false, false, false, false] a w) := Lib.hid (by
    rintro a w b21 rfl HG HR21 HS21
    subst hops hQ ha
    have hHeld := HG
    go_simp
    refine wpAnyH_ready (rs := [22, 23]) (by kernel_rfl) (by simp) ?_
    refine AllReadyH.cons (o := _) rfl (fun K hK => ?_) ?_
    · clear hHeld
      go_simp
      first | (refine hK.out _ _ ?_ (fun hHeld => ?_)) | (go_wp2_with fail; refine hK.out _ _ ?_ (fun hHeld => ?_))
      · exact grown_al HG
      clear hK K
      go_simp
      exact LD6_13_20_21_22.out _ _ _ _ (by kernel_rfl) (grown_al HG) (HR21.kept (World.grownBy_alloc _ _ none)) HS21 (R2.new _ _ _) HG.size (Lib.hid (Nat.ne_of_lt HR21.lt))
    refine AllReadyH.cons (o := _) rfl (fun K hK => ?_) ?_
    · clear hHeld
      go_simp
      first | (refine hK.out _ _ ?_ (fun hHeld => ?_)) | (go_wp2_with fail; refine hK.out _ _ ?_ (fun hHeld => ?_))
      · exact grown_al HG
      clear hK K
      go_simp
      exact LD6_13_20_21_23.out _ _ _ _ (by kernel_rfl) (grown_al HG) (HR21.kept (World.grownBy_alloc _ _ none)) HS21 (R2.new _ _ _) HG.size (Lib.hid (Nat.ne_of_lt HR21.lt))
    exact AllReadyH.nil)
  have LD21_22_23 : Hid (∀ (a : Act) (w : World) (b21 : Nat) (b22 : Nat) (b23 : Nat), a = (((a0.put (some 4) (.pointer (some ⟨b21, 0, none⟩))).put (some 5) (.pointer (some ⟨b22, 0, none⟩))).put (some 6) (.pointer (some ⟨b23, 0, none⟩))) → v1.grownBy w none → R2 w b21 0 0 → v1.heap.size ≤ b21 → R2 w b22 0 0 → v1.heap.size ≤ b22 → R2 w b23 0 0 → v1.heap.size ≤ b23 → Hid (b21 ≠ b22) → Hid (b21 ≠ b23) → Hid (b22 ≠ b23) → wpAnyH Tryd.prog .any ops Q (fun w' => v1.grownBy w' none) 6 #[true, true, true, true, true, true, false, true, true, true, true, true, true, false, true, true, true, true, true, true, false, true, true, true, false, false, false] a w) := Lib.hid (by
    rintro a w b21 b22 b23 rfl HG HR21 HS21 HR22 HS22 HR23 HS23 HN21_22 HN21_23 HN22_23
    subst hops hQ ha
    have hHeld := HG
    go_simp
    refine wpAnyH_ready (rs := [6]) (by kernel_rfl) (by simp) ?_
    refine AllReadyH.cons (o := _) rfl (fun K hK => ?_) ?_
    · clear hHeld
      go_simp
      refine (made_k x0 x1 _).mono ?_
      rintro e w2 ⟨rfl, g⟩
      first | (refine hK.out _ _ ?_ (fun hHeld => ?_)) | (go_wp2_with fail; refine hK.out _ _ ?_ (fun hHeld => ?_))
      · exact HG.trans g
      clear hK K
      go_simp
      exact LD6_21_22_23.out _ _ _ _ _ (by kernel_rfl) (HG.trans g) (HR21.kept g) HS21 (HR22.kept g) HS22 (HR23.kept g) HS23 HN21_22 HN21_23 HN22_23
    exact AllReadyH.nil)
  have LD6_22_23 : Hid (∀ (a : Act) (w : World) (b22 : Nat) (b23 : Nat), a = (((a0.put (some 29) (.agg #[.int .i64 (madeN x0 x1), .int .i64 (madeD x0 x1)])).put (some 5) (.pointer (some ⟨b22, 0, none⟩))).put (some 6) (.pointer (some ⟨b23, 0, none⟩))) → v1.grownBy w none → R2 w b22 0 0 → v1.heap.size ≤ b22 → R2 w b23 0 0 → v1.heap.size ≤ b23 → Hid (b22 ≠ b23) → wpAnyH Tryd.prog .any ops Q (fun w' => v1.grownBy w' none) 6 #[true, true, true, true, true, true, true, true, true, true, true, true, true, false, true, true, true, true, true, true, false, false, true, true, false, false, false] a w) := Lib.hid (by
    rintro a w b22 b23 rfl HG HR22 HS22 HR23 HS23 HN22_23
    subst hops hQ ha
    have hHeld := HG
    go_simp
    refine wpAnyH_ready (rs := [13, 21]) (by kernel_rfl) (by simp) ?_
    refine AllReadyH.cons (o := _) rfl (fun K hK => ?_) ?_
    · clear hHeld
      go_simp
      refine (made_k x2 x3 _).mono ?_
      rintro e w2 ⟨rfl, g⟩
      first | (refine hK.out _ _ ?_ (fun hHeld => ?_)) | (go_wp2_with fail; refine hK.out _ _ ?_ (fun hHeld => ?_))
      · exact HG.trans g
      clear hK K
      go_simp
      exact LD6_13_22_23.out _ _ _ _ (by kernel_rfl) (HG.trans g) (HR22.kept g) HS22 (HR23.kept g) HS23 HN22_23
    refine AllReadyH.cons (o := _) rfl (fun K hK => ?_) ?_
    · clear hHeld
      go_simp
      first | (refine hK.out _ _ ?_ (fun hHeld => ?_)) | (go_wp2_with fail; refine hK.out _ _ ?_ (fun hHeld => ?_))
      · exact grown_al HG
      clear hK K
      go_simp
      exact LD6_21_22_23.out _ _ _ _ _ (by kernel_rfl) (grown_al HG) (R2.new _ _ _) HG.size (HR22.kept (World.grownBy_alloc _ _ none)) HS22 (HR23.kept (World.grownBy_alloc _ _ none)) HS23 (Lib.hid (Ne.symm (Nat.ne_of_lt HR22.lt))) (Lib.hid (Ne.symm (Nat.ne_of_lt HR23.lt))) HN22_23
    exact AllReadyH.nil)
  have LD6_21_23 : Hid (∀ (a : Act) (w : World) (b21 : Nat) (b23 : Nat), a = (((a0.put (some 29) (.agg #[.int .i64 (madeN x0 x1), .int .i64 (madeD x0 x1)])).put (some 4) (.pointer (some ⟨b21, 0, none⟩))).put (some 6) (.pointer (some ⟨b23, 0, none⟩))) → v1.grownBy w none → R2 w b21 0 0 → v1.heap.size ≤ b21 → R2 w b23 0 0 → v1.heap.size ≤ b23 → Hid (b21 ≠ b23) → wpAnyH Tryd.prog .any ops Q (fun w' => v1.grownBy w' none) 6 #[true, true, true, true, true, true, true, true, true, true, true, true, true, false, true, true, true, true, true, true, false, true, false, true, false, false, false] a w) := Lib.hid (by
    rintro a w b21 b23 rfl HG HR21 HS21 HR23 HS23 HN21_23
    subst hops hQ ha
    have hHeld := HG
    go_simp
    refine wpAnyH_ready (rs := [13, 22]) (by kernel_rfl) (by simp) ?_
    refine AllReadyH.cons (o := _) rfl (fun K hK => ?_) ?_
    · clear hHeld
      go_simp
      refine (made_k x2 x3 _).mono ?_
      rintro e w2 ⟨rfl, g⟩
      first | (refine hK.out _ _ ?_ (fun hHeld => ?_)) | (go_wp2_with fail; refine hK.out _ _ ?_ (fun hHeld => ?_))
      · exact HG.trans g
      clear hK K
      go_simp
      exact LD6_13_21_23.out _ _ _ _ (by kernel_rfl) (HG.trans g) (HR21.kept g) HS21 (HR23.kept g) HS23 HN21_23
    refine AllReadyH.cons (o := _) rfl (fun K hK => ?_) ?_
    · clear hHeld
      go_simp
      first | (refine hK.out _ _ ?_ (fun hHeld => ?_)) | (go_wp2_with fail; refine hK.out _ _ ?_ (fun hHeld => ?_))
      · exact grown_al HG
      clear hK K
      go_simp
      exact LD6_21_22_23.out _ _ _ _ _ (by kernel_rfl) (grown_al HG) (HR21.kept (World.grownBy_alloc _ _ none)) HS21 (R2.new _ _ _) HG.size (HR23.kept (World.grownBy_alloc _ _ none)) HS23 (Lib.hid (Nat.ne_of_lt HR21.lt)) HN21_23 (Lib.hid (Ne.symm (Nat.ne_of_lt HR23.lt)))
    exact AllReadyH.nil)
  have LD6_21_22 : Hid (∀ (a : Act) (w : World) (b21 : Nat) (b22 : Nat), a = (((a0.put (some 29) (.agg #[.int .i64 (madeN x0 x1), .int .i64 (madeD x0 x1)])).put (some 4) (.pointer (some ⟨b21, 0, none⟩))).put (some 5) (.pointer (some ⟨b22, 0, none⟩))) → v1.grownBy w none → R2 w b21 0 0 → v1.heap.size ≤ b21 → R2 w b22 0 0 → v1.heap.size ≤ b22 → Hid (b21 ≠ b22) → wpAnyH Tryd.prog .any ops Q (fun w' => v1.grownBy w' none) 6 #[true, true, true, true, true, true, true, true, true, true, true, true, true, false, true, true, true, true, true, true, false, true, true, false, false, false, false] a w) := Lib.hid (by
    rintro a w b21 b22 rfl HG HR21 HS21 HR22 HS22 HN21_22
    subst hops hQ ha
    have hHeld := HG
    go_simp
    refine wpAnyH_ready (rs := [13, 23]) (by kernel_rfl) (by simp) ?_
    refine AllReadyH.cons (o := _) rfl (fun K hK => ?_) ?_
    · clear hHeld
      go_simp
      refine (made_k x2 x3 _).mono ?_
      rintro e w2 ⟨rfl, g⟩
      first | (refine hK.out _ _ ?_ (fun hHeld => ?_)) | (go_wp2_with fail; refine hK.out _ _ ?_ (fun hHeld => ?_))
      · exact HG.trans g
      clear hK K
      go_simp
      exact LD6_13_21_22.out _ _ _ _ (by kernel_rfl) (HG.trans g) (HR21.kept g) HS21 (HR22.kept g) HS22 HN21_22
    refine AllReadyH.cons (o := _) rfl (fun K hK => ?_) ?_
    · clear hHeld
      go_simp
      first | (refine hK.out _ _ ?_ (fun hHeld => ?_)) | (go_wp2_with fail; refine hK.out _ _ ?_ (fun hHeld => ?_))
      · exact grown_al HG
      clear hK K
      go_simp
      exact LD6_21_22_23.out _ _ _ _ _ (by kernel_rfl) (grown_al HG) (HR21.kept (World.grownBy_alloc _ _ none)) HS21 (HR22.kept (World.grownBy_alloc _ _ none)) HS22 (R2.new _ _ _) HG.size HN21_22 (Lib.hid (Nat.ne_of_lt HR21.lt)) (Lib.hid (Nat.ne_of_lt HR22.lt))
    exact AllReadyH.nil)
  have LD6_13_23 : Hid (∀ (a : Act) (w : World) (b23 : Nat), a = (((a0.put (some 29) (.agg #[.int .i64 (madeN x0 x1), .int .i64 (madeD x0 x1)])).put (some 36) (.agg #[.int .i64 (madeN x2 x3), .int .i64 (madeD x2 x3)])).put (some 6) (.pointer (some ⟨b23, 0, none⟩))) → v1.grownBy w none → R2 w b23 0 0 → v1.heap.size ≤ b23 → wpAnyH Tryd.prog .any ops Q (fun w' => v1.grownBy w' none) 6 #[true, true, true, true, true, true, true, true, true, true, true, true, true, true, true, true, true, true, true, true, false, false, false, true, false, false, false] a w) := Lib.hid (by
    rintro a w b23 rfl HG HR23 HS23
    subst hops hQ ha
    have hHeld := HG
    go_simp
    refine wpAnyH_ready (rs := [20, 21, 22]) (by kernel_rfl) (by simp) ?_
    refine AllReadyH.cons (o := _) rfl (fun K hK => ?_) ?_
    · clear hHeld
      go_simp
      refine (made_k x4 x5 _).mono ?_
      rintro e w2 ⟨rfl, g⟩
      first | (refine hK.out _ _ ?_ (fun hHeld => ?_)) | (go_wp2_with fail; refine hK.out _ _ ?_ (fun hHeld => ?_))
      · exact HG.trans g
      clear hK K
      go_simp
      exact LD6_13_20_23.out _ _ _ (by kernel_rfl) (HG.trans g) (HR23.kept g) HS23
    refine AllReadyH.cons (o := _) rfl (fun K hK => ?_) ?_
    · clear hHeld
      go_simp
      first | (refine hK.out _ _ ?_ (fun hHeld => ?_)) | (go_wp2_with fail; refine hK.out _ _ ?_ (fun hHeld => ?_))
      · exact grown_al HG
      clear hK K
      go_simp
      exact LD6_13_21_23.out _ _ _ _ (by kernel_rfl) (grown_al HG) (R2.new _ _ _) HG.size (HR23.kept (World.grownBy_alloc _ _ none)) HS23 (Lib.hid (Ne.symm (Nat.ne_of_lt HR23.lt)))
    refine AllReadyH.cons (o := _) rfl (fun K hK => ?_) ?_
    · clear hHeld
      go_simp
      first | (refine hK.out _ _ ?_ (fun hHeld => ?_)) | (go_wp2_with fail; refine hK.out _ _ ?_ (fun hHeld => ?_))
      · exact grown_al HG
      clear hK K
      go_simp
      exact LD6_13_22_23.out _ _ _ _ (by kernel_rfl) (grown_al HG) (R2.new _ _ _) HG.size (HR23.kept (World.grownBy_alloc _ _ none)) HS23 (Lib.hid (Ne.symm (Nat.ne_of_lt HR23.lt)))
    exact AllReadyH.nil)
  have LD6_13_22 : Hid (∀ (a : Act) (w : World) (b22 : Nat), a = (((a0.put (some 29) (.agg #[.int .i64 (madeN x0 x1), .int .i64 (madeD x0 x1)])).put (some 36) (.agg #[.int .i64 (madeN x2 x3), .int .i64 (madeD x2 x3)])).put (some 5) (.pointer (some ⟨b22, 0, none⟩))) → v1.grownBy w none → R2 w b22 0 0 → v1.heap.size ≤ b22 → wpAnyH Tryd.prog .any ops Q (fun w' => v1.grownBy w' none) 6 #[true, true, true, true, true, true, true, true, true, true, true, true, true, true, true, true, true, true, true, true, false, false, true, false, false, false, false] a w) := Lib.hid (by
    rintro a w b22 rfl HG HR22 HS22
    subst hops hQ ha
    have hHeld := HG
    go_simp
    refine wpAnyH_ready (rs := [20, 21, 23]) (by kernel_rfl) (by simp) ?_
    refine AllReadyH.cons (o := _) rfl (fun K hK => ?_) ?_
    · clear hHeld
      go_simp
      refine (made_k x4 x5 _).mono ?_
      rintro e w2 ⟨rfl, g⟩
      first | (refine hK.out _ _ ?_ (fun hHeld => ?_)) | (go_wp2_with fail; refine hK.out _ _ ?_ (fun hHeld => ?_))
      · exact HG.trans g
      clear hK K
      go_simp
      exact LD6_13_20_22.out _ _ _ (by kernel_rfl) (HG.trans g) (HR22.kept g) HS22
    refine AllReadyH.cons (o := _) rfl (fun K hK => ?_) ?_
    · clear hHeld
      go_simp
      first | (refine hK.out _ _ ?_ (fun hHeld => ?_)) | (go_wp2_with fail; refine hK.out _ _ ?_ (fun hHeld => ?_))
      · exact grown_al HG
      clear hK K
      go_simp
      exact LD6_13_21_22.out _ _ _ _ (by kernel_rfl) (grown_al HG) (R2.new _ _ _) HG.size (HR22.kept (World.grownBy_alloc _ _ none)) HS22 (Lib.hid (Ne.symm (Nat.ne_of_lt HR22.lt)))
    refine AllReadyH.cons (o := _) rfl (fun K hK => ?_) ?_
    · clear hHeld
      go_simp
      first | (refine hK.out _ _ ?_ (fun hHeld => ?_)) | (go_wp2_with fail; refine hK.out _ _ ?_ (fun hHeld => ?_))
      · exact grown_al HG
      clear hK K
      go_simp
      exact LD6_13_22_23.out _ _ _ _ (by kernel_rfl) (grown_al HG) (HR22.kept (World.grownBy_alloc _ _ none)) HS22 (R2.new _ _ _) HG.size (Lib.hid (Nat.ne_of_lt HR22.lt))
    exact AllReadyH.nil)
  have LD6_13_21 : Hid (∀ (a : Act) (w : World) (b21 : Nat), a = (((a0.put (some 29) (.agg #[.int .i64 (madeN x0 x1), .int .i64 (madeD x0 x1)])).put (some 36) (.agg #[.int .i64 (madeN x2 x3), .int .i64 (madeD x2 x3)])).put (some 4) (.pointer (some ⟨b21, 0, none⟩))) → v1.grownBy w none → R2 w b21 0 0 → v1.heap.size ≤ b21 → wpAnyH Tryd.prog .any ops Q (fun w' => v1.grownBy w' none) 6 #[true, true, true, true, true, true, true, true, true, true, true, true, true, true, true, true, true, true, true, true, false, true, false, false, false, false, false] a w) := Lib.hid (by
    rintro a w b21 rfl HG HR21 HS21
    subst hops hQ ha
    have hHeld := HG
    go_simp
    refine wpAnyH_ready (rs := [20, 22, 23]) (by kernel_rfl) (by simp) ?_
    refine AllReadyH.cons (o := _) rfl (fun K hK => ?_) ?_
    · clear hHeld
      go_simp
      refine (made_k x4 x5 _).mono ?_
      rintro e w2 ⟨rfl, g⟩
      first | (refine hK.out _ _ ?_ (fun hHeld => ?_)) | (go_wp2_with fail; refine hK.out _ _ ?_ (fun hHeld => ?_))
      · exact HG.trans g
      clear hK K
      go_simp
      exact LD6_13_20_21.out _ _ _ (by kernel_rfl) (HG.trans g) (HR21.kept g) HS21
    refine AllReadyH.cons (o := _) rfl (fun K hK => ?_) ?_
    · clear hHeld
      go_simp
      first | (refine hK.out _ _ ?_ (fun hHeld => ?_)) | (go_wp2_with fail; refine hK.out _ _ ?_ (fun hHeld => ?_))
      · exact grown_al HG
      clear hK K
      go_simp
      exact LD6_13_21_22.out _ _ _ _ (by kernel_rfl) (grown_al HG) (HR21.kept (World.grownBy_alloc _ _ none)) HS21 (R2.new _ _ _) HG.size (Lib.hid (Nat.ne_of_lt HR21.lt))
    refine AllReadyH.cons (o := _) rfl (fun K hK => ?_) ?_
    · clear hHeld
      go_simp
      first | (refine hK.out _ _ ?_ (fun hHeld => ?_)) | (go_wp2_with fail; refine hK.out _ _ ?_ (fun hHeld => ?_))
      · exact grown_al HG
      clear hK K
      go_simp
      exact LD6_13_21_23.out _ _ _ _ (by kernel_rfl) (grown_al HG) (HR21.kept (World.grownBy_alloc _ _ none)) HS21 (R2.new _ _ _) HG.size (Lib.hid (Nat.ne_of_lt HR21.lt))
    exact AllReadyH.nil)
  have LD6_13_20 : Hid (∀ (a : Act) (w : World) , a = (((a0.put (some 29) (.agg #[.int .i64 (madeN x0 x1), .int .i64 (madeD x0 x1)])).put (some 36) (.agg #[.int .i64 (madeN x2 x3), .int .i64 (madeD x2 x3)])).put (some 43) (.agg #[.int .i64 (madeN x4 x5), .int .i64 (madeD x4 x5)])) → v1.grownBy w none → wpAnyH Tryd.prog .any ops Q (fun w' => v1.grownBy w' none) 6 #[true, true, true, true, true, true, true, true, true, true, true, true, true, true, true, true, true, true, true, true, true, false, false, false, false, false, false] a w) := Lib.hid (by
    rintro a w rfl HG
    subst hops hQ ha
    have hHeld := HG
    go_simp
    refine wpAnyH_ready (rs := [21, 22, 23]) (by kernel_rfl) (by simp) ?_
    refine AllReadyH.cons (o := _) rfl (fun K hK => ?_) ?_
    · clear hHeld
      go_simp
      first | (refine hK.out _ _ ?_ (fun hHeld => ?_)) | (go_wp2_with fail; refine hK.out _ _ ?_ (fun hHeld => ?_))
      · exact grown_al HG
      clear hK K
      go_simp
      exact LD6_13_20_21.out _ _ _ (by kernel_rfl) (grown_al HG) (R2.new _ _ _) HG.size
    refine AllReadyH.cons (o := _) rfl (fun K hK => ?_) ?_
    · clear hHeld
      go_simp
      first | (refine hK.out _ _ ?_ (fun hHeld => ?_)) | (go_wp2_with fail; refine hK.out _ _ ?_ (fun hHeld => ?_))
      · exact grown_al HG
      clear hK K
      go_simp
      exact LD6_13_20_22.out _ _ _ (by kernel_rfl) (grown_al HG) (R2.new _ _ _) HG.size
    refine AllReadyH.cons (o := _) rfl (fun K hK => ?_) ?_
    · clear hHeld
      go_simp
      first | (refine hK.out _ _ ?_ (fun hHeld => ?_)) | (go_wp2_with fail; refine hK.out _ _ ?_ (fun hHeld => ?_))
      · exact grown_al HG
      clear hK K
      go_simp
      exact LD6_13_20_23.out _ _ _ (by kernel_rfl) (grown_al HG) (R2.new _ _ _) HG.size
    exact AllReadyH.nil)
  have LD22_23 : Hid (∀ (a : Act) (w : World) (b22 : Nat) (b23 : Nat), a = ((a0.put (some 5) (.pointer (some ⟨b22, 0, none⟩))).put (some 6) (.pointer (some ⟨b23, 0, none⟩))) → v1.grownBy w none → R2 w b22 0 0 → v1.heap.size ≤ b22 → R2 w b23 0 0 → v1.heap.size ≤ b23 → Hid (b22 ≠ b23) → wpAnyH Tryd.prog .any ops Q (fun w' => v1.grownBy w' none) 7 #[true, true, true, true, true, true, false, true, true, true, true, true, true, false, true, true, true, true, true, true, false, false, true, true, false, false, false] a w) := Lib.hid (by
    rintro a w b22 b23 rfl HG HR22 HS22 HR23 HS23 HN22_23
    subst hops hQ ha
    have hHeld := HG
    go_simp
    refine wpAnyH_ready (rs := [6, 21]) (by kernel_rfl) (by simp) ?_
    refine AllReadyH.cons (o := _) rfl (fun K hK => ?_) ?_
    · clear hHeld
      go_simp
      refine (made_k x0 x1 _).mono ?_
      rintro e w2 ⟨rfl, g⟩
      first | (refine hK.out _ _ ?_ (fun hHeld => ?_)) | (go_wp2_with fail; refine hK.out _ _ ?_ (fun hHeld => ?_))
      · exact HG.trans g
      clear hK K
      go_simp
      exact LD6_22_23.out _ _ _ _ (by kernel_rfl) (HG.trans g) (HR22.kept g) HS22 (HR23.kept g) HS23 HN22_23
    refine AllReadyH.cons (o := _) rfl (fun K hK => ?_) ?_
    · clear hHeld
      go_simp
      first | (refine hK.out _ _ ?_ (fun hHeld => ?_)) | (go_wp2_with fail; refine hK.out _ _ ?_ (fun hHeld => ?_))
      · exact grown_al HG
      clear hK K
      go_simp
      exact LD21_22_23.out _ _ _ _ _ (by kernel_rfl) (grown_al HG) (R2.new _ _ _) HG.size (HR22.kept (World.grownBy_alloc _ _ none)) HS22 (HR23.kept (World.grownBy_alloc _ _ none)) HS23 (Lib.hid (Ne.symm (Nat.ne_of_lt HR22.lt))) (Lib.hid (Ne.symm (Nat.ne_of_lt HR23.lt))) HN22_23
    exact AllReadyH.nil)
  have LD21_23 : Hid (∀ (a : Act) (w : World) (b21 : Nat) (b23 : Nat), a = ((a0.put (some 4) (.pointer (some ⟨b21, 0, none⟩))).put (some 6) (.pointer (some ⟨b23, 0, none⟩))) → v1.grownBy w none → R2 w b21 0 0 → v1.heap.size ≤ b21 → R2 w b23 0 0 → v1.heap.size ≤ b23 → Hid (b21 ≠ b23) → wpAnyH Tryd.prog .any ops Q (fun w' => v1.grownBy w' none) 7 #[true, true, true, true, true, true, false, true, true, true, true, true, true, false, true, true, true, true, true, true, false, true, false, true, false, false, false] a w) := Lib.hid (by
    rintro a w b21 b23 rfl HG HR21 HS21 HR23 HS23 HN21_23
    subst hops hQ ha
    have hHeld := HG
    go_simp
    refine wpAnyH_ready (rs := [6, 22]) (by kernel_rfl) (by simp) ?_
    refine AllReadyH.cons (o := _) rfl (fun K hK => ?_) ?_
    · clear hHeld
      go_simp
      refine (made_k x0 x1 _).mono ?_
      rintro e w2 ⟨rfl, g⟩
      first | (refine hK.out _ _ ?_ (fun hHeld => ?_)) | (go_wp2_with fail; refine hK.out _ _ ?_ (fun hHeld => ?_))
      · exact HG.trans g
      clear hK K
      go_simp
      exact LD6_21_23.out _ _ _ _ (by kernel_rfl) (HG.trans g) (HR21.kept g) HS21 (HR23.kept g) HS23 HN21_23
    refine AllReadyH.cons (o := _) rfl (fun K hK => ?_) ?_
    · clear hHeld
      go_simp
      first | (refine hK.out _ _ ?_ (fun hHeld => ?_)) | (go_wp2_with fail; refine hK.out _ _ ?_ (fun hHeld => ?_))
      · exact grown_al HG
      clear hK K
      go_simp
      exact LD21_22_23.out _ _ _ _ _ (by kernel_rfl) (grown_al HG) (HR21.kept (World.grownBy_alloc _ _ none)) HS21 (R2.new _ _ _) HG.size (HR23.kept (World.grownBy_alloc _ _ none)) HS23 (Lib.hid (Nat.ne_of_lt HR21.lt)) HN21_23 (Lib.hid (Ne.symm (Nat.ne_of_lt HR23.lt)))
    exact AllReadyH.nil)
  have LD21_22 : Hid (∀ (a : Act) (w : World) (b21 : Nat) (b22 : Nat), a = ((a0.put (some 4) (.pointer (some ⟨b21, 0, none⟩))).put (some 5) (.pointer (some ⟨b22, 0, none⟩))) → v1.grownBy w none → R2 w b21 0 0 → v1.heap.size ≤ b21 → R2 w b22 0 0 → v1.heap.size ≤ b22 → Hid (b21 ≠ b22) → wpAnyH Tryd.prog .any ops Q (fun w' => v1.grownBy w' none) 7 #[true, true, true, true, true, true, false, true, true, true, true, true, true, false, true, true, true, true, true, true, false, true, true, false, false, false, false] a w) := Lib.hid (by
    rintro a w b21 b22 rfl HG HR21 HS21 HR22 HS22 HN21_22
    subst hops hQ ha
    have hHeld := HG
    go_simp
    refine wpAnyH_ready (rs := [6, 23]) (by kernel_rfl) (by simp) ?_
    refine AllReadyH.cons (o := _) rfl (fun K hK => ?_) ?_
    · clear hHeld
      go_simp
      refine (made_k x0 x1 _).mono ?_
      rintro e w2 ⟨rfl, g⟩
      first | (refine hK.out _ _ ?_ (fun hHeld => ?_)) | (go_wp2_with fail; refine hK.out _ _ ?_ (fun hHeld => ?_))
      · exact HG.trans g
      clear hK K
      go_simp
      exact LD6_21_22.out _ _ _ _ (by kernel_rfl) (HG.trans g) (HR21.kept g) HS21 (HR22.kept g) HS22 HN21_22
    refine AllReadyH.cons (o := _) rfl (fun K hK => ?_) ?_
    · clear hHeld
      go_simp
      first | (refine hK.out _ _ ?_ (fun hHeld => ?_)) | (go_wp2_with fail; refine hK.out _ _ ?_ (fun hHeld => ?_))
      · exact grown_al HG
      clear hK K
      go_simp
      exact LD21_22_23.out _ _ _ _ _ (by kernel_rfl) (grown_al HG) (HR21.kept (World.grownBy_alloc _ _ none)) HS21 (HR22.kept (World.grownBy_alloc _ _ none)) HS22 (R2.new _ _ _) HG.size HN21_22 (Lib.hid (Nat.ne_of_lt HR21.lt)) (Lib.hid (Nat.ne_of_lt HR22.lt))
    exact AllReadyH.nil)
  have LD6_23 : Hid (∀ (a : Act) (w : World) (b23 : Nat), a = ((a0.put (some 29) (.agg #[.int .i64 (madeN x0 x1), .int .i64 (madeD x0 x1)])).put (some 6) (.pointer (some ⟨b23, 0, none⟩))) → v1.grownBy w none → R2 w b23 0 0 → v1.heap.size ≤ b23 → wpAnyH Tryd.prog .any ops Q (fun w' => v1.grownBy w' none) 7 #[true, true, true, true, true, true, true, true, true, true, true, true, true, false, true, true, true, true, true, true, false, false, false, true, false, false, false] a w) := Lib.hid (by
    rintro a w b23 rfl HG HR23 HS23
    subst hops hQ ha
    have hHeld := HG
    go_simp
    refine wpAnyH_ready (rs := [13, 21, 22]) (by kernel_rfl) (by simp) ?_
    refine AllReadyH.cons (o := _) rfl (fun K hK => ?_) ?_
    · clear hHeld
      go_simp
      refine (made_k x2 x3 _).mono ?_
      rintro e w2 ⟨rfl, g⟩
      first | (refine hK.out _ _ ?_ (fun hHeld => ?_)) | (go_wp2_with fail; refine hK.out _ _ ?_ (fun hHeld => ?_))
      · exact HG.trans g
      clear hK K
      go_simp
      exact LD6_13_23.out _ _ _ (by kernel_rfl) (HG.trans g) (HR23.kept g) HS23
    refine AllReadyH.cons (o := _) rfl (fun K hK => ?_) ?_
    · clear hHeld
      go_simp
      first | (refine hK.out _ _ ?_ (fun hHeld => ?_)) | (go_wp2_with fail; refine hK.out _ _ ?_ (fun hHeld => ?_))
      · exact grown_al HG
      clear hK K
      go_simp
      exact LD6_21_23.out _ _ _ _ (by kernel_rfl) (grown_al HG) (R2.new _ _ _) HG.size (HR23.kept (World.grownBy_alloc _ _ none)) HS23 (Lib.hid (Ne.symm (Nat.ne_of_lt HR23.lt)))
    refine AllReadyH.cons (o := _) rfl (fun K hK => ?_) ?_
    · clear hHeld
      go_simp
      first | (refine hK.out _ _ ?_ (fun hHeld => ?_)) | (go_wp2_with fail; refine hK.out _ _ ?_ (fun hHeld => ?_))
      · exact grown_al HG
      clear hK K
      go_simp
      exact LD6_22_23.out _ _ _ _ (by kernel_rfl) (grown_al HG) (R2.new _ _ _) HG.size (HR23.kept (World.grownBy_alloc _ _ none)) HS23 (Lib.hid (Ne.symm (Nat.ne_of_lt HR23.lt)))
    exact AllReadyH.nil)
  have LD6_22 : Hid (∀ (a : Act) (w : World) (b22 : Nat), a = ((a0.put (some 29) (.agg #[.int .i64 (madeN x0 x1), .int .i64 (madeD x0 x1)])).put (some 5) (.pointer (some ⟨b22, 0, none⟩))) → v1.grownBy w none → R2 w b22 0 0 → v1.heap.size ≤ b22 → wpAnyH Tryd.prog .any ops Q (fun w' => v1.grownBy w' none) 7 #[true, true, true, true, true, true, true, true, true, true, true, true, true, false, true, true, true, true, true, true, false, false, true, false, false, false, false] a w) := Lib.hid (by
    rintro a w b22 rfl HG HR22 HS22
    subst hops hQ ha
    have hHeld := HG
    go_simp
    refine wpAnyH_ready (rs := [13, 21, 23]) (by kernel_rfl) (by simp) ?_
    refine AllReadyH.cons (o := _) rfl (fun K hK => ?_) ?_
    · clear hHeld
      go_simp
      refine (made_k x2 x3 _).mono ?_
      rintro e w2 ⟨rfl, g⟩
      first | (refine hK.out _ _ ?_ (fun hHeld => ?_)) | (go_wp2_with fail; refine hK.out _ _ ?_ (fun hHeld => ?_))
      · exact HG.trans g
      clear hK K
      go_simp
      exact LD6_13_22.out _ _ _ (by kernel_rfl) (HG.trans g) (HR22.kept g) HS22
    refine AllReadyH.cons (o := _) rfl (fun K hK => ?_) ?_
    · clear hHeld
      go_simp
      first | (refine hK.out _ _ ?_ (fun hHeld => ?_)) | (go_wp2_with fail; refine hK.out _ _ ?_ (fun hHeld => ?_))
      · exact grown_al HG
      clear hK K
      go_simp
      exact LD6_21_22.out _ _ _ _ (by kernel_rfl) (grown_al HG) (R2.new _ _ _) HG.size (HR22.kept (World.grownBy_alloc _ _ none)) HS22 (Lib.hid (Ne.symm (Nat.ne_of_lt HR22.lt)))
    refine AllReadyH.cons (o := _) rfl (fun K hK => ?_) ?_
    · clear hHeld
      go_simp
      first | (refine hK.out _ _ ?_ (fun hHeld => ?_)) | (go_wp2_with fail; refine hK.out _ _ ?_ (fun hHeld => ?_))
      · exact grown_al HG
      clear hK K
      go_simp
      exact LD6_22_23.out _ _ _ _ (by kernel_rfl) (grown_al HG) (HR22.kept (World.grownBy_alloc _ _ none)) HS22 (R2.new _ _ _) HG.size (Lib.hid (Nat.ne_of_lt HR22.lt))
    exact AllReadyH.nil)
  have LD6_21 : Hid (∀ (a : Act) (w : World) (b21 : Nat), a = ((a0.put (some 29) (.agg #[.int .i64 (madeN x0 x1), .int .i64 (madeD x0 x1)])).put (some 4) (.pointer (some ⟨b21, 0, none⟩))) → v1.grownBy w none → R2 w b21 0 0 → v1.heap.size ≤ b21 → wpAnyH Tryd.prog .any ops Q (fun w' => v1.grownBy w' none) 7 #[true, true, true, true, true, true, true, true, true, true, true, true, true, false, true, true, true, true, true, true, false, true, false, false, false, false, false] a w) := Lib.hid (by
    rintro a w b21 rfl HG HR21 HS21
    subst hops hQ ha
    have hHeld := HG
    go_simp
    refine wpAnyH_ready (rs := [13, 22, 23]) (by kernel_rfl) (by simp) ?_
    refine AllReadyH.cons (o := _) rfl (fun K hK => ?_) ?_
    · clear hHeld
      go_simp
      refine (made_k x2 x3 _).mono ?_
      rintro e w2 ⟨rfl, g⟩
      first | (refine hK.out _ _ ?_ (fun hHeld => ?_)) | (go_wp2_with fail; refine hK.out _ _ ?_ (fun hHeld => ?_))
      · exact HG.trans g
      clear hK K
      go_simp
      exact LD6_13_21.out _ _ _ (by kernel_rfl) (HG.trans g) (HR21.kept g) HS21
    refine AllReadyH.cons (o := _) rfl (fun K hK => ?_) ?_
    · clear hHeld
      go_simp
      first | (refine hK.out _ _ ?_ (fun hHeld => ?_)) | (go_wp2_with fail; refine hK.out _ _ ?_ (fun hHeld => ?_))
      · exact grown_al HG
      clear hK K
      go_simp
      exact LD6_21_22.out _ _ _ _ (by kernel_rfl) (grown_al HG) (HR21.kept (World.grownBy_alloc _ _ none)) HS21 (R2.new _ _ _) HG.size (Lib.hid (Nat.ne_of_lt HR21.lt))
    refine AllReadyH.cons (o := _) rfl (fun K hK => ?_) ?_
    · clear hHeld
      go_simp
      first | (refine hK.out _ _ ?_ (fun hHeld => ?_)) | (go_wp2_with fail; refine hK.out _ _ ?_ (fun hHeld => ?_))
      · exact grown_al HG
      clear hK K
      go_simp
      exact LD6_21_23.out _ _ _ _ (by kernel_rfl) (grown_al HG) (HR21.kept (World.grownBy_alloc _ _ none)) HS21 (R2.new _ _ _) HG.size (Lib.hid (Nat.ne_of_lt HR21.lt))
    exact AllReadyH.nil)
  have LD6_13 : Hid (∀ (a : Act) (w : World) , a = ((a0.put (some 29) (.agg #[.int .i64 (madeN x0 x1), .int .i64 (madeD x0 x1)])).put (some 36) (.agg #[.int .i64 (madeN x2 x3), .int .i64 (madeD x2 x3)])) → v1.grownBy w none → wpAnyH Tryd.prog .any ops Q (fun w' => v1.grownBy w' none) 7 #[true, true, true, true, true, true, true, true, true, true, true, true, true, true, true, true, true, true, true, true, false, false, false, false, false, false, false] a w) := Lib.hid (by
    rintro a w rfl HG
    subst hops hQ ha
    have hHeld := HG
    go_simp
    refine wpAnyH_ready (rs := [20, 21, 22, 23]) (by kernel_rfl) (by simp) ?_
    refine AllReadyH.cons (o := _) rfl (fun K hK => ?_) ?_
    · clear hHeld
      go_simp
      refine (made_k x4 x5 _).mono ?_
      rintro e w2 ⟨rfl, g⟩
      first | (refine hK.out _ _ ?_ (fun hHeld => ?_)) | (go_wp2_with fail; refine hK.out _ _ ?_ (fun hHeld => ?_))
      · exact HG.trans g
      clear hK K
      go_simp
      exact LD6_13_20.out _ _  (by kernel_rfl) (HG.trans g)
    refine AllReadyH.cons (o := _) rfl (fun K hK => ?_) ?_
    · clear hHeld
      go_simp
      first | (refine hK.out _ _ ?_ (fun hHeld => ?_)) | (go_wp2_with fail; refine hK.out _ _ ?_ (fun hHeld => ?_))
      · exact grown_al HG
      clear hK K
      go_simp
      exact LD6_13_21.out _ _ _ (by kernel_rfl) (grown_al HG) (R2.new _ _ _) HG.size
    refine AllReadyH.cons (o := _) rfl (fun K hK => ?_) ?_
    · clear hHeld
      go_simp
      first | (refine hK.out _ _ ?_ (fun hHeld => ?_)) | (go_wp2_with fail; refine hK.out _ _ ?_ (fun hHeld => ?_))
      · exact grown_al HG
      clear hK K
      go_simp
      exact LD6_13_22.out _ _ _ (by kernel_rfl) (grown_al HG) (R2.new _ _ _) HG.size
    refine AllReadyH.cons (o := _) rfl (fun K hK => ?_) ?_
    · clear hHeld
      go_simp
      first | (refine hK.out _ _ ?_ (fun hHeld => ?_)) | (go_wp2_with fail; refine hK.out _ _ ?_ (fun hHeld => ?_))
      · exact grown_al HG
      clear hK K
      go_simp
      exact LD6_13_23.out _ _ _ (by kernel_rfl) (grown_al HG) (R2.new _ _ _) HG.size
    exact AllReadyH.nil)
  have LD23 : Hid (∀ (a : Act) (w : World) (b23 : Nat), a = (a0.put (some 6) (.pointer (some ⟨b23, 0, none⟩))) → v1.grownBy w none → R2 w b23 0 0 → v1.heap.size ≤ b23 → wpAnyH Tryd.prog .any ops Q (fun w' => v1.grownBy w' none) 8 #[true, true, true, true, true, true, false, true, true, true, true, true, true, false, true, true, true, true, true, true, false, false, false, true, false, false, false] a w) := Lib.hid (by
    rintro a w b23 rfl HG HR23 HS23
    subst hops hQ ha
    have hHeld := HG
    go_simp
    refine wpAnyH_ready (rs := [6, 21, 22]) (by kernel_rfl) (by simp) ?_
    refine AllReadyH.cons (o := _) rfl (fun K hK => ?_) ?_
    · clear hHeld
      go_simp
      refine (made_k x0 x1 _).mono ?_
      rintro e w2 ⟨rfl, g⟩
      first | (refine hK.out _ _ ?_ (fun hHeld => ?_)) | (go_wp2_with fail; refine hK.out _ _ ?_ (fun hHeld => ?_))
      · exact HG.trans g
      clear hK K
      go_simp
      exact LD6_23.out _ _ _ (by kernel_rfl) (HG.trans g) (HR23.kept g) HS23
    refine AllReadyH.cons (o := _) rfl (fun K hK => ?_) ?_
    · clear hHeld
      go_simp
      first | (refine hK.out _ _ ?_ (fun hHeld => ?_)) | (go_wp2_with fail; refine hK.out _ _ ?_ (fun hHeld => ?_))
      · exact grown_al HG
      clear hK K
      go_simp
      exact LD21_23.out _ _ _ _ (by kernel_rfl) (grown_al HG) (R2.new _ _ _) HG.size (HR23.kept (World.grownBy_alloc _ _ none)) HS23 (Lib.hid (Ne.symm (Nat.ne_of_lt HR23.lt)))
    refine AllReadyH.cons (o := _) rfl (fun K hK => ?_) ?_
    · clear hHeld
      go_simp
      first | (refine hK.out _ _ ?_ (fun hHeld => ?_)) | (go_wp2_with fail; refine hK.out _ _ ?_ (fun hHeld => ?_))
      · exact grown_al HG
      clear hK K
      go_simp
      exact LD22_23.out _ _ _ _ (by kernel_rfl) (grown_al HG) (R2.new _ _ _) HG.size (HR23.kept (World.grownBy_alloc _ _ none)) HS23 (Lib.hid (Ne.symm (Nat.ne_of_lt HR23.lt)))
    exact AllReadyH.nil)
  have LD22 : Hid (∀ (a : Act) (w : World) (b22 : Nat), a = (a0.put (some 5) (.pointer (some ⟨b22, 0, none⟩))) → v1.grownBy w none → R2 w b22 0 0 → v1.heap.size ≤ b22 → wpAnyH Tryd.prog .any ops Q (fun w' => v1.grownBy w' none) 8 #[true, true, true, true, true, true, false, true, true, true, true, true, true, false, true, true, true, true, true, true, false, false, true, false, false, false, false] a w) := Lib.hid (by
    rintro a w b22 rfl HG HR22 HS22
    subst hops hQ ha
    have hHeld := HG
    go_simp
    refine wpAnyH_ready (rs := [6, 21, 23]) (by kernel_rfl) (by simp) ?_
    refine AllReadyH.cons (o := _) rfl (fun K hK => ?_) ?_
    · clear hHeld
      go_simp
      refine (made_k x0 x1 _).mono ?_
      rintro e w2 ⟨rfl, g⟩
      first | (refine hK.out _ _ ?_ (fun hHeld => ?_)) | (go_wp2_with fail; refine hK.out _ _ ?_ (fun hHeld => ?_))
      · exact HG.trans g
      clear hK K
      go_simp
      exact LD6_22.out _ _ _ (by kernel_rfl) (HG.trans g) (HR22.kept g) HS22
    refine AllReadyH.cons (o := _) rfl (fun K hK => ?_) ?_
    · clear hHeld
      go_simp
      first | (refine hK.out _ _ ?_ (fun hHeld => ?_)) | (go_wp2_with fail; refine hK.out _ _ ?_ (fun hHeld => ?_))
      · exact grown_al HG
      clear hK K
      go_simp
      exact LD21_22.out _ _ _ _ (by kernel_rfl) (grown_al HG) (R2.new _ _ _) HG.size (HR22.kept (World.grownBy_alloc _ _ none)) HS22 (Lib.hid (Ne.symm (Nat.ne_of_lt HR22.lt)))
    refine AllReadyH.cons (o := _) rfl (fun K hK => ?_) ?_
    · clear hHeld
      go_simp
      first | (refine hK.out _ _ ?_ (fun hHeld => ?_)) | (go_wp2_with fail; refine hK.out _ _ ?_ (fun hHeld => ?_))
      · exact grown_al HG
      clear hK K
      go_simp
      exact LD22_23.out _ _ _ _ (by kernel_rfl) (grown_al HG) (HR22.kept (World.grownBy_alloc _ _ none)) HS22 (R2.new _ _ _) HG.size (Lib.hid (Nat.ne_of_lt HR22.lt))
    exact AllReadyH.nil)
  have LD21 : Hid (∀ (a : Act) (w : World) (b21 : Nat), a = (a0.put (some 4) (.pointer (some ⟨b21, 0, none⟩))) → v1.grownBy w none → R2 w b21 0 0 → v1.heap.size ≤ b21 → wpAnyH Tryd.prog .any ops Q (fun w' => v1.grownBy w' none) 8 #[true, true, true, true, true, true, false, true, true, true, true, true, true, false, true, true, true, true, true, true, false, true, false, false, false, false, false] a w) := Lib.hid (by
    rintro a w b21 rfl HG HR21 HS21
    subst hops hQ ha
    have hHeld := HG
    go_simp
    refine wpAnyH_ready (rs := [6, 22, 23]) (by kernel_rfl) (by simp) ?_
    refine AllReadyH.cons (o := _) rfl (fun K hK => ?_) ?_
    · clear hHeld
      go_simp
      refine (made_k x0 x1 _).mono ?_
      rintro e w2 ⟨rfl, g⟩
      first | (refine hK.out _ _ ?_ (fun hHeld => ?_)) | (go_wp2_with fail; refine hK.out _ _ ?_ (fun hHeld => ?_))
      · exact HG.trans g
      clear hK K
      go_simp
      exact LD6_21.out _ _ _ (by kernel_rfl) (HG.trans g) (HR21.kept g) HS21
    refine AllReadyH.cons (o := _) rfl (fun K hK => ?_) ?_
    · clear hHeld
      go_simp
      first | (refine hK.out _ _ ?_ (fun hHeld => ?_)) | (go_wp2_with fail; refine hK.out _ _ ?_ (fun hHeld => ?_))
      · exact grown_al HG
      clear hK K
      go_simp
      exact LD21_22.out _ _ _ _ (by kernel_rfl) (grown_al HG) (HR21.kept (World.grownBy_alloc _ _ none)) HS21 (R2.new _ _ _) HG.size (Lib.hid (Nat.ne_of_lt HR21.lt))
    refine AllReadyH.cons (o := _) rfl (fun K hK => ?_) ?_
    · clear hHeld
      go_simp
      first | (refine hK.out _ _ ?_ (fun hHeld => ?_)) | (go_wp2_with fail; refine hK.out _ _ ?_ (fun hHeld => ?_))
      · exact grown_al HG
      clear hK K
      go_simp
      exact LD21_23.out _ _ _ _ (by kernel_rfl) (grown_al HG) (HR21.kept (World.grownBy_alloc _ _ none)) HS21 (R2.new _ _ _) HG.size (Lib.hid (Nat.ne_of_lt HR21.lt))
    exact AllReadyH.nil)
  have LD6 : Hid (∀ (a : Act) (w : World) , a = (a0.put (some 29) (.agg #[.int .i64 (madeN x0 x1), .int .i64 (madeD x0 x1)])) → v1.grownBy w none → wpAnyH Tryd.prog .any ops Q (fun w' => v1.grownBy w' none) 8 #[true, true, true, true, true, true, true, true, true, true, true, true, true, false, true, true, true, true, true, true, false, false, false, false, false, false, false] a w) := Lib.hid (by
    rintro a w rfl HG
    subst hops hQ ha
    have hHeld := HG
    go_simp
    refine wpAnyH_ready (rs := [13, 21, 22, 23]) (by kernel_rfl) (by simp) ?_
    refine AllReadyH.cons (o := _) rfl (fun K hK => ?_) ?_
    · clear hHeld
      go_simp
      refine (made_k x2 x3 _).mono ?_
      rintro e w2 ⟨rfl, g⟩
      first | (refine hK.out _ _ ?_ (fun hHeld => ?_)) | (go_wp2_with fail; refine hK.out _ _ ?_ (fun hHeld => ?_))
      · exact HG.trans g
      clear hK K
      go_simp
      exact LD6_13.out _ _  (by kernel_rfl) (HG.trans g)
    refine AllReadyH.cons (o := _) rfl (fun K hK => ?_) ?_
    · clear hHeld
      go_simp
      first | (refine hK.out _ _ ?_ (fun hHeld => ?_)) | (go_wp2_with fail; refine hK.out _ _ ?_ (fun hHeld => ?_))
      · exact grown_al HG
      clear hK K
      go_simp
      exact LD6_21.out _ _ _ (by kernel_rfl) (grown_al HG) (R2.new _ _ _) HG.size
    refine AllReadyH.cons (o := _) rfl (fun K hK => ?_) ?_
    · clear hHeld
      go_simp
      first | (refine hK.out _ _ ?_ (fun hHeld => ?_)) | (go_wp2_with fail; refine hK.out _ _ ?_ (fun hHeld => ?_))
      · exact grown_al HG
      clear hK K
      go_simp
      exact LD6_22.out _ _ _ (by kernel_rfl) (grown_al HG) (R2.new _ _ _) HG.size
    refine AllReadyH.cons (o := _) rfl (fun K hK => ?_) ?_
    · clear hHeld
      go_simp
      first | (refine hK.out _ _ ?_ (fun hHeld => ?_)) | (go_wp2_with fail; refine hK.out _ _ ?_ (fun hHeld => ?_))
      · exact grown_al HG
      clear hK K
      go_simp
      exact LD6_23.out _ _ _ (by kernel_rfl) (grown_al HG) (R2.new _ _ _) HG.size
    exact AllReadyH.nil)
  have LD : Hid (∀ (a : Act) (w : World) , a = a0 → v1.grownBy w none → wpAnyH Tryd.prog .any ops Q (fun w' => v1.grownBy w' none) 9 #[true, true, true, true, true, true, false, true, true, true, true, true, true, false, true, true, true, true, true, true, false, false, false, false, false, false, false] a w) := Lib.hid (by
    rintro a w rfl HG
    subst hops hQ ha
    have hHeld := HG
    go_simp
    refine wpAnyH_ready (rs := [6, 21, 22, 23]) (by kernel_rfl) (by simp) ?_
    refine AllReadyH.cons (o := _) rfl (fun K hK => ?_) ?_
    · clear hHeld
      go_simp
      refine (made_k x0 x1 _).mono ?_
      rintro e w2 ⟨rfl, g⟩
      first | (refine hK.out _ _ ?_ (fun hHeld => ?_)) | (go_wp2_with fail; refine hK.out _ _ ?_ (fun hHeld => ?_))
      · exact HG.trans g
      clear hK K
      go_simp
      exact LD6.out _ _  (by kernel_rfl) (HG.trans g)
    refine AllReadyH.cons (o := _) rfl (fun K hK => ?_) ?_
    · clear hHeld
      go_simp
      first | (refine hK.out _ _ ?_ (fun hHeld => ?_)) | (go_wp2_with fail; refine hK.out _ _ ?_ (fun hHeld => ?_))
      · exact grown_al HG
      clear hK K
      go_simp
      exact LD21.out _ _ _ (by kernel_rfl) (grown_al HG) (R2.new _ _ _) HG.size
    refine AllReadyH.cons (o := _) rfl (fun K hK => ?_) ?_
    · clear hHeld
      go_simp
      first | (refine hK.out _ _ ?_ (fun hHeld => ?_)) | (go_wp2_with fail; refine hK.out _ _ ?_ (fun hHeld => ?_))
      · exact grown_al HG
      clear hK K
      go_simp
      exact LD22.out _ _ _ (by kernel_rfl) (grown_al HG) (R2.new _ _ _) HG.size
    refine AllReadyH.cons (o := _) rfl (fun K hK => ?_) ?_
    · clear hHeld
      go_simp
      first | (refine hK.out _ _ ?_ (fun hHeld => ?_)) | (go_wp2_with fail; refine hK.out _ _ ?_ (fun hHeld => ?_))
      · exact grown_al HG
      clear hK K
      go_simp
      exact LD23.out _ _ _ (by kernel_rfl) (grown_al HG) (R2.new _ _ _) HG.size
    exact AllReadyH.nil)
  exact LD.out _ _ rfl hHeld
end Go.Proofs.YtekhdcfnpgkodaaDoor
