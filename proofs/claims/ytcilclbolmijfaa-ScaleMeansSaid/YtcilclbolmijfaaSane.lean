/-
  The chapter's examples hold.
-/
import Derived.Test.YtcilclbolmijfaaSaneA
namespace Go.Proofs.Ytcilclbolmijfaa
open Go.RowKit
theorem s3_of (w : World) (a b p : Int) : ∃ w1, w1 = w.alloc (.cells #[.int .i64 a, .int .i64 b, .int .i64 p] 24) ∧ S3 w1 w.heap.size a b p ∧ w.grownBy w1 none := ⟨_, rfl, S3.new w a b p, World.grownBy_alloc _ _ none⟩
theorem c4_of (w : World) (a b c d : Int) : ∃ w1, w1 = w.alloc (.cells #[.int .i64 a, .int .i64 b, .int .i64 c, .int .i64 d] 26) ∧ C4 w1 w.heap.size a b c d ∧ w.grownBy w1 none := ⟨_, rfl, C4.new w a b c d, World.grownBy_alloc _ _ none⟩
theorem C4.set3 {w : World} {B : Nat} {n a d r : Int} (h : C4 w B n a d r) (x : Int) : C4 (w.setCell ⟨B, 3, none⟩ (.int .i64 x)) B n a d x := by
  unfold C4 at h ⊢
  simp [World.setCell, Array.getElem?_modify, h]
theorem C4.f3 {w : World} {B : Nat} {n a d r : Int} (h : C4 w B n a d r) : w.frozen? ⟨B, 3, none⟩ = false := by unfold C4 at h; simp [World.frozen?, h]
theorem C4.far {w : World} {b o i : Nat} {v : Value} {n a d r : Int} (h : C4 w b n a d r) (hne : b ≠ o) : C4 (w.setCell ⟨o, i, none⟩ v) b n a d r :=
  ((grown_setCell w o i v).block b h.lt (by simpa using hne)).trans h
theorem S3.far {w : World} {b o i : Nat} {v : Value} {n a d : Int} (h : S3 w b n a d) (hne : b ≠ o) : S3 (w.setCell ⟨o, i, none⟩ v) b n a d :=
  ((grown_setCell w o i v).block b h.lt (by simpa using hne)).trans h
theorem two_of (w : World) (a b c d : Int) (h : i64 a ∧ i64 b ∧ i64 c ∧ i64 d) : ∃ w2, w2 = (w.alloc (.cells #[.int .i64 a, .int .i64 b] 3)).alloc (.cells #[.int .i64 c, .int .i64 d] 3) ∧ Nums w2 (some ⟨w.heap.size, 0, none⟩) [a, b] ∧ Nums w2 (some ⟨w.heap.size + 1, 0, none⟩) [c, d] ∧ w.grownBy w2 none := by
  have n1 := Nums.new w [a, b] 3 (by simp; exact ⟨h.1, h.2.1⟩)
  have n2 := Nums.new (w.alloc (.cells #[.int .i64 a, .int .i64 b] 3)) [c, d] 3 (by simp; exact ⟨h.2.2.1, h.2.2.2⟩)
  rw [show (w.alloc (.cells #[.int .i64 a, .int .i64 b] 3)).heap.size = w.heap.size + 1 by simp] at n2
  exact ⟨_, rfl, n1.kept (World.grownBy_alloc _ _ none), n2, grown_al (World.grownBy_alloc _ _ none)⟩
theorem m1 : mN [70, 85] [6, 3] = 75 ∧ mD [70, 85] [6, 3] = 1 ∧ mE [70, 85] [6, 3] = 0 := by decide +kernel
theorem v1 : gvB (-1) 110 20 3 6 1 4 75 2 = true := by decide +kernel
theorem v2 : gvB (-1) 110 20 1 6 1 4 75 1 = true := by decide +kernel
theorem v3 : gvB (-1) 110 20 3 6 1 4 110 1 = true := by decide +kernel
theorem v4 : gvB 1 0 20 3 0 10 5 50 3 = true := by decide +kernel
theorem v5 : gvB 1 0 20 4 0 10 5 50 2 = true := by decide +kernel
set_option maxRecDepth 100000 in
set_option maxHeartbeats 8000000 in
theorem sane_k (w : World) : Calls Try.prog 9 #[] w fun e w' => e = .returned (.bool true) ∧ w.grownBy w' none := by
  have K0 := check_k 0 100 50
  rw [show chkE 0 100 50 = 0 by decide +kernel] at K0
  have Q0 := Lib.hid K0
  clear K0
  have K1 := check_k 6 1 4
  rw [show chkE 6 1 4 = 0 by decide +kernel] at K1
  have Q1 := Lib.hid K1
  clear K1
  have K2 := check_k 5 5 5
  rw [show chkE 5 5 5 = 10 by decide +kernel] at K2
  have Q2 := Lib.hid K2
  clear K2
  have K3 := check_k 0 10 11
  rw [show chkE 0 10 11 = 10 by decide +kernel] at K3
  have Q3 := Lib.hid K3
  clear K3
  have K4 := better2_k 6 1 4 2 3
  rw [show betB 6 1 4 2 3 = true by decide +kernel] at K4
  have Q4 := Lib.hid K4
  clear K4
  have K5 := better2_k 6 1 4 3 2
  rw [show betB 6 1 4 3 2 = false by decide +kernel] at K5
  have Q5 := Lib.hid K5
  clear K5
  have K6 := passed_k 6 1 4 4
  rw [show rchB 6 1 4 4 4 = true by decide +kernel] at K6
  have Q6 := Lib.hid K6
  clear K6
  have K7 := passed_k 6 1 4 5
  rw [show rchB 6 1 4 5 4 = false by decide +kernel] at K7
  have Q7 := Lib.hid K7
  clear K7
  have K8 := reaches_k 6 1 4 2 2
  rw [show rchB 6 1 4 2 2 = true by decide +kernel] at K8
  have Q8 := Lib.hid K8
  clear K8
  have K9 := right_k 6 1 4 6
  rw [show rgB 6 1 4 6 = true by decide +kernel] at K9
  have Q9 := Lib.hid K9
  clear K9
  have K10 := right_k 6 1 4 7
  rw [show rgB 6 1 4 7 = false by decide +kernel] at K10
  have Q10 := Lib.hid K10
  clear K10
  have V0 := gives_k (-1) 110 20 3 6 1 4 75 2 (by simp [i64])
  rw [v1] at V0
  have W0 := Lib.hid V0
  clear V0
  have V1 := gives_k (-1) 110 20 1 6 1 4 75 1 (by simp [i64])
  rw [v2] at V1
  have W1 := Lib.hid V1
  clear V1
  have V2 := gives_k (-1) 110 20 3 6 1 4 110 1 (by simp [i64])
  rw [v3] at V2
  have W2 := Lib.hid V2
  clear V2
  have V3 := gives_k 1 0 20 3 0 10 5 50 3 (by simp [i64])
  rw [v4] at V3
  have W3 := Lib.hid V3
  clear V3
  have V4 := gives_k 1 0 20 4 0 10 5 50 2 (by simp [i64])
  rw [v5] at V4
  have W4 := Lib.hid V4
  clear V4
  have D0 := checkConv_k 1 0 20 3
  rw [show cvE 1 0 20 3 = 0 by decide +kernel] at D0
  have E0 := Lib.hid D0
  clear D0
  have D1 := checkConv_k 0 0 0 0
  rw [show cvE 0 0 0 0 = 3 by decide +kernel] at D1
  have E1 := Lib.hid D1
  clear D1
  obtain ⟨w0, e0, six, gg⟩ := s3_of w 6 1 4
  have H0 := Lib.hid e0
  clear e0
  have six0 := six.c0
  have six1 := six.c1
  have six2 := six.c2
  go_enter Try.func9, Try.ntmps9
  go_upto_region 2 with fail
  rw [← H0.out]
  go_wp2_with fail
  refine (Q0.out _).mono ?_
  rintro e w1 ⟨rfl, g⟩
  clear six0 six1 six2
  replace six := six.kept g
  replace gg := gg.trans g
  clear g
  have six0 := six.c0
  have six1 := six.c1
  have six2 := six.c2
  go_wp2_with fail
  refine (Q1.out _).mono ?_
  rintro e w2 ⟨rfl, g⟩
  clear six0 six1 six2
  replace six := six.kept g
  replace gg := gg.trans g
  clear g
  have six0 := six.c0
  have six1 := six.c1
  have six2 := six.c2
  go_wp2_with fail
  refine (Q2.out _).mono ?_
  rintro e w3 ⟨rfl, g⟩
  clear six0 six1 six2
  replace six := six.kept g
  replace gg := gg.trans g
  clear g
  have six0 := six.c0
  have six1 := six.c1
  have six2 := six.c2
  go_wp2_with fail
  refine (Q3.out _).mono ?_
  rintro e w4 ⟨rfl, g⟩
  clear six0 six1 six2
  replace six := six.kept g
  replace gg := gg.trans g
  clear g
  have six0 := six.c0
  have six1 := six.c1
  have six2 := six.c2
  go_wp2_with fail
  refine (Q4.out _).mono ?_
  rintro e w5 ⟨rfl, g⟩
  clear six0 six1 six2
  replace six := six.kept g
  replace gg := gg.trans g
  clear g
  have six0 := six.c0
  have six1 := six.c1
  have six2 := six.c2
  go_wp2_with fail
  refine (Q5.out _).mono ?_
  rintro e w6 ⟨rfl, g⟩
  clear six0 six1 six2
  replace six := six.kept g
  replace gg := gg.trans g
  clear g
  have six0 := six.c0
  have six1 := six.c1
  have six2 := six.c2
  go_wp2_with fail
  refine (Q6.out _).mono ?_
  rintro e w7 ⟨rfl, g⟩
  clear six0 six1 six2
  replace six := six.kept g
  replace gg := gg.trans g
  clear g
  have six0 := six.c0
  have six1 := six.c1
  have six2 := six.c2
  go_wp2_with fail
  refine (Q7.out _).mono ?_
  rintro e w8 ⟨rfl, g⟩
  clear six0 six1 six2
  replace six := six.kept g
  replace gg := gg.trans g
  clear g
  have six0 := six.c0
  have six1 := six.c1
  have six2 := six.c2
  go_wp2_with fail
  refine (Q8.out _).mono ?_
  rintro e w9 ⟨rfl, g⟩
  clear six0 six1 six2
  replace six := six.kept g
  replace gg := gg.trans g
  clear g
  have six0 := six.c0
  have six1 := six.c1
  have six2 := six.c2
  go_wp2_with fail
  refine (Q9.out _).mono ?_
  rintro e w10 ⟨rfl, g⟩
  clear six0 six1 six2
  replace six := six.kept g
  replace gg := gg.trans g
  clear g
  have six0 := six.c0
  have six1 := six.c1
  have six2 := six.c2
  go_wp2_with fail
  refine (Q10.out _).mono ?_
  rintro e w11 ⟨rfl, g⟩
  clear six0 six1 six2
  replace six := six.kept g
  replace gg := gg.trans g
  clear g
  have six0 := six.c0
  have six1 := six.c1
  have six2 := six.c2
  go_upto_region 4 with fail
  obtain ⟨wm, em, n1, n2, g⟩ := two_of w11 70 85 6 3 (by simp [i64])
  have KM := mean_k [70, 85] [6, 3] _ _ 2 2 2 2 wm rfl rfl (by decide) (by decide) n1 n2
  rw [m1.1, m1.2.1, m1.2.2] at KM
  have QM := Lib.hid KM
  have HM := Lib.hid em
  clear KM em n1 n2
  clear six0 six1 six2
  replace six := six.kept g
  replace gg := gg.trans g
  clear g
  have six0 := six.c0
  have six1 := six.c1
  have six2 := six.c2
  go_wp2_with fail
  rw [← HM.out]
  refine QM.out.mono ?_
  rintro e wn ⟨rfl, g⟩
  clear six0 six1 six2
  replace six := six.kept g
  replace gg := gg.trans g
  clear g
  have six0 := six.c0
  have six1 := six.c1
  have six2 := six.c2
  go_upto_region 5 with fail
  obtain ⟨wa, ea⟩ : ∃ wa, wa = wn.alloc (.cells #[.int .i64 75, .int .i64 1] 46) := ⟨_, rfl⟩
  have g : wn.grownBy wa none := by rw [ea]; exact World.grownBy_alloc _ _ none
  have m : R2 wa wn.heap.size 75 1 := by rw [ea]; exact R2.new _ _ _
  rw [← ea]
  clear ea
  clear six0 six1 six2
  replace six := six.kept g
  replace gg := gg.trans g
  clear g
  have six0 := six.c0
  have six1 := six.c1
  have six2 := six.c2
  have m0 := m.c0
  have m1 := m.c1
  go_upto_region 6 with fail
  obtain ⟨wb, ea, cc, g⟩ := c4_of wa (-1) 110 20 3
  rw [← ea]
  clear ea
  clear six0 six1 six2 m0 m1
  replace six := six.kept g
  replace m := m.kept g
  replace gg := gg.trans g
  clear g
  have six0 := six.c0
  have six1 := six.c1
  have six2 := six.c2
  have m0 := m.c0
  have m1 := m.c1
  have cc0 := cc.c0
  have cc1 := cc.c1
  have cc2 := cc.c2
  have cc3 := cc.c3
  go_upto_region 7 with fail
  have HLT1 := Lib.hid six.lt
  have HLT2 := Lib.hid cc.lt
  have HLT3 := Lib.hid m.lt
  have HLT4 := Lib.hid gg.size
  obtain ⟨wc, ea, dn, g⟩ := c4_of wb (-1) 110 20 3
  rw [← ea]
  clear ea
  clear six0 six1 six2 m0 m1 cc0 cc1 cc2 cc3
  replace six := six.kept g
  replace m := m.kept g
  replace cc := cc.kept g
  replace gg := gg.trans g
  clear g
  have six0 := six.c0
  have six1 := six.c1
  have six2 := six.c2
  have m0 := m.c0
  have m1 := m.c1
  have cc0 := cc.c0
  have cc1 := cc.c1
  have cc2 := cc.c2
  have cc3 := cc.c3
  have dn0 := dn.c0
  have dn1 := dn.c1
  have dn2 := dn.c2
  have dn3 := dn.c3
  have f3 := dn.f3
  have hs := dn.lt
  go_upto_region 8 with fail
  have ne1 : w.heap.size ≠ wb.heap.size := Nat.ne_of_lt HLT1.out
  have ne2 : wa.heap.size ≠ wb.heap.size := Nat.ne_of_lt HLT2.out
  have ne3 : wn.heap.size ≠ wb.heap.size := Nat.ne_of_lt HLT3.out
  obtain ⟨wd, ed⟩ : ∃ wd, wd = wc.setCell ⟨wb.heap.size, 3, none⟩ (.int .i64 1) := ⟨_, rfl⟩
  rw [← ed]
  clear six0 six1 six2 m0 m1 cc0 cc1 cc2 cc3 dn0 dn1 dn2 dn3
  replace six : S3 wd w.heap.size 6 1 4 := by rw [ed]; exact six.far ne1
  replace cc : C4 wd wa.heap.size (-1) 110 20 3 := by rw [ed]; exact cc.far ne2
  replace dn : C4 wd wb.heap.size (-1) 110 20 1 := by rw [ed]; exact dn.set3 1
  replace m : R2 wd wn.heap.size 75 1 := by rw [ed]; exact m.far ne3
  replace gg : w.grownBy wd none := by rw [ed]; exact grown_set gg (.inl HLT4.out)
  clear ed f3 hs
  have six0 := six.c0
  have six1 := six.c1
  have six2 := six.c2
  have m0 := m.c0
  have m1 := m.c1
  have cc0 := cc.c0
  have cc1 := cc.c1
  have cc2 := cc.c2
  have cc3 := cc.c3
  have dn0 := dn.c0
  have dn1 := dn.c1
  have dn2 := dn.c2
  have dn3 := dn.c3
  go_wp2_with fail
  refine (W0.out _).mono ?_
  rintro e w21 ⟨rfl, g⟩
  clear six0 six1 six2 m0 m1 cc0 cc1 cc2 cc3 dn0 dn1 dn2 dn3
  replace six := six.kept g
  replace m := m.kept g
  replace cc := cc.kept g
  replace dn := dn.kept g
  replace gg := gg.trans g
  clear g
  have six0 := six.c0
  have six1 := six.c1
  have six2 := six.c2
  have m0 := m.c0
  have m1 := m.c1
  have cc0 := cc.c0
  have cc1 := cc.c1
  have cc2 := cc.c2
  have cc3 := cc.c3
  have dn0 := dn.c0
  have dn1 := dn.c1
  have dn2 := dn.c2
  have dn3 := dn.c3
  go_wp2_with fail
  refine (W1.out _).mono ?_
  rintro e w22 ⟨rfl, g⟩
  clear six0 six1 six2 m0 m1 cc0 cc1 cc2 cc3 dn0 dn1 dn2 dn3
  replace six := six.kept g
  replace m := m.kept g
  replace cc := cc.kept g
  replace dn := dn.kept g
  replace gg := gg.trans g
  clear g
  have six0 := six.c0
  have six1 := six.c1
  have six2 := six.c2
  have m0 := m.c0
  have m1 := m.c1
  have cc0 := cc.c0
  have cc1 := cc.c1
  have cc2 := cc.c2
  have cc3 := cc.c3
  have dn0 := dn.c0
  have dn1 := dn.c1
  have dn2 := dn.c2
  have dn3 := dn.c3
  go_wp2_with fail
  refine (W2.out _).mono ?_
  rintro e w23 ⟨rfl, g⟩
  clear six0 six1 six2 m0 m1 cc0 cc1 cc2 cc3 dn0 dn1 dn2 dn3
  replace six := six.kept g
  replace m := m.kept g
  replace cc := cc.kept g
  replace dn := dn.kept g
  replace gg := gg.trans g
  clear g
  have six0 := six.c0
  have six1 := six.c1
  have six2 := six.c2
  have m0 := m.c0
  have m1 := m.c1
  have cc0 := cc.c0
  have cc1 := cc.c1
  have cc2 := cc.c2
  have cc3 := cc.c3
  have dn0 := dn.c0
  have dn1 := dn.c1
  have dn2 := dn.c2
  have dn3 := dn.c3
  go_upto_region 9 with fail
  go_upto_region 10 with fail
  obtain ⟨we, ea, hf, g⟩ := c4_of w23 1 0 20 3
  rw [← ea]
  clear ea
  clear six0 six1 six2 m0 m1 cc0 cc1 cc2 cc3 dn0 dn1 dn2 dn3
  replace six := six.kept g
  replace m := m.kept g
  replace cc := cc.kept g
  replace dn := dn.kept g
  replace gg := gg.trans g
  clear g
  have six0 := six.c0
  have six1 := six.c1
  have six2 := six.c2
  have m0 := m.c0
  have m1 := m.c1
  have cc0 := cc.c0
  have cc1 := cc.c1
  have cc2 := cc.c2
  have cc3 := cc.c3
  have dn0 := dn.c0
  have dn1 := dn.c1
  have dn2 := dn.c2
  have dn3 := dn.c3
  have hf0 := hf.c0
  have hf1 := hf.c1
  have hf2 := hf.c2
  have hf3 := hf.c3
  go_upto_region 11 with fail
  obtain ⟨wf, ea, ev, g⟩ := c4_of we 1 0 20 4
  rw [← ea]
  clear ea
  clear six0 six1 six2 m0 m1 cc0 cc1 cc2 cc3 dn0 dn1 dn2 dn3 hf0 hf1 hf2 hf3
  replace six := six.kept g
  replace m := m.kept g
  replace cc := cc.kept g
  replace dn := dn.kept g
  replace hf := hf.kept g
  replace gg := gg.trans g
  clear g
  have six0 := six.c0
  have six1 := six.c1
  have six2 := six.c2
  have m0 := m.c0
  have m1 := m.c1
  have cc0 := cc.c0
  have cc1 := cc.c1
  have cc2 := cc.c2
  have cc3 := cc.c3
  have dn0 := dn.c0
  have dn1 := dn.c1
  have dn2 := dn.c2
  have dn3 := dn.c3
  have hf0 := hf.c0
  have hf1 := hf.c1
  have hf2 := hf.c2
  have hf3 := hf.c3
  have ev0 := ev.c0
  have ev1 := ev.c1
  have ev2 := ev.c2
  have ev3 := ev.c3
  go_upto_region 12 with fail
  obtain ⟨wg, ea, tn, g⟩ := s3_of wf 0 10 5
  rw [← ea]
  clear ea
  clear six0 six1 six2 m0 m1 cc0 cc1 cc2 cc3 dn0 dn1 dn2 dn3 hf0 hf1 hf2 hf3 ev0 ev1 ev2 ev3
  replace six := six.kept g
  replace m := m.kept g
  replace cc := cc.kept g
  replace dn := dn.kept g
  replace hf := hf.kept g
  replace ev := ev.kept g
  replace gg := gg.trans g
  clear g
  have six0 := six.c0
  have six1 := six.c1
  have six2 := six.c2
  have m0 := m.c0
  have m1 := m.c1
  have cc0 := cc.c0
  have cc1 := cc.c1
  have cc2 := cc.c2
  have cc3 := cc.c3
  have dn0 := dn.c0
  have dn1 := dn.c1
  have dn2 := dn.c2
  have dn3 := dn.c3
  have hf0 := hf.c0
  have hf1 := hf.c1
  have hf2 := hf.c2
  have hf3 := hf.c3
  have ev0 := ev.c0
  have ev1 := ev.c1
  have ev2 := ev.c2
  have ev3 := ev.c3
  have tn0 := tn.c0
  have tn1 := tn.c1
  have tn2 := tn.c2
  go_wp2_with fail
  refine (W3.out _).mono ?_
  rintro e w41 ⟨rfl, g⟩
  clear six0 six1 six2 m0 m1 cc0 cc1 cc2 cc3 dn0 dn1 dn2 dn3 hf0 hf1 hf2 hf3 ev0 ev1 ev2 ev3 tn0 tn1 tn2
  replace six := six.kept g
  replace m := m.kept g
  replace cc := cc.kept g
  replace dn := dn.kept g
  replace hf := hf.kept g
  replace ev := ev.kept g
  replace tn := tn.kept g
  replace gg := gg.trans g
  clear g
  have six0 := six.c0
  have six1 := six.c1
  have six2 := six.c2
  have m0 := m.c0
  have m1 := m.c1
  have cc0 := cc.c0
  have cc1 := cc.c1
  have cc2 := cc.c2
  have cc3 := cc.c3
  have dn0 := dn.c0
  have dn1 := dn.c1
  have dn2 := dn.c2
  have dn3 := dn.c3
  have hf0 := hf.c0
  have hf1 := hf.c1
  have hf2 := hf.c2
  have hf3 := hf.c3
  have ev0 := ev.c0
  have ev1 := ev.c1
  have ev2 := ev.c2
  have ev3 := ev.c3
  have tn0 := tn.c0
  have tn1 := tn.c1
  have tn2 := tn.c2
  go_wp2_with fail
  refine (W4.out _).mono ?_
  rintro e w42 ⟨rfl, g⟩
  clear six0 six1 six2 m0 m1 cc0 cc1 cc2 cc3 dn0 dn1 dn2 dn3 hf0 hf1 hf2 hf3 ev0 ev1 ev2 ev3 tn0 tn1 tn2
  replace six := six.kept g
  replace m := m.kept g
  replace cc := cc.kept g
  replace dn := dn.kept g
  replace hf := hf.kept g
  replace ev := ev.kept g
  replace tn := tn.kept g
  replace gg := gg.trans g
  clear g
  have six0 := six.c0
  have six1 := six.c1
  have six2 := six.c2
  have m0 := m.c0
  have m1 := m.c1
  have cc0 := cc.c0
  have cc1 := cc.c1
  have cc2 := cc.c2
  have cc3 := cc.c3
  have dn0 := dn.c0
  have dn1 := dn.c1
  have dn2 := dn.c2
  have dn3 := dn.c3
  have hf0 := hf.c0
  have hf1 := hf.c1
  have hf2 := hf.c2
  have hf3 := hf.c3
  have ev0 := ev.c0
  have ev1 := ev.c1
  have ev2 := ev.c2
  have ev3 := ev.c3
  have tn0 := tn.c0
  have tn1 := tn.c1
  have tn2 := tn.c2
  go_wp2_with fail
  refine (E0.out _).mono ?_
  rintro e w43 ⟨rfl, g⟩
  clear six0 six1 six2 m0 m1 cc0 cc1 cc2 cc3 dn0 dn1 dn2 dn3 hf0 hf1 hf2 hf3 ev0 ev1 ev2 ev3 tn0 tn1 tn2
  replace six := six.kept g
  replace m := m.kept g
  replace cc := cc.kept g
  replace dn := dn.kept g
  replace hf := hf.kept g
  replace ev := ev.kept g
  replace tn := tn.kept g
  replace gg := gg.trans g
  clear g
  have six0 := six.c0
  have six1 := six.c1
  have six2 := six.c2
  have m0 := m.c0
  have m1 := m.c1
  have cc0 := cc.c0
  have cc1 := cc.c1
  have cc2 := cc.c2
  have cc3 := cc.c3
  have dn0 := dn.c0
  have dn1 := dn.c1
  have dn2 := dn.c2
  have dn3 := dn.c3
  have hf0 := hf.c0
  have hf1 := hf.c1
  have hf2 := hf.c2
  have hf3 := hf.c3
  have ev0 := ev.c0
  have ev1 := ev.c1
  have ev2 := ev.c2
  have ev3 := ev.c3
  have tn0 := tn.c0
  have tn1 := tn.c1
  have tn2 := tn.c2
  go_wp2_with fail
  refine (E1.out _).mono ?_
  rintro e w44 ⟨rfl, g⟩
  clear six0 six1 six2 m0 m1 cc0 cc1 cc2 cc3 dn0 dn1 dn2 dn3 hf0 hf1 hf2 hf3 ev0 ev1 ev2 ev3 tn0 tn1 tn2
  replace six := six.kept g
  replace m := m.kept g
  replace cc := cc.kept g
  replace dn := dn.kept g
  replace hf := hf.kept g
  replace ev := ev.kept g
  replace tn := tn.kept g
  replace gg := gg.trans g
  clear g
  have six0 := six.c0
  have six1 := six.c1
  have six2 := six.c2
  have m0 := m.c0
  have m1 := m.c1
  have cc0 := cc.c0
  have cc1 := cc.c1
  have cc2 := cc.c2
  have cc3 := cc.c3
  have dn0 := dn.c0
  have dn1 := dn.c1
  have dn2 := dn.c2
  have dn3 := dn.c3
  have hf0 := hf.c0
  have hf1 := hf.c1
  have hf2 := hf.c2
  have hf3 := hf.c3
  have ev0 := ev.c0
  have ev1 := ev.c1
  have ev2 := ev.c2
  have ev3 := ev.c3
  have tn0 := tn.c0
  have tn1 := tn.c1
  have tn2 := tn.c2
  go_wp2_with fail
  go_ret
  exact ⟨rfl, gg⟩
end Go.Proofs.Ytcilclbolmijfaa
