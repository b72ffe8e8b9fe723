/-
  The law ScaleGrows.
-/
import Derived.Test.YtcilclbolmijfaaMade
import Derived.Test.YtcilclbolmijfaaGM
namespace Go.Proofs.Ytcilclbolmijfaa
open Go.RowKit
def Q4 (w : World) (B : Nat) (a b c d : Int) : Prop := w.heap[B]? = some (.cells #[.int .i64 a, .int .i64 b, .int .i64 c, .int .i64 d] 58 (0, 0))
theorem Q4.c0 {w : World} {B : Nat} {a b c d : Int} (h : Q4 w B a b c d) : w.cell? ⟨B, 0, none⟩ = some (.int .i64 a) := by unfold Q4 at h; simp [World.cell?, h]
theorem Q4.c1 {w : World} {B : Nat} {a b c d : Int} (h : Q4 w B a b c d) : w.cell? ⟨B, 1, none⟩ = some (.int .i64 b) := by unfold Q4 at h; simp [World.cell?, h]
theorem Q4.c2 {w : World} {B : Nat} {a b c d : Int} (h : Q4 w B a b c d) : w.cell? ⟨B, 2, none⟩ = some (.int .i64 c) := by unfold Q4 at h; simp [World.cell?, h]
theorem Q4.c3 {w : World} {B : Nat} {a b c d : Int} (h : Q4 w B a b c d) : w.cell? ⟨B, 3, none⟩ = some (.int .i64 d) := by unfold Q4 at h; simp [World.cell?, h]
theorem Q4.lt {w : World} {B : Nat} {a b c d : Int} (h : Q4 w B a b c d) : B < w.heap.size := by
  rcases Nat.lt_or_ge B w.heap.size with hlt | hge
  · exact hlt
  · unfold Q4 at h; rw [Array.getElem?_eq_none hge] at h; cases h
theorem Q4.kept {w w' : World} {B : Nat} {a b c d : Int} (h : Q4 w B a b c d) (hg : w.grownBy w' none) : Q4 w' B a b c d := (hg.block B h.lt (by simp)).trans h
theorem Q4.far {w : World} {b o i : Nat} {v : Value} {x y z u : Int} (h : Q4 w b x y z u) (hne : b ≠ o) : Q4 (w.setCell ⟨o, i, none⟩ v) b x y z u :=
  ((grown_setCell w o i v).block b h.lt (by simpa using hne)).trans h
theorem Q4.new (w : World) (a b c d : Int) : Q4 (w.alloc (.cells #[.int .i64 a, .int .i64 b, .int .i64 c, .int .i64 d] 58)) w.heap.size a b c d := World.alloc_heap_new w _
theorem C4.setA {w : World} {B : Nat} {n a d r : Int} (h : C4 w B n a d r) (x y z u : Int) : C4 ((((w.setCell ⟨B, 0, none⟩ (.int .i64 x)).setCell ⟨B, 1, none⟩ (.int .i64 y)).setCell ⟨B, 2, none⟩ (.int .i64 z)).setCell ⟨B, 3, none⟩ (.int .i64 u)) B x y z u := by
  unfold C4 at h ⊢
  simp [World.setCell, Array.getElem?_modify, h]
theorem C4.fz {w : World} {B : Nat} {n a d r : Int} (h : C4 w B n a d r) (k : Nat) : w.frozen? ⟨B, k, none⟩ = false := by unfold C4 at h; simp [World.frozen?, h]
theorem boxg (w : World) (u a d r q0 q1 q2 q3 : Int) : ∃ w1, w1 = (w.alloc (.cells #[.int .i64 u, .int .i64 a, .int .i64 d, .int .i64 r] 26)).alloc (.cells #[.int .i64 q0, .int .i64 q1, .int .i64 q2, .int .i64 q3] 58) ∧ C4 w1 w.heap.size u a d r ∧ Q4 w1 (w.heap.size + 1) q0 q1 q2 q3 ∧ w.grownBy w1 none :=
  ⟨_, rfl, (C4.new w u a d r).kept (World.grownBy_alloc _ _ none), (by
    have h := Q4.new (w.alloc (.cells #[.int .i64 u, .int .i64 a, .int .i64 d, .int .i64 r] 26)) q0 q1 q2 q3
    rw [show (w.alloc (.cells #[.int .i64 u, .int .i64 a, .int .i64 d, .int .i64 r] 26)).heap.size = w.heap.size + 1 by simp] at h
    exact h), grown_al (World.grownBy_alloc _ _ none)⟩
theorem lists_of (w : World) (xs ys : List Int) (h : (∀ z ∈ xs, i64 z) ∧ ∀ z ∈ ys, i64 z) : ∃ w2, w2 = (w.alloc (.cells (xs.map (Value.int .i64)).toArray 3)).alloc (.cells (ys.map (Value.int .i64)).toArray 3) ∧ Nums w2 (some ⟨w.heap.size, 0, none⟩) xs ∧ Nums w2 (some ⟨w.heap.size + 1, 0, none⟩) ys ∧ w.grownBy w2 none := by
  have n1 := Nums.new w xs 3 h.1
  have n2 := Nums.new (w.alloc (.cells (xs.map (Value.int .i64)).toArray 3)) ys 3 h.2
  rw [show (w.alloc (.cells (xs.map (Value.int .i64)).toArray 3)).heap.size = w.heap.size + 1 by simp] at n2
  exact ⟨_, rfl, n1.kept (World.grownBy_alloc _ _ none), n2, grown_al (World.grownBy_alloc _ _ none)⟩
def mkC (d : Int) : Int := 1 + d.tmod 60 % 60
theorem mkC_le (n : Int) : 1 ≤ mkC n ∧ mkC n ≤ 60 := by unfold mkC; omega
set_option maxRecDepth 100000 in
set_option maxHeartbeats 8000000 in
theorem grows_walk (A : Option Addr) (n c : Nat) (l : List Int) (u0 a0 d0 r0 q0 q1 q2 q3 : Int) (w : World) (hn : n = l.length) (hm : n ≤ maxLen) (hN : Nums w A l) :
    Calls Try.prog 8 #[.slice A n c, .agg #[.int .i64 u0, .int .i64 a0, .int .i64 d0, .int .i64 r0], .agg #[.int .i64 q0, .int .i64 q1, .int .i64 q2, .int .i64 q3]] w fun e w' => e = .returned (.bool true) ∧ w.grownBy w' none := by
  obtain ⟨w0, e0, HC, HQ, gg⟩ := boxg w u0 a0 d0 r0 q0 q1 q2 q3
  have KS := Lib.hid (sane_k w0)
  have KM := Lib.hid (fun W (g : w.grownBy W none) => made_k A n c l W hn hm (hN.kept g))
  have KC := Lib.hid (conv_k u0 a0 d0 r0)
  have HV := Lib.hid (mk_cv u0 a0 d0 r0)
  have HD := Lib.hid (mkD_le d0)
  generalize mk1 u0 = u at *
  generalize mk1 a0 = ad at *
  generalize mkD d0 = d at *
  generalize mkR r0 = r at *
  have H0 := Lib.hid e0
  clear hn hm hN e0
  go_enter Try.func8, Try.ntmps8
  go_wp2_with fail
  rw [← H0.out]
  refine KS.out.mono ?_
  rintro e w1 ⟨rfl, g1⟩
  go_wp2_with fail
  refine (KM.out _ (gg.trans g1)).mono ?_
  rintro e w2 ⟨a, b, p, hc, rfl, g2⟩
  replace gg := (gg.trans g1).trans g2
  replace HQ := (HQ.kept g1).kept g2
  replace HC := (HC.kept g1).kept g2
  clear g1 g2 KS KM H0
  have hlt1 : w.heap.size < w2.heap.size := HC.lt
  have hlt2 : w.heap.size + 1 < w2.heap.size := HQ.lt
  go_upto_region 3 with fail
  obtain ⟨W, eW, HS, g⟩ := s3_of w2 a b p
  rw [← eW]
  clear eW
  replace gg := gg.trans g
  replace HQ := HQ.kept g
  replace HC := HC.kept g
  clear g
  have HK := Lib.hid hc
  clear hc
  have c0 := HC.c0
  have c1 := HC.c1
  have c2 := HC.c2
  have c3 := HC.c3
  go_wp2_with fail
  refine (KC.out _).mono ?_
  rintro e w3 ⟨rfl, g⟩
  replace gg := gg.trans g
  replace HQ := HQ.kept g
  replace HC := HC.kept g
  replace HS := HS.kept g
  clear g KC c0 c1 c2 c3
  have c0 := HC.c0
  have c1 := HC.c1
  have c2 := HC.c2
  have c3 := HC.c3
  have c4 := HC.fz 0
  have c5 := HC.fz 1
  have c6 := HC.fz 2
  have c7 := HC.fz 3
  have c8 := HC.lt
  have ne1 : w2.heap.size ≠ w.heap.size := Nat.ne_of_gt hlt1
  go_upto_region 4 with fail
  obtain ⟨wx, ex⟩ : ∃ wx, wx = (((w3.setCell ⟨w.heap.size, 0, none⟩ (.int .i64 u)).setCell ⟨w.heap.size, 1, none⟩ (.int .i64 ad)).setCell ⟨w.heap.size, 2, none⟩ (.int .i64 d)).setCell ⟨w.heap.size, 3, none⟩ (.int .i64 r) := ⟨_, rfl⟩
  rw [← ex]
  have ne2 : w.heap.size + 1 ≠ w.heap.size := by omega
  replace HC : C4 wx w.heap.size u ad d r := by rw [ex]; exact HC.setA u ad d r
  replace HS : S3 wx w2.heap.size a b p := by rw [ex]; exact (((HS.far ne1).far ne1).far ne1).far ne1
  replace HQ : Q4 wx (w.heap.size + 1) q0 q1 q2 q3 := by rw [ex]; exact (((HQ.far ne2).far ne2).far ne2).far ne2
  replace gg : w.grownBy wx none := by rw [ex]; exact grown_set (grown_set (grown_set (grown_set gg (.inl (Nat.le_refl _))) (.inl (Nat.le_refl _))) (.inl (Nat.le_refl _))) (.inl (Nat.le_refl _))
  clear ex c0 c1 c2 c3 c4 c5 c6 c7 c8 ne2
  generalize w2.heap.size = sb at *
  have k0 := HQ.c0
  have k1 := HQ.c1
  have k2 := HQ.c2
  have k3 := HQ.c3
  obtain ⟨t1, t2⟩ := tm_le q0 (k := 1001) (by decide)
  obtain ⟨t3, t4⟩ := tm_le q1 (k := 1001) (by decide)
  obtain ⟨t5, t6⟩ := tm_le q2 (k := 60) (by decide)
  obtain ⟨t7, t8⟩ := tm_le q3 (k := 60) (by decide)
  have t9 : 0 ≤ q2.tmod 60 + 60 := by omega
  have t10 : 0 ≤ q3.tmod 60 + 60 := by omega
  go_wp2_with fail
  go_quiet (fail)
  go_wp2_with fail
  go_quiet (fail)
  clear k0 k1 k2 k3
  have X := mkC_le q2
  have Y := mkC_le q3
  unfold mkC at X Y
  generalize 1 + q2.tmod 60 % 60 = x at *
  generalize 1 + q3.tmod 60 % 60 = y at *
  generalize q0.tmod 1001 = g at *
  generalize q1.tmod 1001 = h at *
  clear t5 t6 t7 t8 t9 t10 HQ
  go_upto_if 46 with fail
  go_cut [9, 10] (fun p q wy => ∃ g h : Int, p = .int .i64 g ∧ q = .int .i64 h ∧ g ≤ h ∧ -1000 ≤ g ∧ h ≤ 1000 ∧ wx.grownBy wy none)
  case first =>
    by_cases hgh : g ≤ h
    · go_wp2_with fail
      go_meet
      exact ⟨g, h, rfl, rfl, hgh, by omega, by omega, by first | exact grown_refl _ | exact grown_dn (grown_refl _) | exact grown_dn (grown_dn (grown_refl _))⟩
    · go_wp2_with fail
      go_meet
      exact ⟨h, g, rfl, rfl, by omega, by omega, by omega, by first | exact grown_refl _ | exact grown_dn (grown_refl _) | exact grown_dn (grown_dn (grown_refl _))⟩
  clear t1 t2 t3 t4
  obtain ⟨g, h, rfl, rfl, hgh, gh1, gh2, gz⟩ := hcut
  replace HC := HC.kept gz
  replace HS := HS.kept gz
  replace gg := gg.trans gz
  clear gz
  have V1 := co_rep HV.out HK.out g [x] (by omega) (by simpa using X) (by simp) (by simp)
  have V2 := co_rep HV.out HK.out h [y] (by omega) (by simpa using Y) (by simp) (by simp)
  have V3 := co_rep HV.out HK.out g [x, y, x] (by omega) (by intro z hz; simp at hz; omega) (by simp) (by simp)
  have V4 := mean_rep g [x, y] (by omega) (by intro z hz; simp at hz; omega) (by simp) (by simp)
  have MU := Lib.hid (fun h0 => vv_up (u := u) (ad := ad) (d := d) (r := r) (a := a) (b := b) (g := g) (h := h) (by have := HD.out; omega) h0 hgh)
  have MD := Lib.hid (fun h0 => vv_dn (u := u) (ad := ad) (d := d) (r := r) (a := a) (b := b) (g := g) (h := h) (by have := HD.out; omega) h0 hgh)
  have MR := Lib.hid (place_rg HK.out (roV (g * u + ad) d r))
  generalize hm1 : vvV u ad d r a b g = m at *
  generalize hm2 : vvV u ad d r a b h = n at *
  replace V1 : coV u ad d r a b p [g] [x] = m ∧ coE u ad d r a b p [g] [x] = 0 := V1
  replace V2 : coV u ad d r a b p [h] [y] = n ∧ coE u ad d r a b p [h] [y] = 0 := V2
  replace V3 : coV u ad d r a b p [g, g, g] [x, y, x] = m ∧ coE u ad d r a b p [g, g, g] [x, y, x] = 0 := V3
  replace V4 : mE [g, g] [x, y] = 0 ∧ mN [g, g] [x, y] = g ∧ mD [g, g] [x, y] = 1 := V4
  replace V4 := And.intro V4.2.1 (And.intro V4.2.2 V4.1)
  obtain ⟨x1, x2⟩ := X
  obtain ⟨y1, y2⟩ := Y
  have MR2 : Hid (rgB a b p m = true) := Lib.hid (by rw [← hm1]; exact MR.out)
  clear hm1 hm2 MR
  obtain ⟨wlw4, el, n1, n2, gl⟩ := lists_of wc [g] [x] (by constructor <;> (intro z hz; simp at hz; unfold i64; omega))
  have K := convert_k u ad d r a b p [g] [x] _ _ 1 1 1 1 wlw4 rfl rfl (by unfold maxLen; decide) (by unfold maxLen; decide) n1 n2
  rw [V1.1, V1.2] at K
  replace K := Lib.hid K
  have HL : Hid (wlw4 = (wc.alloc (.cells #[.int .i64 g] 3)).alloc (.cells #[.int .i64 x] 3)) := Lib.hid el
  clear el n1 n2
  have c0 := HC.c0
  have c1 := HC.c1
  have c2 := HC.c2
  have c3 := HC.c3
  have s0 := HS.c0
  have s1 := HS.c1
  have s2 := HS.c2
  go_wp2_with fail
  rw [← HL.out]
  refine K.out.mono ?_
  rintro e w4 ⟨rfl, gk⟩
  replace HC := (HC.kept gl).kept gk
  replace HS := (HS.kept gl).kept gk
  replace gg := (gg.trans gl).trans gk
  clear gl gk K HL c0 c1 c2 c3 s0 s1 s2
  obtain ⟨wlw5, el, n1, n2, gl⟩ := lists_of w4 [h] [y] (by constructor <;> (intro z hz; simp at hz; unfold i64; omega))
  have K := convert_k u ad d r a b p [h] [y] _ _ 1 1 1 1 wlw5 rfl rfl (by unfold maxLen; decide) (by unfold maxLen; decide) n1 n2
  rw [V2.1, V2.2] at K
  replace K := Lib.hid K
  have HL : Hid (wlw5 = (w4.alloc (.cells #[.int .i64 h] 3)).alloc (.cells #[.int .i64 y] 3)) := Lib.hid el
  clear el n1 n2
  have c0 := HC.c0
  have c1 := HC.c1
  have c2 := HC.c2
  have c3 := HC.c3
  have s0 := HS.c0
  have s1 := HS.c1
  have s2 := HS.c2
  go_wp2_with fail
  rw [← HL.out]
  refine K.out.mono ?_
  rintro e w5 ⟨rfl, gk⟩
  replace HC := (HC.kept gl).kept gk
  replace HS := (HS.kept gl).kept gk
  replace gg := (gg.trans gl).trans gk
  clear gl gk K HL c0 c1 c2 c3 s0 s1 s2
  obtain ⟨wlw6, el, n1, n2, gl⟩ := lists_of w5 [g, g, g] [x, y, x] (by constructor <;> (intro z hz; simp at hz; unfold i64; omega))
  have K := convert_k u ad d r a b p [g, g, g] [x, y, x] _ _ 3 3 3 3 wlw6 rfl rfl (by unfold maxLen; decide) (by unfold maxLen; decide) n1 n2
  rw [V3.1, V3.2] at K
  replace K := Lib.hid K
  have HL : Hid (wlw6 = (w5.alloc (.cells #[.int .i64 g, .int .i64 g, .int .i64 g] 3)).alloc (.cells #[.int .i64 x, .int .i64 y, .int .i64 x] 3)) := Lib.hid el
  clear el n1 n2
  have c0 := HC.c0
  have c1 := HC.c1
  have c2 := HC.c2
  have c3 := HC.c3
  have s0 := HS.c0
  have s1 := HS.c1
  have s2 := HS.c2
  go_wp2_with fail
  rw [← HL.out]
  refine K.out.mono ?_
  rintro e w6 ⟨rfl, gk⟩
  replace HC := (HC.kept gl).kept gk
  replace HS := (HS.kept gl).kept gk
  replace gg := (gg.trans gl).trans gk
  clear gl gk K HL c0 c1 c2 c3 s0 s1 s2
  obtain ⟨wlw7, el, n1, n2, gl⟩ := lists_of w6 [g, g] [x, y] (by constructor <;> (intro z hz; simp at hz; unfold i64; omega))
  have K := mean_k [g, g] [x, y] _ _ 2 2 2 2 wlw7 rfl rfl (by unfold maxLen; decide) (by unfold maxLen; decide) n1 n2
  rw [V4.1, V4.2.1, V4.2.2] at K
  replace K := Lib.hid K
  have HL : Hid (wlw7 = (w6.alloc (.cells #[.int .i64 g, .int .i64 g] 3)).alloc (.cells #[.int .i64 x, .int .i64 y] 3)) := Lib.hid el
  clear el n1 n2
  have c0 := HC.c0
  have c1 := HC.c1
  have c2 := HC.c2
  have c3 := HC.c3
  have s0 := HS.c0
  have s1 := HS.c1
  have s2 := HS.c2
  go_wp2_with fail
  rw [← HL.out]
  refine K.out.mono ?_
  rintro e w7 ⟨rfl, gk⟩
  replace HC := (HC.kept gl).kept gk
  replace HS := (HS.kept gl).kept gk
  replace gg := (gg.trans gl).trans gk
  clear gl gk K HL c0 c1 c2 c3 s0 s1 s2
  clear V1 V2 V3 V4
  go_upto_region 12 with fail
  obtain ⟨wm, em⟩ : ∃ wm, wm = w7.alloc (.cells #[.int .i64 g, .int .i64 1] 46) := ⟨_, rfl⟩
  have gm : w7.grownBy wm none := by rw [em]; exact World.grownBy_alloc _ _ none
  have M : R2 wm w7.heap.size g 1 := by rw [em]; exact R2.new _ _ _
  rw [← em]
  clear em
  replace HC := HC.kept gm
  replace HS := HS.kept gm
  replace gg := gg.trans gm
  clear gm
  have KR := Lib.hid (right_k a b p m)
  rw [MR2.out] at KR
  have s0 := HS.c0
  have s1 := HS.c1
  have s2 := HS.c2
  have m0 := M.c0
  have m1 := M.c1
  clear MR2
  go_wp2_with fail
  refine (KR.out _).mono ?_
  rintro e w8 ⟨rfl, gk⟩
  replace HC := HC.kept gk
  replace gg := gg.trans gk
  clear gk s0 s1 s2 m0 m1 KR
  have c0 := HC.c0
  rcases Int.lt_trichotomy u 0 with hu | hu | hu
  · have hmn := MD.out (by omega)
    clear MU MD
    go_wp2_with fail
    go_ret
    exact ⟨rfl, gg⟩
  · have hmn := MD.out (by omega)
    have hnm := MU.out (by omega)
    subst hu
    clear MU MD
    go_wp2_with fail
    go_ret
    exact ⟨rfl, gg⟩
  · have hmn := MU.out (by omega)
    clear MU MD
    go_wp2_with fail
    go_ret
    exact ⟨rfl, gg⟩
end Go.Proofs.Ytcilclbolmijfaa
