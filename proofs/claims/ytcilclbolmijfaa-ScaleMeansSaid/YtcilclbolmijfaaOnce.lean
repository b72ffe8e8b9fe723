/-
  The law ScaleOnce.
-/
import Derived.Test.YtcilclbolmijfaaAppI
import Derived.Test.YtcilclbolmijfaaOnceM
import Derived.Test.YtcilclbolmijfaaGrow
namespace Go.Proofs.Ytcilclbolmijfaa
open Go.RowKit
def fGC (x : Int × Int) : Int × Int := (mk1 x.1, mkC x.2)
def GL (l : List Int) (k : Nat) : List Int := (l.take k).map mk1
def CL (l : List Int) (k : Nat) : List Int := (l.take k).map mkC
theorem zip_tk : ∀ (k : Nat) (gl cl : List Int), (GL gl k).zip (CL cl k) = ((gl.zip cl).map fGC).take k
  | 0, _, _ => by simp [GL, CL]
  | _ + 1, [], _ => by simp [GL, CL]
  | _ + 1, _ :: _, [] => by simp [GL, CL]
  | k + 1, g :: gl, c :: cl => by
    have := zip_tk k gl cl
    unfold GL CL at *
    simp only [List.take_succ_cons, List.map_cons, List.zip_cons_cons, this]
    rfl
theorem GL_next {l : List Int} {k : Nat} {g : Int} (h : l[k]? = some g) : GL l (k + 1) = GL l k ++ [mk1 g] := by unfold GL; rw [take_one l k g h, List.map_append]; rfl
theorem CL_next {l : List Int} {k : Nat} {g : Int} (h : l[k]? = some g) : CL l (k + 1) = CL l k ++ [mkC g] := by unfold CL; rw [take_one l k g h, List.map_append]; rfl
theorem GL_len {l : List Int} {k : Nat} (h : k ≤ l.length) : (GL l k).length = k := by unfold GL; rw [List.length_map, List.length_take]; omega
theorem CL_len {l : List Int} {k : Nat} (h : k ≤ l.length) : (CL l k).length = k := by unfold CL; rw [List.length_map, List.length_take]; omega
theorem good_f (x : Int × Int) : badB (fGC x).1 (fGC x).2 = false := by
  have h1 := mk1_le x.1
  have h2 := mkC_le x.2
  unfold badB gB wiB fGC
  simp
  omega
theorem bads_f (zs : List (Int × Int)) : bads (zs.map fGC) = false := by
  rw [Bool.eq_false_iff]
  intro h
  unfold bads at h
  rw [List.any_eq_true] at h
  obtain ⟨y, hy, hb⟩ := h
  obtain ⟨x, _, rfl⟩ := List.mem_map.1 hy
  rw [good_f] at hb
  cases hb
theorem bads_tk (zs : List (Int × Int)) (k : Nat) : bads ((zs.map fGC).take k) = false := by
  rw [Bool.eq_false_iff]; intro h; have := bads_full h; rw [bads_f] at this; cases this
theorem GL_i64 (l : List Int) (k : Nat) : ∀ z ∈ GL l k, i64 z := fun z hz => by
  obtain ⟨x, _, rfl⟩ := List.mem_map.1 hz
  have := mk1_le x
  unfold i64; omega
theorem CL_i64 (l : List Int) (k : Nat) : ∀ z ∈ CL l k, i64 z := fun z hz => by
  obtain ⟨x, _, rfl⟩ := List.mem_map.1 hz
  have := mkC_le x
  unfold i64; omega
theorem sums_GL {gl cl : List Int} {k : Nat} (h1 : k ≤ gl.length) (_ : k ≤ cl.length) : mP (GL gl k) (CL cl k) = ptsT ((gl.zip cl).map fGC) k ∧ mW (GL gl k) (CL cl k) = wtsT ((gl.zip cl).map fGC) k := by
  unfold mP mW ptsT wtsT
  rw [zip_tk, GL_len h1, List.take_take, Nat.min_self]
  exact ⟨rfl, rfl⟩
theorem mC_GL {gl cl : List Int} {k : Nat} (h1 : k ≤ gl.length) (h2 : k ≤ cl.length) (h : k ≤ 12) : mC (GL gl k) (CL cl k) = if k = 0 then 1 else 0 := by
  unfold mC
  rw [GL_len h1, CL_len h2, zip_tk, bads_tk]
  by_cases h0 : k = 0
  · rw [if_pos (.inr h0), if_pos h0]
  · rw [if_neg (by omega), if_neg (by omega), if_neg h0]; rfl
theorem co_none {u ad d r a b p : Int} {gs cs : List Int} (hv : cvB u ad d r = true) (hc : chkB a b p = true) (h : mC gs cs = 1) : coV u ad d r a b p gs cs = 0 ∧ coE u ad d r a b p gs cs = 1 := by
  obtain ⟨e1, _, _⟩ := mE_no (gs := gs) (cs := cs) (by omega)
  unfold coV coE
  rw [hv, hc, e1, h]
  exact ⟨rfl, rfl⟩
theorem co_some {u ad d r a b p : Int} {gs cs : List Int} (hv : cvB u ad d r = true) (hc : chkB a b p = true) (h : mC gs cs = 0) : coV u ad d r a b p gs cs = placeV a b (roV (mN gs cs * u + ad * mD gs cs) (mD gs cs * d) r) ∧ coE u ad d r a b p gs cs = 0 := by
  obtain ⟨e1, _⟩ := mE_zero h
  unfold coV coE
  rw [hv, hc, e1]
  exact ⟨rfl, rfl⟩
theorem prod_q {a b : Int} (h1 : -720 ≤ a) (h2 : a ≤ 720) (h3 : -1000 ≤ b) (h4 : b ≤ 1000) : -720000 ≤ a * b ∧ a * b ≤ 720000 := by
  have h : (a * b).natAbs ≤ 720 * 1000 := by
    rw [Int.natAbs_mul]; exact Nat.mul_le_mul (by omega) (by omega)
  omega
theorem prod_m {a b : Int} (h1 : -720000 ≤ a) (h2 : a ≤ 720000) (h3 : -1000 ≤ b) (h4 : b ≤ 1000) : -720000000 ≤ a * b ∧ a * b ≤ 720000000 := by
  have h : (a * b).natAbs ≤ 720000 * 1000 := by
    rw [Int.natAbs_mul]; exact Nat.mul_le_mul (by omega) (by omega)
  omega
set_option maxRecDepth 100000 in
set_option maxHeartbeats 8000000 in
theorem once_walk (u0 a0 d0 r0 : Int) (A A' : Option Addr) (n n' c c' : Nat) (gl cl : List Int) (w : World) (hn : n = gl.length) (hn' : n' = cl.length) (hm : n ≤ maxLen) (hm' : n' ≤ maxLen) (hN : Nums w A gl) (hN' : Nums w A' cl) :
    Calls Try.prog 7 #[.agg #[.int .i64 u0, .int .i64 a0, .int .i64 d0, .int .i64 r0], .slice A n c, .slice A' n' c'] w fun e w' => e = .returned (.bool true) ∧ w.grownBy w' none := by
  unfold maxLen at hm hm'
  obtain ⟨w0, e0, HC, gg⟩ := c4_of w u0 a0 d0 r0
  have KS := Lib.hid (sane_k w0)
  have KC := Lib.hid (conv_k u0 a0 d0 r0)
  have HV := Lib.hid (mk_cv u0 a0 d0 r0)
  generalize mk1 u0 = u at *
  generalize mk1 a0 = ad at *
  generalize mkD d0 = d at *
  generalize mkR r0 = r at *
  have H0 := Lib.hid e0
  have hnl : n ≤ gl.length := by omega
  have hnl' : n' ≤ cl.length := by omega
  have HN := Lib.hid (fun W (g : w.grownBy W none) => hN.kept g)
  have HN' := Lib.hid (fun W (g : w.grownBy W none) => hN'.kept g)
  clear hn hn' hN hN' e0
  go_enter Try.func7, Try.ntmps7
  go_wp2_with fail
  rw [← H0.out]
  refine KS.out.mono ?_
  rintro e w1 ⟨rfl, g⟩
  replace gg := gg.trans g
  replace HC := HC.kept g
  clear g KS H0
  have c0 := HC.c0
  have c1 := HC.c1
  have c2 := HC.c2
  have c3 := HC.c3
  go_wp2_with fail
  refine (KC.out _).mono ?_
  rintro e w3 ⟨rfl, g⟩
  replace gg := gg.trans g
  replace HC := HC.kept g
  clear g KC c0 c1 c2 c3
  have c0 := HC.c0
  have c1 := HC.c1
  have c2 := HC.c2
  have c3 := HC.c3
  have c4 := HC.fz 0
  have c5 := HC.fz 1
  have c6 := HC.fz 2
  have c7 := HC.fz 3
  have c8 := HC.lt
  go_upto_region 3 with fail
  obtain ⟨wx, ex⟩ : ∃ wx, wx = (((w3.setCell ⟨w.heap.size, 0, none⟩ (.int .i64 u)).setCell ⟨w.heap.size, 1, none⟩ (.int .i64 ad)).setCell ⟨w.heap.size, 2, none⟩ (.int .i64 d)).setCell ⟨w.heap.size, 3, none⟩ (.int .i64 r) := ⟨_, rfl⟩
  rw [← ex]
  replace HC : C4 wx w.heap.size u ad d r := by rw [ex]; exact HC.setA u ad d r
  replace gg : w.grownBy wx none := by rw [ex]; exact grown_set (grown_set (grown_set (grown_set gg (.inl (Nat.le_refl _))) (.inl (Nat.le_refl _))) (.inl (Nat.le_refl _))) (.inl (Nat.le_refl _))
  clear ex c0 c1 c2 c3 c4 c5 c6 c7 c8
  go_upto_region 4 with fail
  obtain ⟨W, eW, HS, g⟩ := s3_of wx (-1000) 1000 0
  rw [← eW]
  clear eW
  replace gg := gg.trans g
  replace HC := HC.kept g
  clear g
  have FC := Lib.hid (fun V (g : W.grownBy V none) => HC.kept g)
  have FS := Lib.hid (fun V (g : W.grownBy V none) => HS.kept g)
  have FG := Lib.hid gg
  clear HC HS gg
  generalize wx.heap.size = sb at *
  go_upto_block 0 with fail
  go_cut [9, 10, 11, 12] (fun va vb s t wv => ∃ k : Nat, k ≤ 12 ∧ k ≤ n ∧ k ≤ n' ∧ Hid (TwoR W va vb (GL gl k) (CL cl k) wv) ∧ s = .int .i64 (ptsT ((gl.zip cl).map fGC) k) ∧ t = .int .i64 (wtsT ((gl.zip cl).map fGC) k))
  case first =>
    go_wp2_with fail
    go_loopw [9, 10, 11, 12, 13] (fun va vb s t i wr => ∃ k : Nat, k ≤ 12 ∧ k ≤ n ∧ k ≤ n' ∧ i = .int .i64 k ∧ Hid (TwoR W va vb (GL gl k) (CL cl k) wr) ∧ s = .int .i64 (ptsT ((gl.zip cl).map fGC) k) ∧ t = .int .i64 (wtsT ((gl.zip cl).map fGC) k)) (fun _ _ _ _ i _ => 12 - (intOf i).toNat)
    case atStart => exact ⟨0, by omega, by omega, by omega, rfl, Lib.hid (TwoR.nil W), rfl, rfl⟩
    case round =>
      obtain ⟨k, hk, hkn, hkn', rfl, HT, rfl, rfl⟩ := hrel
      by_cases h1 : k < n
      · by_cases h2 : k < n'
        · by_cases h3 : k < 12
          · have gw := HT.out.grown
            obtain ⟨ad1, rfl, _, hc⟩ := (HN.out _ (FG.out.trans gw)).2 (by omega)
            obtain ⟨ad2, rfl, _, hc'⟩ := (HN'.out _ (FG.out.trans gw)).2 (by omega)
            have z1 : gl[k]? = some gl[k] := List.getElem?_eq_getElem (by omega)
            have z2 : cl[k]? = some cl[k] := List.getElem?_eq_getElem (by omega)
            have zz : ((gl.zip cl).map fGC)[k]? = some (mk1 gl[k], mkC cl[k]) := by
              rw [List.getElem?_map]
              have : (gl.zip cl)[k]? = some (gl[k], cl[k]) := by rw [List.getElem?_zip_eq_some]; exact ⟨z1, z2⟩
              rw [this]; rfl
            have hlz : k < ((gl.zip cl).map fGC).length := (List.getElem?_eq_some_iff.1 zz).1
            have q1 := hc k _ z1
            have q2 := hc' k _ z2
            have L0 := sums_le ((gl.zip cl).map fGC) k (by omega) (bads_tk _ _)
            have HP := Lib.hid (pts_next zz)
            have HW := Lib.hid (wts_next zz)
            have HG := Lib.hid (GL_next z1)
            have HL := Lib.hid (CL_next z2)
            clear hc hc' z1 z2 zz hlz gw
            generalize gl[k] = x at *
            generalize cl[k] = y at *
            have X := mk1_le x
            have Y := mkC_le y
            have XY := mul_le60 (g := mk1 x) (c := mkC y) (by omega)
            have HX : Hid (x.tmod 1001 = mk1 x) := Lib.hid rfl
            have HY : Hid (1 + y.tmod 60 % 60 = mkC y) := Lib.hid rfl
            obtain ⟨t5, t6⟩ := tm_le y (k := 60) (by decide)
            have t9 : 0 ≤ y.tmod 60 + 60 := by omega
            generalize ptsT ((gl.zip cl).map fGC) k = s at *
            generalize wtsT ((gl.zip cl).map fGC) k = t at *
            go_wp2_with fail
            go_quiet (fail)
            rw [HX.out, HY.out]
            clear t5 t6 t9 HX HY q1 q2
            generalize mk1 x = x1 at *
            generalize mkC y = y1 at *
            obtain ⟨X1, X2⟩ := X
            obtain ⟨Y1, Y2⟩ := Y
            obtain ⟨XY1, XY2⟩ := XY
            obtain ⟨l1, l2, l3, l4⟩ := L0
            have HT2 := HT.out.drew nq
            have lenG : (GL gl k).length ≤ 1000 := by rw [GL_len (by omega)]; omega
            have lenC : (CL cl k).length ≤ 1000 := by rw [CL_len (by omega)]; omega
            obtain ⟨V, eV⟩ : ∃ V, V = wr.drewN nq := ⟨_, rfl⟩
            rw [← eV] at HT2 ⊢
            clear eV HT
            have hs1 : W.heap.size ≤ (V.alloc (.cells #[.int .i64 x1] 3)).heap.size := by have := HT2.grown.size; simp; omega
            go_wp2_with (first
              | (at_builtin; refine wpList_push rfl (.tmp 54) (.tmp 56) rfl W.heap.size _ (GL gl k) rfl (HT2.a.alloc _) V.heap.size 1 x1 rfl (cell_at rfl) lenG hs1 ?_; intro va' w1 ho hg hb; have hT := HT2.push_a ho hg hb; have hs2 : W.heap.size ≤ (w1.alloc (.cells #[.int .i64 y1] 3)).heap.size := (by have := hT.grown.size; simp; omega); clear ho hg hb HT2 hs1)
              | (at_builtin; refine wpList_push rfl (.tmp 58) (.tmp 60) rfl W.heap.size _ (CL cl k) rfl (hT.b.alloc _) w1.heap.size 1 y1 rfl (cell_at rfl) lenC hs2 ?_; intro vb' w2 ho hg hb; have hT2 := hT.push_b ho hg hb; clear ho hg hb hT hs2))
            go_roundw
            case rel => exact ⟨k + 1, by omega, by omega, by omega, by go_num, Lib.hid (by rw [HG.out, HL.out]; exact hT2), by rw [HP.out], by rw [HW.out]⟩
            case measure => simp [intOf]; omega
          · go_wp2_with fail
            go_meet
            exact ⟨k, hk, hkn, hkn', HT, rfl, rfl⟩
        · go_wp2_with fail
          go_meet
          exact ⟨k, hk, hkn, hkn', HT, rfl, rfl⟩
      · go_wp2_with fail
        go_meet
        exact ⟨k, hk, hkn, hkn', HT, rfl, rfl⟩
  obtain ⟨k, k1, k2, k3, HT, rfl, rfl⟩ := hcut
  have gw := HT.out.grown
  obtain ⟨A1, c1, ev1, hn1⟩ := HT.out.a.nums (GL_i64 _ _)
  obtain ⟨A2, c2, ev2, hn2⟩ := HT.out.b.nums (CL_i64 _ _)
  rw [GL_len (by omega)] at ev1
  rw [CL_len (by omega)] at ev2
  subst ev1 ev2
  have K := convert_k u ad d r (-1000) 1000 0 (GL gl k) (CL cl k) A1 A2 k k c1 c2 wc (GL_len (by omega)).symm (CL_len (by omega)).symm (by unfold maxLen; omega) (by unfold maxLen; omega) hn1 hn2
  have gg := FG.out.trans gw
  have HC := FC.out _ gw
  have HS := FS.out _ gw
  have c0 := HC.c0
  have c1 := HC.c1
  have c2 := HC.c2
  have c3 := HC.c3
  have s0 := HS.c0
  have s1 := HS.c1
  have s2 := HS.c2
  obtain ⟨e1, e2⟩ := sums_GL (gl := gl) (cl := cl) (k := k) (by omega) (by omega)
  have eC := mC_GL (gl := gl) (cl := cl) (k := k) (by omega) (by omega) (by omega)
  have L0 := sums_le ((gl.zip cl).map fGC) k (by rw [List.length_map, List.length_zip]; omega) (bads_tk _ _)
  clear FC FS FG HN HN' hn1 hn2 HT gw HS
  by_cases k0 : k = 0
  · subst k0
    obtain ⟨o1, o2⟩ := co_none HV.out (show chkB (-1000) 1000 0 = true by decide) (by rw [eC]; rfl)
    rw [o1, o2] at K
    have HK := Lib.hid K
    clear K o1 o2 e1 e2 eC L0
    generalize ptsT ((gl.zip cl).map fGC) 0 = s at *
    generalize wtsT ((gl.zip cl).map fGC) 0 = t at *
    go_wp2_with fail
    refine HK.out.mono ?_
    rintro e w4 ⟨rfl, g⟩
    replace gg := gg.trans g
    clear HK g c0 c1 c2 c3 s0 s1 s2 HC
    go_wp2_with fail
    go_ret
    exact ⟨rfl, gg⟩
  · have eC' : mC (GL gl k) (CL cl k) = 0 := by rw [eC, if_neg k0]
    obtain ⟨v1, v2, v3, v4, v5, v6, v7, v8⟩ := (cv_iff u ad d r).1 HV.out
    obtain ⟨o1, o2⟩ := co_some HV.out (show chkB (-1000) 1000 0 = true by decide) eC'
    rw [o1, o2, ro_mean eC' u ad d r (by omega), e1, e2] at K
    clear o1 o2 e1 e2 eC eC' HV
    generalize ptsT ((gl.zip cl).map fGC) k = s at *
    generalize wtsT ((gl.zip cl).map fGC) k = t at *
    obtain ⟨l1, l2, l3, l4⟩ := L0
    have b1 := prod_m (a := s) (b := u) (by omega) (by omega) v3 v4
    have b2 := prod_m (a := t) (b := ad) (by omega) (by omega) v5 v6
    rw [Int.mul_comm t ad] at b2
    have b3 := prod_q (a := t) (b := d) (by omega) (by omega) (by omega) v2
    have b4 : 1 ≤ t * d := by have := Int.mul_pos (show 0 < t by omega) (show 0 < d by omega); omega
    obtain ⟨m1, m2, m3⟩ := once_math (t := s * u + ad * t) (b := t * d) (how := r) (by omega) v7 v8
    generalize placeV (-1000) 1000 (roV (s * u + ad * t) (t * d) r) = z at *
    have b5 := prod_m (a := t * d) (b := z) (by omega) (by omega) m1 m2
    rw [Int.mul_comm (t * d) z] at b5
    have HM := Lib.hid m3
    have HK := Lib.hid K
    have hw1 : IntKind.i64.wrap (s * u) = s * u := IntWalk.i64_in _ (by omega)
    have hw2 : IntKind.i64.wrap (ad * t) = ad * t := IntWalk.i64_in _ (by omega)
    have hw3 : IntKind.i64.wrap (s * u + ad * t) = s * u + ad * t := IntWalk.i64_in _ (by omega)
    have hw4 : IntKind.i64.wrap (t * d) = t * d := IntWalk.i64_in _ (by omega)
    have k00 : ((k : Int) == 0) = false := by simp; omega
    clear K m3 k0
    go_wp2_with fail
    refine HK.out.mono ?_
    rintro e w4 ⟨rfl, g⟩
    replace gg := gg.trans g
    replace HC := HC.kept g
    clear HK g c0 c1 c2 c3 s0 s1 s2
    have c0 := HC.c0
    have c1 := HC.c1
    have c2 := HC.c2
    have c3 := HC.c3
    go_wp2_with fail
    go_quiet (fail)
    clear hw1 hw2 hw3 hw4
    obtain ⟨b11, b12⟩ := b1
    obtain ⟨b21, b22⟩ := b2
    obtain ⟨b31, b32⟩ := b3
    obtain ⟨b51, b52⟩ := b5
    have T1 : -1440000000 ≤ s * u + ad * t := by omega
    have T2 : s * u + ad * t ≤ 1440000000 := by omega
    generalize s * u + ad * t = T at *
    generalize t * d = B at *
    clear b11 b12 b21 b22 v1 v2 v3 v4 v5 v6 l1 l2 l3 l4 k00
    obtain ⟨M1, M2, M3⟩ := HM.out
    clear HM
    by_cases hA : T < -1000 * B
    · obtain rfl : z = -1000 := M1 hA
      clear M1 M2 M3
      go_wp2_with fail
      go_ret
      exact ⟨rfl, grown_dn gg⟩
    · by_cases hB : 1000 * B < T
      · obtain rfl : z = 1000 := M2 hB
        clear M1 M2 M3
        go_wp2_with fail
        go_ret
        exact ⟨rfl, grown_dn gg⟩
      · have M4 := M3 (by omega) (by omega)
        clear M1 M2 M3
        have R1 : -3000000000 ≤ T - z * B := by omega
        have R2 : T - z * B ≤ 3000000000 := by omega
        obtain ⟨M1, M2, M3, M5⟩ := M4
        rcases (show r = 1 ∨ r = 2 ∨ r = 3 ∨ r = 4 by omega) with hr | hr | hr | hr
        · obtain ⟨N1, N2⟩ := M1 hr
          clear M1 M2 M3 M5
          subst hr
          go_upto_region 23 with fail
          generalize T - z * B = R at *
          go_wp2_with fail
          go_ret
          exact ⟨rfl, grown_dn gg⟩
        · obtain ⟨N1, N2⟩ := M2 hr
          clear M1 M2 M3 M5
          subst hr
          go_upto_region 23 with fail
          generalize T - z * B = R at *
          go_wp2_with fail
          go_ret
          exact ⟨rfl, grown_dn gg⟩
        · obtain ⟨N1, N2⟩ := M3 hr
          clear M1 M2 M3 M5
          subst hr
          go_upto_region 23 with fail
          generalize T - z * B = R at *
          go_wp2_with fail
          go_ret
          exact ⟨rfl, grown_dn gg⟩
        · have N := M5 hr
          clear M1 M2 M3 M5
          have HO := Lib.hid (odd_iff z)
          subst hr
          go_upto_region 23 with fail
          generalize T - z * B = R at *
          have N1 : 2 * R ≤ B := by omega
          have N2 : -2 * R ≤ B := by omega
          rcases Int.lt_or_le R 0 with hR | hR
          · have hR2 : R < -R := by omega
            have hR3 : R ≤ -R := by omega
            by_cases h2 : -2 * R < B
            · have h3 : 2 * -R < B := by omega
              have h4 : 2 * -R ≤ B := by omega
              clear N
              go_wp2_with fail
              go_ret
              exact ⟨rfl, grown_dn gg⟩
            · have h3 : B ≤ 2 * -R := by omega
              have h4 : 2 * -R ≤ B := by omega
              have h5 : z % 2 = 0 := by omega
              have h6 : (z.tmod 2 == 0) = true := by have := HO.out.2 h5; simp [this]
              clear N h5 h2
              go_wp2_with fail
              go_ret
              exact ⟨rfl, grown_dn gg⟩
          · have hR2 : -R ≤ R := by omega
            by_cases h2 : 2 * R < B
            · clear N
              go_wp2_with fail
              go_ret
              exact ⟨rfl, grown_dn gg⟩
            · have h3 : B ≤ 2 * R := by omega
              have h5 : z % 2 = 0 := by omega
              have h6 : (z.tmod 2 == 0) = true := by have := HO.out.2 h5; simp [this]
              clear N h5
              go_wp2_with fail
              go_ret
              exact ⟨rfl, grown_dn gg⟩
end Go.Proofs.Ytcilclbolmijfaa
