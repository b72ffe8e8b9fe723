/-
  The law ScaleMeans.
-/
import Derived.Test.YtcilclbolmijfaaRegs
namespace Go.Proofs.Ytcilclbolmijfaa
open Go.RowKit
def raw7 (a b p u cc d r : Int) : Array Value := #[.int .i64 a, .int .i64 b, .int .i64 p, .int .i64 u, .int .i64 cc, .int .i64 d, .int .i64 r]
def ConvAt (w : World) (B e : Nat) : Prop := ∃ U V D R : Int, w.cell? ⟨B, e * 4, none⟩ = some (.int .i64 U) ∧ w.cell? ⟨B, e * 4 + 1, none⟩ = some (.int .i64 V) ∧ w.cell? ⟨B, e * 4 + 2, none⟩ = some (.int .i64 D) ∧ w.cell? ⟨B, e * 4 + 3, none⟩ = some (.int .i64 R)
def ScaleAt (w : World) (B e : Nat) : Prop := ∃ X Y P : Int, w.cell? ⟨B, e * 3, none⟩ = some (.int .i64 X) ∧ w.cell? ⟨B, e * 3 + 1, none⟩ = some (.int .i64 Y) ∧ w.cell? ⟨B, e * 3 + 2, none⟩ = some (.int .i64 P)
theorem half_cast (q : Nat) : ((q : Int).tmod 2 = ((q % 2 : Nat) : Int)) ∧ ((q : Int) / 2 = ((q / 2 : Nat) : Int)) := ⟨by rw [Int.tmod_eq_emod_of_nonneg (by omega)]; omega, by omega⟩
def PairAt (w : World) (BL j : Nat) : Prop := ∃ (A A' : Option Addr) (n n' c c' : Nat) (gs cs : List Int), w.cell? ⟨BL, j * 2, none⟩ = some (.slice A n c) ∧ w.cell? ⟨BL, j * 2 + 1, none⟩ = some (.slice A' n' c') ∧ n = gs.length ∧ n' = cs.length ∧ n ≤ maxLen ∧ n' ≤ maxLen ∧ Nums w A gs ∧ Nums w A' cs
set_option maxRecDepth 100000 in
set_option maxHeartbeats 8000000 in
theorem means_walk (A A' : Option Addr) (n n' c c' : Nat) (gl0 cl0 : List Int) (a b p u cc d r : Int) (hi : i64 a ∧ i64 b ∧ i64 p) (w : World) (hn : n = gl0.length) (hn' : n' = cl0.length) (hc : n ≤ c) (hc' : n' ≤ c') (hm : c ≤ maxLen) (hm' : c' ≤ maxLen) (hA : A = none → c = 0) (hA' : A' = none → c' = 0) (hN : Nums w A gl0) (hN' : Nums w A' cl0) :
    Calls Try.prog 4 #[.slice A n c, .slice A' n' c', .agg (raw7 a b p u cc d r)] w fun e w' => e = .returned (.bool true) ∧ w.grownBy w' none := by
  obtain ⟨w0, e0, HR, gg⟩ := row_of w 28 (raw7 a b p u cc d r)
  have KS := Lib.hid (sane_k w0)
  have KF := Lib.hid (few_k A n c hc hm hA)
  have KF' := Lib.hid (few_k A' n' c' hc' hm' hA')
  have H0 := Lib.hid e0
  obtain ⟨gl, hgl⟩ : ∃ gl, gl = gl0.take 12 := ⟨_, rfl⟩
  obtain ⟨cl, hcl⟩ : ∃ cl, cl = cl0.take 12 := ⟨_, rfl⟩
  have e1 : min n 12 = gl.length := by rw [hgl, List.length_take]; omega
  have e2 : min n' 12 = cl.length := by rw [hcl, List.length_take]; omega
  rw [e1] at KF
  rw [e2] at KF'
  have hlg : gl.length ≤ 12 := by omega
  have hlc : cl.length ≤ 12 := by omega
  have hcg : gl.length ≤ c := by omega
  have hcc : cl.length ≤ c' := by omega
  have HN := Lib.hid (fun W (g : w.grownBy W none) => (show Nums W A gl by rw [hgl]; exact (hN.kept g).take 12))
  have HN' := Lib.hid (fun W (g : w.grownBy W none) => (show Nums W A' cl by rw [hcl]; exact (hN'.kept g).take 12))
  have HA' := Lib.hid hA'
  have HI := Lib.hid hi
  unfold maxLen at hm hm'
  clear hn hn' hc hc' hN hN' hA hA' e0 hgl hcl e1 e2 hi
  generalize hm1 : gl.length = m1 at *
  generalize hm2 : cl.length = m2 at *
  have hl1 : m1 ≤ gl.length := by omega
  have hl2 : m2 ≤ cl.length := by omega
  have HM1 := Lib.hid hm1
  have HM2 := Lib.hid hm2
  clear hm1 hm2
  go_enter Try.func4, Try.ntmps4
  go_wp2_with fail
  rw [← H0.out]
  clear H0
  refine KS.out.mono ?_
  rintro e W ⟨rfl, g⟩
  replace gg := gg.trans g
  replace HR := HR.kept g
  clear g KS
  go_wp2_with fail
  refine (KF.out _).mono ?_
  rintro e w' ⟨rfl, rfl⟩
  go_wp2_with fail
  refine (KF'.out _).mono ?_
  rintro e w' ⟨rfl, rfl⟩
  have FR := Lib.hid (fun V (g : W.grownBy V none) => HR.kept g)
  have FG := Lib.hid gg
  clear HR gg KF KF'
  generalize w.heap.size = rb at *
  go_upto_block 0 with fail
  go_cut [8, 9] (fun va vb wv => ∃ k : Nat, k ≤ m1 ∧ k ≤ m2 ∧ Hid (TwoR W va vb (GL gl k) (CL cl k) wv))
  case first =>
    go_wp2_with fail
    go_loopw [8, 9, 10] (fun va vb i wr => ∃ k : Nat, k ≤ m1 ∧ k ≤ m2 ∧ i = .int .i64 k ∧ Hid (TwoR W va vb (GL gl k) (CL cl k) wr)) (fun _ _ i _ => m1 - (intOf i).toNat)
    case atStart => exact ⟨0, by omega, by omega, rfl, Lib.hid (TwoR.nil W)⟩
    case round =>
      obtain ⟨k, hkn, hkn', rfl, HT⟩ := hrel
      by_cases h1 : k < m1
      · by_cases h2 : k < m2
        · have gw := HT.out.grown
          obtain ⟨ad1, rfl, _, hc⟩ := (HN.out _ (FG.out.trans gw)).2 (by omega)
          obtain ⟨ad2, rfl, _, hc'⟩ := (HN'.out _ FG.out).2 (by omega)
          have z1 : gl[k]? = some gl[k] := List.getElem?_eq_getElem (by omega)
          have z2 : cl[k]? = some cl[k] := List.getElem?_eq_getElem (by omega)
          have q1 := hc k _ z1
          have Q2 := Lib.hid (fun V (g : W.grownBy V none) => gcell g (hc' k _ z2))
          have HG := Lib.hid (GL_next z1)
          have HL := Lib.hid (CL_next z2)
          have FW := Lib.hid gw
          clear hc hc' z1 z2 gw
          generalize gl[k] = x at *
          generalize cl[k] = y at *
          have HX : Hid (x.tmod 1001 = mk1 x) := Lib.hid rfl
          have HY : Hid (1 + y.tmod 60 % 60 = mkC y) := Lib.hid rfl
          obtain ⟨t5, t6⟩ := tm_le y (k := 60) (by decide)
          have t9 : 0 ≤ y.tmod 60 + 60 := by omega
          have HT2 := HT.out
          have lenG : (GL gl k).length ≤ 1000 := by rw [GL_len (by omega)]; omega
          have lenC : (CL cl k).length ≤ 1000 := by rw [CL_len (by omega)]; omega
          have hs1 : W.heap.size ≤ (wr.alloc (.cells #[.int .i64 (x.tmod 1001)] 3)).heap.size := by have := HT2.grown.size; simp; omega
          clear HT
          go_wp2_with (first
            | (at_builtin; refine wpList_push rfl (.tmp 47) (.tmp 53) rfl W.heap.size _ (GL gl k) rfl (HT2.a.alloc _) wr.heap.size 1 (x.tmod 1001) rfl (cell_at rfl) lenG hs1 ?_; intro va' w1 ho hg hb; have hT := HT2.push_a ho hg hb; have q2 := Q2.out _ hT.grown; have hs2 : W.heap.size ≤ (w1.alloc (.cells #[.int .i64 (1 + y.tmod 60 % 60)] 3)).heap.size := (by have := hT.grown.size; simp; omega); clear ho hg hb HT2 hs1 q1)
            | (at_builtin; refine wpList_push rfl (.tmp 55) (.tmp 64) rfl W.heap.size _ (CL cl k) rfl (hT.b.alloc _) w1.heap.size 1 (1 + y.tmod 60 % 60) rfl (cell_at rfl) lenC hs2 ?_; intro vb' w2 ho hg hb; have hT2 := hT.push_b ho hg hb; clear ho hg hb hT hs2 q2))
          rw [HX.out, HY.out] at hT2
          go_roundw
          case rel => exact ⟨k + 1, by omega, by omega, by go_num, Lib.hid (by rw [HG.out, HL.out]; exact hT2)⟩
          case measure => simp [intOf]; omega
        · go_wp2_with fail
          go_meet
          exact ⟨k, hkn, hkn', HT⟩
      · go_wp2_with fail
        go_meet
        exact ⟨k, hkn, hkn', HT⟩
  obtain ⟨k, k1, k2, HT⟩ := hcut
  have gw := HT.out.grown
  obtain ⟨A1, d1, ev1, hn1⟩ := HT.out.a.nums (GL_i64 _ _)
  obtain ⟨A2, d2, ev2, hn2⟩ := HT.out.b.nums (CL_i64 _ _)
  rw [GL_len (by omega)] at ev1
  rw [CL_len (by omega)] at ev2
  subst ev1 ev2
  have G1 := HN.out _ (FG.out.trans gw)
  have G2 := HN'.out _ (FG.out.trans gw)
  have G3 := G2.take k
  have LG := Lib.hid (GL_len (l := gl) (k := k) (by omega))
  have LC := Lib.hid (CL_len (l := cl) (k := k) (by omega))
  have LK : Hid ((cl.take k).length = k) := Lib.hid (by rw [List.length_take]; have := HM2.out; omega)
  have gg := FG.out.trans gw
  have hR := FR.out _ gw
  clear HT FG FR HN HN'
  generalize GL gl k = xs at *
  generalize CL cl k = ys at *
  generalize cl.take k = zs at *
  go_upto_region 9 with fail
  go_cut [11] (fun v wx => ∃ B, v = .pointer (some ⟨B, 0, none⟩) ∧ Row wx B 42 #[.slice A m1 c, .slice A' m2 c', .slice A1 k d1, .slice A2 k d2, .slice A1 k d1, .slice A' k c'] ∧ wc.grownBy wx none)
  case first =>
    cases A' with
    | none =>
      obtain rfl := HA'.out rfl
      obtain rfl : m2 = 0 := by omega
      obtain rfl : k = 0 := by omega
      go_wp2_with fail
      go_meet
      exact ⟨_, rfl, Row.new _ _ _, World.grownBy_alloc _ _ none⟩
    | some ad =>
      go_wp2_with fail
      go_meet
      exact ⟨_, rfl, Row.new _ _ _, World.grownBy_alloc _ _ none⟩
  obtain ⟨BL, rfl, HL, g⟩ := hcut
  replace gg := gg.trans g
  replace hR := hR.kept g
  replace G1 := G1.kept g
  replace G2 := G2.kept g
  replace G3 := G3.kept g
  replace hn1 := hn1.kept g
  replace hn2 := hn2.kept g
  clear g gw
  have r0 : wc.cell? ⟨rb, 0, none⟩ = some (.int .i64 a) := hR.c 0 rfl
  have r1 : wc.cell? ⟨rb, 1, none⟩ = some (.int .i64 b) := hR.c 1 rfl
  have r2 : wc.cell? ⟨rb, 2, none⟩ = some (.int .i64 p) := hR.c 2 rfl
  have r3 : wc.cell? ⟨rb, 3, none⟩ = some (.int .i64 u) := hR.c 3 rfl
  have r4 : wc.cell? ⟨rb, 4, none⟩ = some (.int .i64 cc) := hR.c 4 rfl
  have r5 : wc.cell? ⟨rb, 5, none⟩ = some (.int .i64 d) := hR.c 5 rfl
  have r6 : wc.cell? ⟨rb, 6, none⟩ = some (.int .i64 r) := hR.c 6 rfl
  go_upto_region 10 with fail
  go_cut [12] (fun v wx => ∃ B x y z t, v = .pointer (some ⟨B, 0, none⟩) ∧ Row wx B 44 #[.int .i64 u, .int .i64 cc, .int .i64 d, .int .i64 r, .int .i64 x, .int .i64 y, .int .i64 z, .int .i64 t] ∧ wc.grownBy wx none)
  case first =>
    have KC := Lib.hid (conv_k u cc d r)
    generalize mk1 u = v1 at *
    generalize mk1 cc = v2 at *
    generalize mkD d = v3 at *
    generalize mkR r = v4 at *
    refine rg10 (by kernel_rfl) wc rb u cc d r v1 v2 v3 v4 r3 r4 r5 r6 KC ?_
    rintro _ _ _ _ _ _ B wx RS gst
    go_simp
    go_wp2_with fail
    go_meet
    exact ⟨_, _, _, _, _, rfl, RS, gst⟩
  obtain ⟨BC, v1, v2, v3, v4, rfl, HC, g⟩ := hcut
  replace gg := gg.trans g
  replace HL := HL.kept g
  replace G1 := G1.kept g
  replace G2 := G2.kept g
  replace G3 := G3.kept g
  replace hn1 := hn1.kept g
  replace hn2 := hn2.kept g
  replace r0 := gcell g r0
  replace r1 := gcell g r1
  replace r2 := gcell g r2
  clear g r3 r4 r5 r6 hR
  go_upto_region 11 with fail
  go_cut [13] (fun v wx => ∃ B x y z, v = .pointer (some ⟨B, 0, none⟩) ∧ Row wx B 32 #[.int .i64 a, .int .i64 b, .int .i64 p, .int .i64 x, .int .i64 y, .int .i64 z] ∧ wc.grownBy wx none)
  case first =>
    have HI2 : Hid (∀ z ∈ [a, b, p], i64 z) := Lib.hid (by have := HI.out; simp; exact ⟨this.1, this.2.1, this.2.2⟩)
    refine rg11 (by kernel_rfl) wc rb a b p r0 r1 r2 HI2 ?_
    rintro _ _ _ _ _ _ _ _ _ _ _ _ _ _ B x y z wx RS gst
    go_simp
    go_wp2_with fail
    go_meet
    exact ⟨_, _, _, _, rfl, RS, gst⟩
  obtain ⟨BS, x, y, z, rfl, HS, g⟩ := hcut
  replace gg := gg.trans g
  replace HL := HL.kept g
  replace HC := HC.kept g
  replace G1 := G1.kept g
  replace G2 := G2.kept g
  replace G3 := G3.kept g
  replace hn1 := hn1.kept g
  replace hn2 := hn2.kept g
  clear g r0 r1 r2
  have FP : Hid (∀ V, wc.grownBy V none → ∀ j, j < 3 → PairAt V BL j) := Lib.hid (fun V g j hj => by
    have hl := HL.kept g
    rcases (show j = 0 ∨ j = 1 ∨ j = 2 by omega) with rfl | rfl | rfl
    · exact ⟨A, A', m1, m2, c, c', gl, cl, hl.c 0 rfl, hl.c 1 rfl, HM1.out.symm, HM2.out.symm, by unfold maxLen; omega, by unfold maxLen; omega, G1.kept g, G2.kept g⟩
    · exact ⟨A1, A2, k, k, d1, d2, xs, ys, hl.c 2 rfl, hl.c 3 rfl, LG.out.symm, LC.out.symm, by unfold maxLen; omega, by unfold maxLen; omega, hn1.kept g, hn2.kept g⟩
    · exact ⟨A1, A', k, k, d1, c', xs, zs, hl.c 4 rfl, hl.c 5 rfl, LG.out.symm, LK.out.symm, by unfold maxLen; omega, by unfold maxLen; omega, hn1.kept g, G3.kept g⟩)
  have FC : Hid (∀ V, wc.grownBy V none → ∀ e, e < 2 → ConvAt V BC e) := Lib.hid (fun V g e he => by
    have hl := HC.kept g
    rcases (show e = 0 ∨ e = 1 by omega) with rfl | rfl
    · exact ⟨u, cc, d, r, hl.c 0 rfl, hl.c 1 rfl, hl.c 2 rfl, hl.c 3 rfl⟩
    · exact ⟨v1, v2, v3, v4, hl.c 4 rfl, hl.c 5 rfl, hl.c 6 rfl, hl.c 7 rfl⟩)
  have FS : Hid (∀ V, wc.grownBy V none → ∀ e, e < 2 → ScaleAt V BS e) := Lib.hid (fun V g e he => by
    have hl := HS.kept g
    rcases (show e = 0 ∨ e = 1 by omega) with rfl | rfl
    · exact ⟨a, b, p, hl.c 0 rfl, hl.c 1 rfl, hl.c 2 rfl⟩
    · exact ⟨x, y, z, hl.c 3 rfl, hl.c 4 rfl, hl.c 5 rfl⟩)
  clear HL HC HS G1 G2 G3 hn1 hn2 LG LC LK HM1 HM2 HI HA'
  generalize wc = W0 at *
  go_wp2_with fail
  go_loopw [14] (fun i wr => ∃ j : Nat, j ≤ 3 ∧ i = .int .i64 j ∧ W0.grownBy wr none) (fun i _ => 3 - (intOf i).toNat)
  case atStart => exact ⟨0, by omega, rfl, grown_refl _⟩
  case round =>
    obtain ⟨j, hj, rfl, gw⟩ := hrel
    generalize wr = wo at *
    by_cases hlt : j < 3
    · go_upto_region 15 with fail
      obtain ⟨B1, B2, n1, n2, e1, e2, gs, cs, x1, x2, hn1, hn2, hm1, hm2, N1, N2⟩ := FP.out _ gw j hlt
      have KM := Lib.hid (fun V (g : wo.grownBy V none) => mean_k gs cs B1 B2 n1 n2 e1 e2 V hn1 hn2 hm1 hm2 (N1.kept g) (N2.kept g))
      have KR := Lib.hid (fun V (g : wo.grownBy V none) => mean_r gs cs B1 B2 n1 n2 e1 e2 V hn1 hn2 hm1 hm2 (N1.kept g) (N2.kept g))
      have KC := Lib.hid (fun (u a d r x y p : Int) V (g : wo.grownBy V none) => convert_k u a d r x y p gs cs B1 B2 n1 n2 e1 e2 V hn1 hn2 hm1 hm2 (N1.kept g) (N2.kept g))
      have KD := Lib.hid (fun (u a d r x y p : Int) V (g : wo.grownBy V none) => convert_r u a d r x y p gs cs B1 B2 n1 n2 e1 e2 V hn1 hn2 hm1 hm2 (N1.kept g) (N2.kept g))
      clear hn1 hn2 hm1 hm2 N1 N2
      generalize mN gs cs = mn at *
      generalize mD gs cs = md at *
      generalize mE gs cs = me at *
      go_cut [15, 16] (fun v e wx => ∃ B, v = .pointer (some ⟨B, 0, none⟩) ∧ e = .int .i64 me ∧ R2 wx B mn md ∧ wo.grownBy wx none)
      case first =>
        refine rg15 (by kernel_rfl) wo BL j hlt B1 B2 n1 n2 e1 e2 mn md me x1 x2 KM ?_
        rintro _ _ _ _ _ _ _ _ _ _ _ _ B wx RS gst
        go_simp
        go_wp2_with fail
        go_meet
        exact ⟨_, rfl, rfl, RS, gst⟩
      obtain ⟨P1, rfl, rfl, HA, g⟩ := hcut
      have FA := Lib.hid g
      clear g
      have y1 := gcell FA.out x1
      have y2 := gcell FA.out x2
      generalize wc = wa at *
      go_upto_region 16 with fail
      go_cut [17, 18] (fun v e wx => ∃ B, v = .pointer (some ⟨B, 0, none⟩) ∧ e = .int .i64 me ∧ R2 wx B mn md ∧ wa.grownBy wx none)
      case first =>
        refine rg16 (by kernel_rfl) wa BL j hlt B1 B2 n1 n2 e1 e2 mn md me y1 y2 (Lib.hid (fun V g => KR.out V (FA.out.trans g))) ?_
        rintro _ _ _ _ _ _ _ _ _ _ _ _ B wx RS gst
        go_simp
        go_wp2_with fail
        go_meet
        exact ⟨_, rfl, rfl, RS, gst⟩
      obtain ⟨P2, rfl, rfl, HB, g⟩ := hcut
      have m0 := (HA.kept g).c0
      have m1 := (HA.kept g).c1
      have m2 := HB.c0
      have m3 := HB.c1
      have gv := FA.out.trans g
      clear HA HB FA g y1 y2
      generalize wc = wb at *
      go_wp2_with fail
      go_loopw [19] (fun i wr => ∃ q : Nat, q ≤ 4 ∧ i = .int .i64 q ∧ wo.grownBy wr none) (fun i _ => 4 - (intOf i).toNat)
      case atStart => exact ⟨0, by omega, rfl, gv⟩
      case round =>
        obtain ⟨q, hq, rfl, gy⟩ := hrel
        by_cases hlq : q < 4
        · obtain ⟨e, he⟩ : ∃ e, q % 2 = e := ⟨_, rfl⟩
          obtain ⟨f, hf⟩ : ∃ f, q / 2 = f := ⟨_, rfl⟩
          obtain ⟨U, U2, U3, U4, c0, c1, c2, c3⟩ := FC.out _ (gw.trans gy) e (by omega)
          obtain ⟨X, X2, X3, s0, s1, s2⟩ := FS.out _ (gw.trans gy) f (by omega)
          have z1 := gcell gy x1
          have z2 := gcell gy x2
          have hcast := half_cast q
          rw [he, hf] at hcast
          obtain ⟨k1, k2⟩ := hcast
          have eb : (e : Int) < 2 := by omega
          have fb : (f : Int) < 2 := by omega
          have hwf : IntKind.i64.wrap (f : Int) = (f : Int) := IntWalk.i64_in _ (by omega)
          have K22 := Lib.hid (KC.out U U2 U3 U4 X X2 X3)
          have K23 := Lib.hid (KD.out U U2 U3 U4 X X2 X3)
          generalize coV U U2 U3 U4 X X2 X3 gs cs = vv at *
          generalize coE U U2 U3 U4 X X2 X3 gs cs = ee at *
          clear FC FS FP KM KR KC KD he hf
          go_upto_region 22 with fail
          refine rg22 (by kernel_rfl) wr BL BC BS j q e f hlt hlq B1 B2 n1 n2 e1 e2 vv ee U U2 U3 U4 X X2 X3 c0 c1 c2 c3 s0 s1 s2 z1 z2 k1 k2 eb fb hwf (Lib.hid (fun V g => K22.out V (gy.trans g))) ?_
          rintro _ _ _ _ _ _ _ _ _ _ _ _ _ _ _ _ _ _ _ _ wq gz
          have tc0 := gcell gz c0
          have tc1 := gcell gz c1
          have tc2 := gcell gz c2
          have tc3 := gcell gz c3
          have ts0 := gcell gz s0
          have ts1 := gcell gz s1
          have ts2 := gcell gz s2
          have tz1 := gcell gz z1
          have tz2 := gcell gz z2
          have gy2 := gy.trans gz
          clear gz gy c0 c1 c2 c3 s0 s1 s2 z1 z2
          go_simp
          go_upto_region 23 with fail
          refine rg23 (by kernel_rfl) wq BL BC BS j q e f hlt hlq B1 B2 n1 n2 e1 e2 vv ee U U2 U3 U4 X X2 X3 tc0 tc1 tc2 tc3 ts0 ts1 ts2 tz1 tz2 k1 k2 eb fb hwf (Lib.hid (fun V g => K23.out V (gy2.trans g))) ?_
          rintro _ _ _ _ _ _ _ _ _ _ _ _ _ _ _ _ _ _ _ _ wz gz
          clear k1 k2 hwf
          go_simp
          go_wp2_with fail
          go_roundw
          case rel => exact ⟨q + 1, by omega, by go_num, gy2.trans gz⟩
          case measure => simp [intOf]; omega
        · obtain rfl : q = 4 := by omega
          go_wp2_with fail
          go_roundw
          case rel => exact ⟨j + 1, by omega, by go_num, gw.trans gy⟩
          case measure => simp [intOf]; omega
    · obtain rfl : j = 3 := by omega
      have gg2 := gg.trans gw
      clear FP FC FS gg gw x y z
      generalize wo = wp at *
      have hmk : ∀ v : World, (Instr.makeSlice 22 (.int .i64 2001) (.int .i64 2001)).run Try.prog v = .ok (.slice (some ⟨v.heap.size, 0, none⟩) 2001 2001) (v.alloc (.cells (longA 2001 0) 3)) := fun v => long_mk 2001 (by decide) v
      have hat := Lib.hid (fun q (h : q < 2001) => long_at h)
      have hnx := Lib.hid (fun q (h : q < 2001) => long_next h)
      have hone := Lib.hid (fun V B (h : Row V B 3 (longA 2001 2001)) => nums_ones h)
      have hrest : Hid (∀ V B, Row V B 3 (longA 2001 2001) → Nums V (some ⟨B, 1, none⟩) (List.replicate 2000 1)) := Lib.hid (fun V B h => nums_rest h)
      have hm1 := mean_ones (m := 2000) (by decide) (by decide)
      have hm2 := mean_many (m := 2001) (by decide)
      have len1 : 2000 = (List.replicate 2000 (1 : Int)).length := List.length_replicate.symm
      have len2 : 2001 = (List.replicate 2001 (1 : Int)).length := List.length_replicate.symm
      have KL := fun V B (n1 : Nums V (some ⟨B, 1, none⟩) (List.replicate 2000 1)) => mean_k (List.replicate 2000 1) (List.replicate 2000 1) _ _ 2000 2000 2000 2000 V len1 len1 (by unfold maxLen; decide) (by unfold maxLen; decide) n1 n1
      have KM := fun V B (n1 : Nums V (some ⟨B, 0, none⟩) (List.replicate 2001 1)) => mean_k (List.replicate 2001 1) (List.replicate 2001 1) _ _ 2001 2001 2001 2001 V len2 len2 (by unfold maxLen; decide) (by unfold maxLen; decide) n1 n1
      rw [hm1.1, hm1.2.1, hm1.2.2] at KL
      rw [hm2.1, hm2.2.1, hm2.2.2] at KM
      replace KL := Lib.hid KL
      replace KM := Lib.hid KM
      have HJ := Lib.hid (fun V B (h : Row V B 3 (longA 2001 2001)) => And.intro (hone.out V B h) (hrest.out V B h))
      clear hone hrest hm1 hm2 len1 len2
      generalize List.replicate 2000 (1 : Int) = L1 at *
      generalize List.replicate 2001 (1 : Int) = L2 at *
      go_upto_region 26 with fail
      go_upto_region 27 with fail
      obtain ⟨wl, el, HL, g⟩ := row_of wp 3 (longA 2001 0)
      rw [← el]
      have hB : w.heap.size ≤ wp.heap.size := gg2.size
      replace gg2 := gg2.trans g
      clear g el hmk
      generalize longA 2001 = LA at *
      generalize wp.heap.size = lb at *
      go_wp2_with fail
      go_loopw [193] (fun i wr => ∃ q : Nat, q ≤ 2001 ∧ i = .int .i64 q ∧ Row wr lb 3 (LA q) ∧ w.grownBy wr none) (fun i _ => 2001 - (intOf i).toNat)
      case atStart => exact ⟨0, by omega, rfl, HL, gg2⟩
      case round =>
        clear HL gg2
        obtain ⟨q, hq, rfl, HL, gg⟩ := hrel
        by_cases hlq : q < 2001
        · have k0 := HL.c q (hat.out q hlq)
          have k1 := HL.fz q
          have k2 := HL.lt
          have HL2 := HL.set q (.int .i64 1)
          rw [hnx.out q hlq] at HL2
          have gg2 := grown_set (i := q) (v := .int .i64 1) gg (.inl hB)
          clear HL gg
          go_wp2_with fail
          go_roundw
          case rel => exact ⟨q + 1, by omega, by go_num, HL2, gg2⟩
          case measure => simp [intOf]; omega
        · obtain rfl : q = 2001 := by omega
          obtain ⟨J1, J2⟩ := HJ.out _ _ HL
          clear hat hnx HJ HL
          go_upto_region 32 with fail
          go_cut [26, 27] (fun v e wx => ∃ B, v = .pointer (some ⟨B, 0, none⟩) ∧ e = .int .i64 0 ∧ R2 wx B 1 1 ∧ wr.grownBy wx none)
          case first =>
            refine rg32 (by kernel_rfl) wr lb (Lib.hid (fun V g => KL.out V lb (J2.kept g))) ?_
            rintro _ _ _ _ _ _ _ _ B wx RS gst
            go_simp
            go_wp2_with fail
            go_meet
            exact ⟨_, rfl, rfl, RS, gst⟩
          obtain ⟨P1, rfl, rfl, HA, g⟩ := hcut
          replace gg := gg.trans g
          replace J1 := J1.kept g
          clear J2 KL g
          go_wp2_with fail
          refine (KM.out _ _ J1).mono ?_
          rintro e w9 ⟨rfl, g⟩
          replace gg := gg.trans g
          replace HA := HA.kept g
          clear g KM J1
          go_upto_region 34 with fail
          obtain ⟨we, ee⟩ : ∃ we, we = w9.alloc (.cells #[.int .i64 0, .int .i64 0] 46) := ⟨_, rfl⟩
          have g : w9.grownBy we none := by rw [ee]; exact World.grownBy_alloc _ _ none
          rw [← ee]
          clear ee
          have m0 := (HA.kept g).c0
          have m1 := (HA.kept g).c1
          go_wp2_with fail
          go_ret
          exact ⟨rfl, gg.trans g⟩
end Go.Proofs.Ytcilclbolmijfaa
