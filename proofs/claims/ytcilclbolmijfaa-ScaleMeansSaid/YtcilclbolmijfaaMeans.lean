/-
  The law ScaleMeans.
-/
import Derived.Test.YtcilclbolmijfaaLong
namespace Go.Proofs.Ytcilclbolmijfaa
open Go.RowKit
def raw7 (a b p u cc d r : Int) : Array Value := #[.int .i64 a, .int .i64 b, .int .i64 p, .int .i64 u, .int .i64 cc, .int .i64 d, .int .i64 r]
theorem nums_row {w : World} {B : Nat} {l : List Int} (h : Row w B 3 (l.map (Value.int .i64)).toArray) (hl : ∀ z ∈ l, i64 z) : Nums w (some ⟨B, 0, none⟩) l :=
  ⟨hl, fun _ => ⟨_, rfl, h.lt, fun j z hz => by
    have e : ((⟨B, 0, none⟩ : Addr).add j) = ⟨B, j, none⟩ := by simp [Addr.add]; omega
    rw [e]
    exact h.c j (by simp [hz])⟩⟩
def PairAt (w : World) (BL j : Nat) : Prop := ∃ (A A' : Option Addr) (n n' c c' : Nat) (gs cs : List Int), w.cell? ⟨BL, j * 2, none⟩ = some (.slice A n c) ∧ w.cell? ⟨BL, j * 2 + 1, none⟩ = some (.slice A' n' c') ∧ n = gs.length ∧ n' = cs.length ∧ n ≤ maxLen ∧ n' ≤ maxLen ∧ Nums w A gs ∧ Nums w A' cs
set_option maxRecDepth 100000 in
set_option maxHeartbeats 8000000 in
theorem means_walk (A A' : Option Addr) (n n' c c' : Nat) (gl0 cl0 : List Int) (a b p u cc d r : Int) (hi : i64 a ∧ i64 b ∧ i64 p) (w : World) (hn : n = gl0.length) (hn' : n' = cl0.length) (hc : n ≤ c) (hc' : n' ≤ c') (hm : c ≤ maxLen) (hm' : c' ≤ maxLen) (hA : A = none → c = 0) (hA' : A' = none → c' = 0) (hN : Nums w A gl0) (hN' : Nums w A' cl0) :
    Calls Try.prog 4 #[.slice A n c, .slice A' n' c', .agg (raw7 a b p u cc d r)] w fun e w' => e = .returned (.bool true) ∧ w.grownBy w' none := by
  obtain ⟨w0, e0, HR, gg⟩ := row_of w 28 (raw7 a b p u cc d r)
  have KS := Lib.hid (sane_k w0)
  have KF := Lib.hid (few_k A n c hc hm hA)
  have KF' := Lib.hid (few_k A' n' c' hc' hm' hA')
  have H0 := Lib.hid e0
  obtain ⟨gl, hgl⟩ : ∃ gl, gl = gl0.take 12 := ⟨_, rfl⟩
  obtain ⟨cl, hcl⟩ : ∃ cl, cl = cl0.take 12 := ⟨_, rfl⟩
  have e1 : min n 12 = gl.length := by rw [hgl, List.length_take]; omega
  have e2 : min n' 12 = cl.length := by rw [hcl, List.length_take]; omega
  rw [e1] at KF
  rw [e2] at KF'
  have hlg : gl.length ≤ 12 := by omega
  have hlc : cl.length ≤ 12 := by omega
  have hcg : gl.length ≤ c := by omega
  have hcc : cl.length ≤ c' := by omega
  have HN := Lib.hid (fun W (g : w.grownBy W none) => (show Nums W A gl by rw [hgl]; exact (hN.kept g).take 12))
  have HN' := Lib.hid (fun W (g : w.grownBy W none) => (show Nums W A' cl by rw [hcl]; exact (hN'.kept g).take 12))
  have HA' := Lib.hid hA'
  have HI := Lib.hid hi
  unfold maxLen at hm hm'
  clear hn hn' hc hc' hN hN' hA hA' e0 hgl hcl e1 e2 hi
  generalize hm1 : gl.length = m1 at *
  generalize hm2 : cl.length = m2 at *
  have hl1 : m1 ≤ gl.length := by omega
  have hl2 : m2 ≤ cl.length := by omega
  have HM1 := Lib.hid hm1
  have HM2 := Lib.hid hm2
  clear hm1 hm2
  go_enter Try.func4, Try.ntmps4
  go_wp2_with fail
  rw [← H0.out]
  clear H0
  refine KS.out.mono ?_
  rintro e W ⟨rfl, g⟩
  replace gg := gg.trans g
  replace HR := HR.kept g
  clear g KS
  go_wp2_with fail
  refine (KF.out _).mono ?_
  rintro e w' ⟨rfl, rfl⟩
  go_wp2_with fail
  refine (KF'.out _).mono ?_
  rintro e w' ⟨rfl, rfl⟩
  have FR := Lib.hid (fun V (g : W.grownBy V none) => HR.kept g)
  have FG := Lib.hid gg
  clear HR gg KF KF'
  generalize w.heap.size = rb at *
  go_upto_block 0 with fail
  go_cut [8, 9] (fun va vb wv => ∃ k : Nat, k ≤ m1 ∧ k ≤ m2 ∧ Hid (TwoR W va vb (GL gl k) (CL cl k) wv))
  case first =>
    go_wp2_with fail
    go_loopw [8, 9, 10] (fun va vb i wr => ∃ k : Nat, k ≤ m1 ∧ k ≤ m2 ∧ i = .int .i64 k ∧ Hid (TwoR W va vb (GL gl k) (CL cl k) wr)) (fun _ _ i _ => m1 - (intOf i).toNat)
    case atStart => exact ⟨0, by omega, by omega, rfl, Lib.hid (TwoR.nil W)⟩
    case round =>
      obtain ⟨k, hkn, hkn', rfl, HT⟩ := hrel
      by_cases h1 : k < m1
      · by_cases h2 : k < m2
        · have gw := HT.out.grown
          obtain ⟨ad1, rfl, _, hc⟩ := (HN.out _ (FG.out.trans gw)).2 (by omega)
          obtain ⟨ad2, rfl, _, hc'⟩ := (HN'.out _ FG.out).2 (by omega)
          have z1 : gl[k]? = some gl[k] := List.getElem?_eq_getElem (by omega)
          have z2 : cl[k]? = some cl[k] := List.getElem?_eq_getElem (by omega)
          have q1 := hc k _ z1
          have Q2 := Lib.hid (fun V (g : W.grownBy V none) => gcell g (hc' k _ z2))
          have HG := Lib.hid (GL_next z1)
          have HL := Lib.hid (CL_next z2)
          have FW := Lib.hid gw
          clear hc hc' z1 z2 gw
          generalize gl[k] = x at *
          generalize cl[k] = y at *
          have HX : Hid (x.tmod 1001 = mk1 x) := Lib.hid rfl
          have HY : Hid (1 + y.tmod 60 % 60 = mkC y) := Lib.hid rfl
          obtain ⟨t5, t6⟩ := tm_le y (k := 60) (by decide)
          have t9 : 0 ≤ y.tmod 60 + 60 := by omega
          have HT2 := HT.out
          have lenG : (GL gl k).length ≤ 1000 := by rw [GL_len (by omega)]; omega
          have lenC : (CL cl k).length ≤ 1000 := by rw [CL_len (by omega)]; omega
          have hs1 : W.heap.size ≤ (wr.alloc (.cells #[.int .i64 (x.tmod 1001)] 3)).heap.size := by have := HT2.grown.size; simp; omega
          clear HT
          go_wp2_with (first
            | (at_builtin; refine wpList_push rfl (.tmp 47) (.tmp 53) rfl W.heap.size _ (GL gl k) rfl (HT2.a.alloc _) wr.heap.size 1 (x.tmod 1001) rfl (cell_at rfl) lenG hs1 ?_; intro va' w1 ho hg hb; have hT := HT2.push_a ho hg hb; have q2 := Q2.out _ hT.grown; have hs2 : W.heap.size ≤ (w1.alloc (.cells #[.int .i64 (1 + y.tmod 60 % 60)] 3)).heap.size := (by have := hT.grown.size; simp; omega); clear ho hg hb HT2 hs1 q1)
            | (at_builtin; refine wpList_push rfl (.tmp 55) (.tmp 64) rfl W.heap.size _ (CL cl k) rfl (hT.b.alloc _) w1.heap.size 1 (1 + y.tmod 60 % 60) rfl (cell_at rfl) lenC hs2 ?_; intro vb' w2 ho hg hb; have hT2 := hT.push_b ho hg hb; clear ho hg hb hT hs2 q2))
          rw [HX.out, HY.out] at hT2
          go_roundw
          case rel => exact ⟨k + 1, by omega, by omega, by go_num, Lib.hid (by rw [HG.out, HL.out]; exact hT2)⟩
          case measure => simp [intOf]; omega
        · go_wp2_with fail
          go_meet
          exact ⟨k, hkn, hkn', HT⟩
      · go_wp2_with fail
        go_meet
        exact ⟨k, hkn, hkn', HT⟩
  obtain ⟨k, k1, k2, HT⟩ := hcut
  have gw := HT.out.grown
  obtain ⟨A1, d1, ev1, hn1⟩ := HT.out.a.nums (GL_i64 _ _)
  obtain ⟨A2, d2, ev2, hn2⟩ := HT.out.b.nums (CL_i64 _ _)
  rw [GL_len (by omega)] at ev1
  rw [CL_len (by omega)] at ev2
  subst ev1 ev2
  have G1 := HN.out _ (FG.out.trans gw)
  have G2 := HN'.out _ (FG.out.trans gw)
  have G3 := G2.take k
  have LG := Lib.hid (GL_len (l := gl) (k := k) (by omega))
  have LC := Lib.hid (CL_len (l := cl) (k := k) (by omega))
  have LK : Hid ((cl.take k).length = k) := Lib.hid (by rw [List.length_take]; have := HM2.out; omega)
  have gg := FG.out.trans gw
  have hR := FR.out _ gw
  clear HT FG FR HN HN'
  generalize GL gl k = xs at *
  generalize CL cl k = ys at *
  generalize cl.take k = zs at *
  go_upto_region 9 with fail
  go_cut [11] (fun v wx => ∃ B, v = .pointer (some ⟨B, 0, none⟩) ∧ Row wx B 42 #[.slice A m1 c, .slice A' m2 c', .slice A1 k d1, .slice A2 k d2, .slice A1 k d1, .slice A' k c'] ∧ wc.grownBy wx none)
  case first =>
    cases A' with
    | none =>
      obtain rfl := HA'.out rfl
      obtain rfl : m2 = 0 := by omega
      obtain rfl : k = 0 := by omega
      go_wp2_with fail
      go_meet
      exact ⟨_, rfl, Row.new _ _ _, World.grownBy_alloc _ _ none⟩
    | some ad =>
      go_wp2_with fail
      go_meet
      exact ⟨_, rfl, Row.new _ _ _, World.grownBy_alloc _ _ none⟩
  obtain ⟨BL, rfl, HL, g⟩ := hcut
  replace gg := gg.trans g
  replace hR := hR.kept g
  replace G1 := G1.kept g
  replace G2 := G2.kept g
  replace G3 := G3.kept g
  replace hn1 := hn1.kept g
  replace hn2 := hn2.kept g
  clear g gw
  have r0 : wc.cell? ⟨rb, 0, none⟩ = some (.int .i64 a) := hR.c 0 rfl
  have r1 : wc.cell? ⟨rb, 1, none⟩ = some (.int .i64 b) := hR.c 1 rfl
  have r2 : wc.cell? ⟨rb, 2, none⟩ = some (.int .i64 p) := hR.c 2 rfl
  have r3 : wc.cell? ⟨rb, 3, none⟩ = some (.int .i64 u) := hR.c 3 rfl
  have r4 : wc.cell? ⟨rb, 4, none⟩ = some (.int .i64 cc) := hR.c 4 rfl
  have r5 : wc.cell? ⟨rb, 5, none⟩ = some (.int .i64 d) := hR.c 5 rfl
  have r6 : wc.cell? ⟨rb, 6, none⟩ = some (.int .i64 r) := hR.c 6 rfl
  go_upto_region 10 with fail
  go_cut [12] (fun v wx => ∃ B x y z t, v = .pointer (some ⟨B, 0, none⟩) ∧ Row wx B 44 #[.int .i64 u, .int .i64 cc, .int .i64 d, .int .i64 r, .int .i64 x, .int .i64 y, .int .i64 z, .int .i64 t] ∧ wc.grownBy wx none)
  case first =>
    have KC := Lib.hid (conv_k u cc d r)
    generalize mk1 u = v1 at *
    generalize mk1 cc = v2 at *
    generalize mkD d = v3 at *
    generalize mkR r = v4 at *
    have gz : wc.grownBy wc.drew none := grown_dr (grown_refl _)
    refine wp_region_noPanic ?_
    refine wp_region_held_drew (S := (fun w' => wc.grownBy w' none)) (by kernel_rfl) ?_ (fun hHeld => ?_)
    · (try dsimp only); (repeat (first | assumption | exact grown_refl _ | refine grown_dr ?_ | refine grown_dn ?_ | refine grown_al ?_))
    refine wpAnyH_take (i := 0) (oi := _) (v := ?_) rfl (by kernel_rfl) (by kernel_rfl) (by kernel_rfl) (fun _ _ _ h => h) (Or.inl ⟨by rfl, ?_⟩) (by assumption) ?_
    rotate_left 1
    · (intro w hSw; (try dsimp only at hSw); go_simp; first | done | with_reducible rfl)
    try go_simp
    refine wpAnyH_take (i := 1) (oi := _) (v := .agg #[.int .i64 u, .int .i64 cc, .int .i64 d, .int .i64 r]) rfl (by kernel_rfl) (by kernel_rfl) (by kernel_rfl) (fun _ _ _ h => h) (Or.inl ⟨by kernel_rfl, ?_⟩) (by assumption) ?_
    · (intro w hSw; (try dsimp only at hSw); go_simp; have y0 := gcell hSw r3; have y1 := gcell hSw r4; have y2 := gcell hSw r5; have y3 := gcell hSw r6; clear hSw; go_simp; first | done | with_reducible rfl)
    try go_simp
    refine wpAnyH_take (i := 2) (oi := _) (v := ?_) rfl (by kernel_rfl) (by kernel_rfl) (by kernel_rfl) (fun _ _ _ h => h) (Or.inl ⟨by rfl, ?_⟩) (by assumption) ?_
    rotate_left 1
    · (intro w hSw; (try dsimp only at hSw); go_simp; first | done | with_reducible rfl)
    try go_simp
    refine wpAnyH_take (i := 3) (oi := _) (v := .agg #[.int .i64 u, .int .i64 cc, .int .i64 d, .int .i64 r]) rfl (by kernel_rfl) (by kernel_rfl) (by kernel_rfl) (fun _ _ _ h => h) (Or.inl ⟨by kernel_rfl, ?_⟩) (by assumption) ?_
    · (intro w hSw; (try dsimp only at hSw); go_simp; have y0 := gcell hSw r3; have y1 := gcell hSw r4; have y2 := gcell hSw r5; have y3 := gcell hSw r6; clear hSw; go_simp; first | done | with_reducible rfl)
    try go_simp
    refine wpAnyH_ready (rs := [4, 6]) (by kernel_rfl) (by simp) ?_
    refine AllReadyH.cons (o := _) rfl (fun K hK => ?_) ?_
    · clear hHeld
      go_simp
      refine (KC.out _).mono ?_
      rintro e wq1 ⟨rfl, g⟩
      replace gz := gz.trans g
      clear g
      first | (refine hK.out _ _ ?_ (fun hHeld => ?_)) | (go_wp2_with fail; refine hK.out _ _ ?_ (fun hHeld => ?_))
      · (try dsimp only); (repeat (first | assumption | exact grown_refl _ | refine grown_dr ?_ | refine grown_dn ?_ | refine grown_al ?_))
      clear hK K
      refine wpAnyH_take (i := 5) (oi := _) (v := .agg #[.int .i64 u, .int .i64 cc, .int .i64 d, .int .i64 r, .int .i64 v1, .int .i64 v2, .int .i64 v3, .int .i64 v4]) rfl (by kernel_rfl) (by kernel_rfl) (by kernel_rfl) (fun _ _ _ h => h) (Or.inl ⟨by kernel_rfl, ?_⟩) (by assumption) ?_
      · (intro w hSw; (try dsimp only at hSw); go_simp; first | done | with_reducible rfl)
      try go_simp
      refine wpAnyH_ready (rs := [6]) (by kernel_rfl) (by simp) ?_
      refine AllReadyH.cons (o := _) rfl (fun K hK => ?_) ?_
      · clear hHeld
        go_simp
        obtain ⟨wq2, ea, RA, g⟩ := row_of wq1 44 #[.int .i64 0, .int .i64 0, .int .i64 0, .int .i64 0, .int .i64 0, .int .i64 0, .int .i64 0, .int .i64 0]
        have hBRA : wc.heap.size ≤ wq1.heap.size := gz.size
        replace gz := gz.trans g
        clear g
        first | (refine hK.out _ _ ?_ (fun hHeld => ?_)) | (go_wp2_with fail; refine hK.out _ _ ?_ (fun hHeld => ?_))
        · (try dsimp only); (first | rw [← ea] | skip); exact gz
        clear hK K
        rw [← ea]
        clear ea hHeld
        have hHeld := gz
        refine wpAnyH_ready (rs := [7]) (by kernel_rfl) (by simp) ?_
        refine AllReadyH.cons (o := _) rfl (fun K hK => ?_) ?_
        · clear hHeld
          have k0 := RA.c 0 rfl
          have f0 := RA.fz 0
          have k1 := RA.c 1 rfl
          have f1 := RA.fz 1
          have k2 := RA.c 2 rfl
          have f2 := RA.fz 2
          have k3 := RA.c 3 rfl
          have f3 := RA.fz 3
          have k4 := RA.c 4 rfl
          have f4 := RA.fz 4
          have k5 := RA.c 5 rfl
          have f5 := RA.fz 5
          have k6 := RA.c 6 rfl
          have f6 := RA.fz 6
          have k7 := RA.c 7 rfl
          have f7 := RA.fz 7
          have hsz := RA.lt
          have gst := (grown_set (i := 7) (v := .int .i64 v4) (grown_set (i := 6) (v := .int .i64 v3) (grown_set (i := 5) (v := .int .i64 v2) (grown_set (i := 4) (v := .int .i64 v1) (grown_set (i := 3) (v := .int .i64 r) (grown_set (i := 2) (v := .int .i64 d) (grown_set (i := 1) (v := .int .i64 cc) (grown_set (i := 0) (v := .int .i64 u) gz (.inl hBRA)) (.inl hBRA)) (.inl hBRA)) (.inl hBRA)) (.inl hBRA)) (.inl hBRA)) (.inl hBRA)) (.inl hBRA))
          have RS := ((((((((RA.set 0 (.int .i64 u)).set 1 (.int .i64 cc)).set 2 (.int .i64 d)).set 3 (.int .i64 r)).set 4 (.int .i64 v1)).set 5 (.int .i64 v2)).set 6 (.int .i64 v3)).set 7 (.int .i64 v4))
          go_simp
          first | (refine hK.out _ _ ?_ (fun hHeld => ?_)) | (go_wp2_with fail; refine hK.out _ _ ?_ (fun hHeld => ?_))
          · (try dsimp only); exact gst
          clear hK K
          refine wpAnyH_done (by kernel_rfl) ?_ _
          refine NoPanic.normal ?_
          go_simp
          go_wp2_with fail
          go_meet
          exact ⟨_, _, _, _, _, rfl, RS, gst⟩
        exact AllReadyH.nil
      exact AllReadyH.nil
    refine AllReadyH.cons (o := _) rfl (fun K hK => ?_) ?_
    · clear hHeld
      go_simp
      obtain ⟨wq1, ea, RA, g⟩ := row_of wc 44 #[.int .i64 0, .int .i64 0, .int .i64 0, .int .i64 0, .int .i64 0, .int .i64 0, .int .i64 0, .int .i64 0]
      have gb : wc.drew.grownBy wq1.drew none := ⟨g.os, g.tape, g.output, g.size, g.block⟩
      have hBRA : wc.heap.size ≤ wc.heap.size := gz.size
      replace RA := RA.kept (grown_dr (grown_refl wq1))
      clear g
      have g := gb
      clear gb
      replace gz := gz.trans g
      clear g
      first | (refine hK.out _ _ ?_ (fun hHeld => ?_)) | (go_wp2_with fail; refine hK.out _ _ ?_ (fun hHeld => ?_))
      · (try dsimp only); (first | rw [← ea] | skip); exact gz
      clear hK K
      rw [← ea]
      clear ea hHeld
      have hHeld := gz
      refine wpAnyH_ready (rs := [4]) (by kernel_rfl) (by simp) ?_
      refine AllReadyH.cons (o := _) rfl (fun K hK => ?_) ?_
      · clear hHeld
        go_simp
        refine (KC.out _).mono ?_
        rintro e wq2 ⟨rfl, g⟩
        replace RA := RA.kept g
        replace gz := gz.trans g
        clear g
        first | (refine hK.out _ _ ?_ (fun hHeld => ?_)) | (go_wp2_with fail; refine hK.out _ _ ?_ (fun hHeld => ?_))
        · (try dsimp only); (repeat (first | assumption | exact grown_refl _ | refine grown_dr ?_ | refine grown_dn ?_ | refine grown_al ?_))
        clear hK K
        refine wpAnyH_take (i := 5) (oi := _) (v := .agg #[.int .i64 u, .int .i64 cc, .int .i64 d, .int .i64 r, .int .i64 v1, .int .i64 v2, .int .i64 v3, .int .i64 v4]) rfl (by kernel_rfl) (by kernel_rfl) (by kernel_rfl) (fun _ _ _ h => h) (Or.inl ⟨by kernel_rfl, ?_⟩) (by assumption) ?_
        · (intro w hSw; (try dsimp only at hSw); go_simp; first | done | with_reducible rfl)
        try go_simp
        refine wpAnyH_ready (rs := [7]) (by kernel_rfl) (by simp) ?_
        refine AllReadyH.cons (o := _) rfl (fun K hK => ?_) ?_
        · clear hHeld
          have k0 := RA.c 0 rfl
          have f0 := RA.fz 0
          have k1 := RA.c 1 rfl
          have f1 := RA.fz 1
          have k2 := RA.c 2 rfl
          have f2 := RA.fz 2
          have k3 := RA.c 3 rfl
          have f3 := RA.fz 3
          have k4 := RA.c 4 rfl
          have f4 := RA.fz 4
          have k5 := RA.c 5 rfl
          have f5 := RA.fz 5
          have k6 := RA.c 6 rfl
          have f6 := RA.fz 6
          have k7 := RA.c 7 rfl
          have f7 := RA.fz 7
          have hsz := RA.lt
          have gst := (grown_set (i := 7) (v := .int .i64 v4) (grown_set (i := 6) (v := .int .i64 v3) (grown_set (i := 5) (v := .int .i64 v2) (grown_set (i := 4) (v := .int .i64 v1) (grown_set (i := 3) (v := .int .i64 r) (grown_set (i := 2) (v := .int .i64 d) (grown_set (i := 1) (v := .int .i64 cc) (grown_set (i := 0) (v := .int .i64 u) gz (.inl hBRA)) (.inl hBRA)) (.inl hBRA)) (.inl hBRA)) (.inl hBRA)) (.inl hBRA)) (.inl hBRA)) (.inl hBRA))
          have RS := ((((((((RA.set 0 (.int .i64 u)).set 1 (.int .i64 cc)).set 2 (.int .i64 d)).set 3 (.int .i64 r)).set 4 (.int .i64 v1)).set 5 (.int .i64 v2)).set 6 (.int .i64 v3)).set 7 (.int .i64 v4))
          go_simp
          first | (refine hK.out _ _ ?_ (fun hHeld => ?_)) | (go_wp2_with fail; refine hK.out _ _ ?_ (fun hHeld => ?_))
          · (try dsimp only); exact gst
          clear hK K
          refine wpAnyH_done (by kernel_rfl) ?_ _
          refine NoPanic.normal ?_
          go_simp
          go_wp2_with fail
          go_meet
          exact ⟨_, _, _, _, _, rfl, RS, gst⟩
        exact AllReadyH.nil
      exact AllReadyH.nil
    exact AllReadyH.nil
  obtain ⟨BC, v1, v2, v3, v4, rfl, HC, g⟩ := hcut
  replace gg := gg.trans g
  replace HL := HL.kept g
  replace G1 := G1.kept g
  replace G2 := G2.kept g
  replace G3 := G3.kept g
  replace hn1 := hn1.kept g
  replace hn2 := hn2.kept g
  replace r0 := gcell g r0
  replace r1 := gcell g r1
  replace r2 := gcell g r2
  clear g r3 r4 r5 r6 hR
  go_upto_region 11 with fail
  go_cut [13] (fun v wx => ∃ B x y z, v = .pointer (some ⟨B, 0, none⟩) ∧ Row wx B 32 #[.int .i64 a, .int .i64 b, .int .i64 p, .int .i64 x, .int .i64 y, .int .i64 z] ∧ wc.grownBy wx none)
  case first =>
    have HI2 : Hid (∀ z ∈ [a, b, p], i64 z) := Lib.hid (by have := HI.out; simp; exact ⟨this.1, this.2.1, this.2.2⟩)
    have gz : wc.grownBy wc.drew none := grown_dr (grown_refl _)
    refine wp_region_noPanic ?_
    refine wp_region_held_drew (S := (fun w' => wc.grownBy w' none)) (by kernel_rfl) ?_ (fun hHeld => ?_)
    · (try dsimp only); (repeat (first | assumption | exact grown_refl _ | refine grown_dr ?_ | refine grown_dn ?_ | refine grown_al ?_))
    refine wpAnyH_take (i := 0) (oi := _) (v := ?_) rfl (by kernel_rfl) (by kernel_rfl) (by kernel_rfl) (fun _ _ _ h => h) (Or.inl ⟨by rfl, ?_⟩) (by assumption) ?_
    rotate_left 1
    · (intro w hSw; (try dsimp only at hSw); go_simp; first | done | with_reducible rfl)
    try go_simp
    refine wpAnyH_take (i := 1) (oi := _) (v := .agg #[.int .i64 a, .int .i64 b, .int .i64 p]) rfl (by kernel_rfl) (by kernel_rfl) (by kernel_rfl) (fun _ _ _ h => h) (Or.inl ⟨by kernel_rfl, ?_⟩) (by assumption) ?_
    · (intro w hSw; (try dsimp only at hSw); go_simp; have y0 := gcell hSw r0; have y1 := gcell hSw r1; have y2 := gcell hSw r2; clear hSw; go_simp; first | done | with_reducible rfl)
    try go_simp
    refine wpAnyH_take (i := 2) (oi := _) (v := ?_) rfl (by kernel_rfl) (by kernel_rfl) (by kernel_rfl) (fun _ _ _ h => h) (Or.inl ⟨by rfl, ?_⟩) (by assumption) ?_
    rotate_left 1
    · (intro w hSw; (try dsimp only at hSw); go_simp; first | done | with_reducible rfl)
    try go_simp
    refine wpAnyH_take (i := 3) (oi := _) (v := ?_) rfl (by kernel_rfl) (by kernel_rfl) (by kernel_rfl) (fun _ _ _ h => h) (Or.inl ⟨by rfl, ?_⟩) (by assumption) ?_
    rotate_left 1
    · (intro w hSw; (try dsimp only at hSw); go_simp; first | done | with_reducible rfl)
    try go_simp
    refine wpAnyH_take (i := 4) (oi := _) (v := .int .i64 a) rfl (by kernel_rfl) (by kernel_rfl) (by kernel_rfl) (fun _ _ _ h => h) (Or.inl ⟨by kernel_rfl, ?_⟩) (by assumption) ?_
    · (intro w hSw; (try dsimp only at hSw); go_simp; have y0 := gcell hSw r0; clear hSw; go_simp; first | done | with_reducible rfl)
    try go_simp
    refine wpAnyH_take (i := 5) (oi := _) (v := ?_) rfl (by kernel_rfl) (by kernel_rfl) (by kernel_rfl) (fun _ _ _ h => h) (Or.inl ⟨by rfl, ?_⟩) (by assumption) ?_
    rotate_left 1
    · (intro w hSw; (try dsimp only at hSw); go_simp; first | done | with_reducible rfl)
    try go_simp
    refine wpAnyH_take (i := 6) (oi := _) (v := ?_) rfl (by kernel_rfl) (by kernel_rfl) (by kernel_rfl) (fun _ _ _ h => h) (Or.inl ⟨by rfl, ?_⟩) (by assumption) ?_
    rotate_left 1
    · (intro w hSw; (try dsimp only at hSw); go_simp; first | done | with_reducible rfl)
    try go_simp
    refine wpAnyH_take (i := 7) (oi := _) (v := .int .i64 b) rfl (by kernel_rfl) (by kernel_rfl) (by kernel_rfl) (fun _ _ _ h => h) (Or.inl ⟨by kernel_rfl, ?_⟩) (by assumption) ?_
    · (intro w hSw; (try dsimp only at hSw); go_simp; have y0 := gcell hSw r1; clear hSw; go_simp; first | done | with_reducible rfl)
    try go_simp
    refine wpAnyH_take (i := 8) (oi := _) (v := ?_) rfl (by kernel_rfl) (by kernel_rfl) (by kernel_rfl) (fun _ _ _ h => h) (Or.inl ⟨by rfl, ?_⟩) (by assumption) ?_
    rotate_left 1
    · (intro w hSw; (try dsimp only at hSw); go_simp; first | done | with_reducible rfl)
    try go_simp
    refine wpAnyH_take (i := 9) (oi := _) (v := ?_) rfl (by kernel_rfl) (by kernel_rfl) (by kernel_rfl) (fun _ _ _ h => h) (Or.inl ⟨by rfl, ?_⟩) (by assumption) ?_
    rotate_left 1
    · (intro w hSw; (try dsimp only at hSw); go_simp; first | done | with_reducible rfl)
    try go_simp
    refine wpAnyH_take (i := 10) (oi := _) (v := .int .i64 p) rfl (by kernel_rfl) (by kernel_rfl) (by kernel_rfl) (fun _ _ _ h => h) (Or.inl ⟨by kernel_rfl, ?_⟩) (by assumption) ?_
    · (intro w hSw; (try dsimp only at hSw); go_simp; have y0 := gcell hSw r2; clear hSw; go_simp; first | done | with_reducible rfl)
    try go_simp
    refine wpAnyH_ready (rs := [11, 14]) (by kernel_rfl) (by simp) ?_
    refine AllReadyH.cons (o := _) rfl (fun K hK => ?_) ?_
    · clear hHeld
      go_simp
      obtain ⟨wq1, ea, RB, g⟩ := row_of wc 3 #[.int .i64 a, .int .i64 b, .int .i64 p]
      have gb : wc.drew.grownBy wq1.drew none := ⟨g.os, g.tape, g.output, g.size, g.block⟩
      have hBRB : wc.heap.size ≤ wc.heap.size := gz.size
      replace RB := RB.kept (grown_dr (grown_refl wq1))
      clear g
      have g := gb
      clear gb
      replace gz := gz.trans g
      clear g
      first | (refine hK.out _ _ ?_ (fun hHeld => ?_)) | (go_wp2_with fail; refine hK.out _ _ ?_ (fun hHeld => ?_))
      · (try dsimp only); (first | rw [← ea] | skip); exact gz
      clear hK K
      rw [← ea]
      clear ea hHeld
      have hHeld := gz
      refine wpAnyH_ready (rs := [12, 14]) (by kernel_rfl) (by simp) ?_
      refine AllReadyH.cons (o := _) rfl (fun K hK => ?_) ?_
      · clear hHeld
        go_simp
        refine (made_k (some ⟨wc.heap.size, 0, none⟩) 3 3 [a, b, p] _ rfl (by unfold maxLen; decide) (nums_row RB HI2.out)).mono ?_
        rintro e wq2 ⟨x, y, z, _, rfl, g⟩
        replace RB := RB.kept g
        replace gz := gz.trans g
        clear g
        first | (refine hK.out _ _ ?_ (fun hHeld => ?_)) | (go_wp2_with fail; refine hK.out _ _ ?_ (fun hHeld => ?_))
        · (try dsimp only); (repeat (first | assumption | exact grown_refl _ | refine grown_dr ?_ | refine grown_dn ?_ | refine grown_al ?_))
        clear hK K
        refine wpAnyH_take (i := 13) (oi := _) (v := .agg #[.int .i64 a, .int .i64 b, .int .i64 p, .int .i64 x, .int .i64 y, .int .i64 z]) rfl (by kernel_rfl) (by kernel_rfl) (by kernel_rfl) (fun _ _ _ h => h) (Or.inl ⟨by kernel_rfl, ?_⟩) (by assumption) ?_
        · (intro w hSw; (try dsimp only at hSw); go_simp; first | done | with_reducible rfl)
        try go_simp
        refine wpAnyH_ready (rs := [14]) (by kernel_rfl) (by simp) ?_
        refine AllReadyH.cons (o := _) rfl (fun K hK => ?_) ?_
        · clear hHeld
          go_simp
          obtain ⟨wq3, ea, RA, g⟩ := row_of wq2 32 #[.int .i64 0, .int .i64 0, .int .i64 0, .int .i64 0, .int .i64 0, .int .i64 0]
          have hBRA : wc.heap.size ≤ wq2.heap.size := gz.size
          replace RB := RB.kept g
          replace gz := gz.trans g
          clear g
          first | (refine hK.out _ _ ?_ (fun hHeld => ?_)) | (go_wp2_with fail; refine hK.out _ _ ?_ (fun hHeld => ?_))
          · (try dsimp only); (first | rw [← ea] | skip); exact gz
          clear hK K
          rw [← ea]
          clear ea hHeld
          have hHeld := gz
          refine wpAnyH_ready (rs := [15]) (by kernel_rfl) (by simp) ?_
          refine AllReadyH.cons (o := _) rfl (fun K hK => ?_) ?_
          · clear hHeld
            have k0 := RA.c 0 rfl
            have f0 := RA.fz 0
            have k1 := RA.c 1 rfl
            have f1 := RA.fz 1
            have k2 := RA.c 2 rfl
            have f2 := RA.fz 2
            have k3 := RA.c 3 rfl
            have f3 := RA.fz 3
            have k4 := RA.c 4 rfl
            have f4 := RA.fz 4
            have k5 := RA.c 5 rfl
            have f5 := RA.fz 5
            have hsz := RA.lt
            have gst := (grown_set (i := 5) (v := .int .i64 z) (grown_set (i := 4) (v := .int .i64 y) (grown_set (i := 3) (v := .int .i64 x) (grown_set (i := 2) (v := .int .i64 p) (grown_set (i := 1) (v := .int .i64 b) (grown_set (i := 0) (v := .int .i64 a) gz (.inl hBRA)) (.inl hBRA)) (.inl hBRA)) (.inl hBRA)) (.inl hBRA)) (.inl hBRA))
            have RS := ((((((RA.set 0 (.int .i64 a)).set 1 (.int .i64 b)).set 2 (.int .i64 p)).set 3 (.int .i64 x)).set 4 (.int .i64 y)).set 5 (.int .i64 z))
            go_simp
            first | (refine hK.out _ _ ?_ (fun hHeld => ?_)) | (go_wp2_with fail; refine hK.out _ _ ?_ (fun hHeld => ?_))
            · (try dsimp only); exact gst
            clear hK K
            refine wpAnyH_done (by kernel_rfl) ?_ _
            refine NoPanic.normal ?_
            go_simp
            go_wp2_with fail
            go_meet
            exact ⟨_, _, _, _, rfl, RS, gst⟩
          exact AllReadyH.nil
        exact AllReadyH.nil
      refine AllReadyH.cons (o := _) rfl (fun K hK => ?_) ?_
      · clear hHeld
        go_simp
        obtain ⟨wq2, ea, RA, g⟩ := row_of wq1 32 #[.int .i64 0, .int .i64 0, .int .i64 0, .int .i64 0, .int .i64 0, .int .i64 0]
        have gb : wq1.drew.grownBy wq2.drew none := ⟨g.os, g.tape, g.output, g.size, g.block⟩
        have hBRA : wc.heap.size ≤ wq1.heap.size := gz.size
        replace RA := RA.kept (grown_dr (grown_refl wq2))
        clear g
        have g := gb
        clear gb
        replace RB := RB.kept g
        replace gz := gz.trans g
        clear g
        first | (refine hK.out _ _ ?_ (fun hHeld => ?_)) | (go_wp2_with fail; refine hK.out _ _ ?_ (fun hHeld => ?_))
        · (try dsimp only); (first | rw [← ea] | skip); exact gz
        clear hK K
        rw [← ea]
        clear ea hHeld
        have hHeld := gz
        refine wpAnyH_ready (rs := [12]) (by kernel_rfl) (by simp) ?_
        refine AllReadyH.cons (o := _) rfl (fun K hK => ?_) ?_
        · clear hHeld
          go_simp
          refine (made_k (some ⟨wc.heap.size, 0, none⟩) 3 3 [a, b, p] _ rfl (by unfold maxLen; decide) (nums_row RB HI2.out)).mono ?_
          rintro e wq3 ⟨x, y, z, _, rfl, g⟩
          replace RB := RB.kept g
          replace RA := RA.kept g
          replace gz := gz.trans g
          clear g
          first | (refine hK.out _ _ ?_ (fun hHeld => ?_)) | (go_wp2_with fail; refine hK.out _ _ ?_ (fun hHeld => ?_))
          · (try dsimp only); (repeat (first | assumption | exact grown_refl _ | refine grown_dr ?_ | refine grown_dn ?_ | refine grown_al ?_))
          clear hK K
          refine wpAnyH_take (i := 13) (oi := _) (v := .agg #[.int .i64 a, .int .i64 b, .int .i64 p, .int .i64 x, .int .i64 y, .int .i64 z]) rfl (by kernel_rfl) (by kernel_rfl) (by kernel_rfl) (fun _ _ _ h => h) (Or.inl ⟨by kernel_rfl, ?_⟩) (by assumption) ?_
          · (intro w hSw; (try dsimp only at hSw); go_simp; first | done | with_reducible rfl)
          try go_simp
          refine wpAnyH_ready (rs := [15]) (by kernel_rfl) (by simp) ?_
          refine AllReadyH.cons (o := _) rfl (fun K hK => ?_) ?_
          · clear hHeld
            have k0 := RA.c 0 rfl
            have f0 := RA.fz 0
            have k1 := RA.c 1 rfl
            have f1 := RA.fz 1
            have k2 := RA.c 2 rfl
            have f2 := RA.fz 2
            have k3 := RA.c 3 rfl
            have f3 := RA.fz 3
            have k4 := RA.c 4 rfl
            have f4 := RA.fz 4
            have k5 := RA.c 5 rfl
            have f5 := RA.fz 5
            have hsz := RA.lt
            have gst := (grown_set (i := 5) (v := .int .i64 z) (grown_set (i := 4) (v := .int .i64 y) (grown_set (i := 3) (v := .int .i64 x) (grown_set (i := 2) (v := .int .i64 p) (grown_set (i := 1) (v := .int .i64 b) (grown_set (i := 0) (v := .int .i64 a) gz (.inl hBRA)) (.inl hBRA)) (.inl hBRA)) (.inl hBRA)) (.inl hBRA)) (.inl hBRA))
            have RS := ((((((RA.set 0 (.int .i64 a)).set 1 (.int .i64 b)).set 2 (.int .i64 p)).set 3 (.int .i64 x)).set 4 (.int .i64 y)).set 5 (.int .i64 z))
            go_simp
            first | (refine hK.out _ _ ?_ (fun hHeld => ?_)) | (go_wp2_with fail; refine hK.out _ _ ?_ (fun hHeld => ?_))
            · (try dsimp only); exact gst
            clear hK K
            refine wpAnyH_done (by kernel_rfl) ?_ _
            refine NoPanic.normal ?_
            go_simp
            go_wp2_with fail
            go_meet
            exact ⟨_, _, _, _, rfl, RS, gst⟩
          exact AllReadyH.nil
        exact AllReadyH.nil
      exact AllReadyH.nil
    refine AllReadyH.cons (o := _) rfl (fun K hK => ?_) ?_
    · clear hHeld
      go_simp
      obtain ⟨wq1, ea, RA, g⟩ := row_of wc 32 #[.int .i64 0, .int .i64 0, .int .i64 0, .int .i64 0, .int .i64 0, .int .i64 0]
      have gb : wc.drew.grownBy wq1.drew none := ⟨g.os, g.tape, g.output, g.size, g.block⟩
      have hBRA : wc.heap.size ≤ wc.heap.size := gz.size
      replace RA := RA.kept (grown_dr (grown_refl wq1))
      clear g
      have g := gb
      clear gb
      replace gz := gz.trans g
      clear g
      first | (refine hK.out _ _ ?_ (fun hHeld => ?_)) | (go_wp2_with fail; refine hK.out _ _ ?_ (fun hHeld => ?_))
      · (try dsimp only); (first | rw [← ea] | skip); exact gz
      clear hK K
      rw [← ea]
      clear ea hHeld
      have hHeld := gz
      refine wpAnyH_ready (rs := [11]) (by kernel_rfl) (by simp) ?_
      refine AllReadyH.cons (o := _) rfl (fun K hK => ?_) ?_
      · clear hHeld
        go_simp
        obtain ⟨wq2, ea, RB, g⟩ := row_of wq1 3 #[.int .i64 a, .int .i64 b, .int .i64 p]
        have gb : wq1.drew.grownBy wq2.drew none := ⟨g.os, g.tape, g.output, g.size, g.block⟩
        have hBRB : wc.heap.size ≤ wq1.heap.size := gz.size
        replace RB := RB.kept (grown_dr (grown_refl wq2))
        clear g
        have g := gb
        clear gb
        replace RA := RA.kept g
        replace gz := gz.trans g
        clear g
        first | (refine hK.out _ _ ?_ (fun hHeld => ?_)) | (go_wp2_with fail; refine hK.out _ _ ?_ (fun hHeld => ?_))
        · (try dsimp only); (first | rw [← ea] | skip); exact gz
        clear hK K
        rw [← ea]
        clear ea hHeld
        have hHeld := gz
        refine wpAnyH_ready (rs := [12]) (by kernel_rfl) (by simp) ?_
        refine AllReadyH.cons (o := _) rfl (fun K hK => ?_) ?_
        · clear hHeld
          go_simp
          refine (made_k (some ⟨wq1.heap.size, 0, none⟩) 3 3 [a, b, p] _ rfl (by unfold maxLen; decide) (nums_row RB HI2.out)).mono ?_
          rintro e wq3 ⟨x, y, z, _, rfl, g⟩
          replace RA := RA.kept g
          replace RB := RB.kept g
          replace gz := gz.trans g
          clear g
          first | (refine hK.out _ _ ?_ (fun hHeld => ?_)) | (go_wp2_with fail; refine hK.out _ _ ?_ (fun hHeld => ?_))
          · (try dsimp only); (repeat (first | assumption | exact grown_refl _ | refine grown_dr ?_ | refine grown_dn ?_ | refine grown_al ?_))
          clear hK K
          refine wpAnyH_take (i := 13) (oi := _) (v := .agg #[.int .i64 a, .int .i64 b, .int .i64 p, .int .i64 x, .int .i64 y, .int .i64 z]) rfl (by kernel_rfl) (by kernel_rfl) (by kernel_rfl) (fun _ _ _ h => h) (Or.inl ⟨by kernel_rfl, ?_⟩) (by assumption) ?_
          · (intro w hSw; (try dsimp only at hSw); go_simp; first | done | with_reducible rfl)
          try go_simp
          refine wpAnyH_ready (rs := [15]) (by kernel_rfl) (by simp) ?_
          refine AllReadyH.cons (o := _) rfl (fun K hK => ?_) ?_
          · clear hHeld
            have k0 := RA.c 0 rfl
            have f0 := RA.fz 0
            have k1 := RA.c 1 rfl
            have f1 := RA.fz 1
            have k2 := RA.c 2 rfl
            have f2 := RA.fz 2
            have k3 := RA.c 3 rfl
            have f3 := RA.fz 3
            have k4 := RA.c 4 rfl
            have f4 := RA.fz 4
            have k5 := RA.c 5 rfl
            have f5 := RA.fz 5
            have hsz := RA.lt
            have gst := (grown_set (i := 5) (v := .int .i64 z) (grown_set (i := 4) (v := .int .i64 y) (grown_set (i := 3) (v := .int .i64 x) (grown_set (i := 2) (v := .int .i64 p) (grown_set (i := 1) (v := .int .i64 b) (grown_set (i := 0) (v := .int .i64 a) gz (.inl hBRA)) (.inl hBRA)) (.inl hBRA)) (.inl hBRA)) (.inl hBRA)) (.inl hBRA))
            have RS := ((((((RA.set 0 (.int .i64 a)).set 1 (.int .i64 b)).set 2 (.int .i64 p)).set 3 (.int .i64 x)).set 4 (.int .i64 y)).set 5 (.int .i64 z))
            go_simp
            first | (refine hK.out _ _ ?_ (fun hHeld => ?_)) | (go_wp2_with fail; refine hK.out _ _ ?_ (fun hHeld => ?_))
            · (try dsimp only); exact gst
            clear hK K
            refine wpAnyH_done (by kernel_rfl) ?_ _
            refine NoPanic.normal ?_
            go_simp
            go_wp2_with fail
            go_meet
            exact ⟨_, _, _, _, rfl, RS, gst⟩
          exact AllReadyH.nil
        exact AllReadyH.nil
      exact AllReadyH.nil
    exact AllReadyH.nil
  obtain ⟨BS, x, y, z, rfl, HS, g⟩ := hcut
  replace gg := gg.trans g
  replace HL := HL.kept g
  replace HC := HC.kept g
  replace G1 := G1.kept g
  replace G2 := G2.kept g
  replace G3 := G3.kept g
  replace hn1 := hn1.kept g
  replace hn2 := hn2.kept g
  clear g r0 r1 r2
  have FP : Hid (∀ V, wc.grownBy V none → ∀ j, j < 3 → PairAt V BL j) := Lib.hid (fun V g j hj => by
    have hl := HL.kept g
    rcases (show j = 0 ∨ j = 1 ∨ j = 2 by omega) with rfl | rfl | rfl
    · exact ⟨A, A', m1, m2, c, c', gl, cl, hl.c 0 rfl, hl.c 1 rfl, HM1.out.symm, HM2.out.symm, by unfold maxLen; omega, by unfold maxLen; omega, G1.kept g, G2.kept g⟩
    · exact ⟨A1, A2, k, k, d1, d2, xs, ys, hl.c 2 rfl, hl.c 3 rfl, LG.out.symm, LC.out.symm, by unfold maxLen; omega, by unfold maxLen; omega, hn1.kept g, hn2.kept g⟩
    · exact ⟨A1, A', k, k, d1, c', xs, zs, hl.c 4 rfl, hl.c 5 rfl, LG.out.symm, LK.out.symm, by unfold maxLen; omega, by unfold maxLen; omega, hn1.kept g, G3.kept g⟩)
  have FC := Lib.hid (fun V (g : wc.grownBy V none) => HC.kept g)
  have FS := Lib.hid (fun V (g : wc.grownBy V none) => HS.kept g)
  clear HL HC HS G1 G2 G3 hn1 hn2 LG LC LK HM1 HM2 HI HA'
  generalize wc = W0 at *
  go_wp2_with fail
  go_loopw [14] (fun i wr => ∃ j : Nat, j ≤ 3 ∧ i = .int .i64 j ∧ W0.grownBy wr none) (fun i _ => 3 - (intOf i).toNat)
  case atStart => exact ⟨0, by omega, rfl, grown_refl _⟩
  case round =>
    obtain ⟨j, hj, rfl, gw⟩ := hrel
    generalize wr = wo at *
    by_cases hlt : j < 3
    · go_upto_region 15 with fail
      obtain ⟨B1, B2, n1, n2, e1, e2, gs, cs, x1, x2, hn1, hn2, hm1, hm2, N1, N2⟩ := FP.out _ gw j hlt
      have KM := Lib.hid (fun V (g : wo.grownBy V none) => mean_k gs cs B1 B2 n1 n2 e1 e2 V hn1 hn2 hm1 hm2 (N1.kept g) (N2.kept g))
      have KR := Lib.hid (fun V (g : wo.grownBy V none) => mean_r gs cs B1 B2 n1 n2 e1 e2 V hn1 hn2 hm1 hm2 (N1.kept g) (N2.kept g))
      have KC := Lib.hid (fun (u a d r x y p : Int) V (g : wo.grownBy V none) => convert_k u a d r x y p gs cs B1 B2 n1 n2 e1 e2 V hn1 hn2 hm1 hm2 (N1.kept g) (N2.kept g))
      have KD := Lib.hid (fun (u a d r x y p : Int) V (g : wo.grownBy V none) => convert_r u a d r x y p gs cs B1 B2 n1 n2 e1 e2 V hn1 hn2 hm1 hm2 (N1.kept g) (N2.kept g))
      clear hn1 hn2 hm1 hm2 N1 N2
      generalize mN gs cs = mn at *
      generalize mD gs cs = md at *
      generalize mE gs cs = me at *
      go_cut [15, 16] (fun v e wx => ∃ B, v = .pointer (some ⟨B, 0, none⟩) ∧ e = .int .i64 me ∧ R2 wx B mn md ∧ wo.grownBy wx none)
      case first =>
        have gz : wo.grownBy wo.drew none := grown_dr (grown_refl _)
        refine wp_region_noPanic ?_
        refine wp_region_held_drew (S := (fun w' => wo.grownBy w' none)) (by kernel_rfl) ?_ (fun hHeld => ?_)
        · (try dsimp only); (repeat (first | assumption | exact grown_refl _ | refine grown_dr ?_ | refine grown_dn ?_ | refine grown_al ?_))
        refine wpAnyH_take (i := 0) (oi := _) (v := ?_) rfl (by kernel_rfl) (by kernel_rfl) (by kernel_rfl) (fun _ _ _ h => h) (Or.inl ⟨by rfl, ?_⟩) (by assumption) ?_
        rotate_left 1
        · (intro w hSw; (try dsimp only at hSw); go_simp; first | done | with_reducible rfl)
        try go_simp
        refine wpAnyH_take (i := 1) (oi := _) (v := ?_) rfl (by kernel_rfl) (by kernel_rfl) (by kernel_rfl) (fun _ _ _ h => h) (Or.inl ⟨by rfl, ?_⟩) (by assumption) ?_
        rotate_left 1
        · (intro w hSw; (try dsimp only at hSw); go_simp; first | done | with_reducible rfl)
        try go_simp
        refine wpAnyH_take (i := 2) (oi := _) (v := ?_) rfl (by kernel_rfl) (by kernel_rfl) (by kernel_rfl) (fun _ _ _ h => h) (Or.inl ⟨by rfl, ?_⟩) (by assumption) ?_
        rotate_left 1
        · (intro w hSw; (try dsimp only at hSw); go_simp; first | done | with_reducible rfl)
        try go_simp
        refine wpAnyH_take (i := 3) (oi := _) (v := .slice B1 n1 e1) rfl (by kernel_rfl) (by kernel_rfl) (by kernel_rfl) (fun _ _ _ h => h) (Or.inl ⟨by kernel_rfl, ?_⟩) (by assumption) ?_
        · (intro w hSw; (try dsimp only at hSw); go_simp; have y0 := gcell hSw x1; clear hSw; go_simp; first | done | with_reducible rfl)
        try go_simp
        refine wpAnyH_take (i := 4) (oi := _) (v := ?_) rfl (by kernel_rfl) (by kernel_rfl) (by kernel_rfl) (fun _ _ _ h => h) (Or.inl ⟨by rfl, ?_⟩) (by assumption) ?_
        rotate_left 1
        · (intro w hSw; (try dsimp only at hSw); go_simp; first | done | with_reducible rfl)
        try go_simp
        refine wpAnyH_take (i := 5) (oi := _) (v := ?_) rfl (by kernel_rfl) (by kernel_rfl) (by kernel_rfl) (fun _ _ _ h => h) (Or.inl ⟨by rfl, ?_⟩) (by assumption) ?_
        rotate_left 1
        · (intro w hSw; (try dsimp only at hSw); go_simp; first | done | with_reducible rfl)
        try go_simp
        refine wpAnyH_take (i := 6) (oi := _) (v := ?_) rfl (by kernel_rfl) (by kernel_rfl) (by kernel_rfl) (fun _ _ _ h => h) (Or.inl ⟨by rfl, ?_⟩) (by assumption) ?_
        rotate_left 1
        · (intro w hSw; (try dsimp only at hSw); go_simp; first | done | with_reducible rfl)
        try go_simp
        refine wpAnyH_take (i := 7) (oi := _) (v := .slice B2 n2 e2) rfl (by kernel_rfl) (by kernel_rfl) (by kernel_rfl) (fun _ _ _ h => h) (Or.inl ⟨by kernel_rfl, ?_⟩) (by assumption) ?_
        · (intro w hSw; (try dsimp only at hSw); go_simp; have y0 := gcell hSw x2; clear hSw; go_simp; first | done | with_reducible rfl)
        try go_simp
        refine wpAnyH_ready (rs := [8, 12]) (by kernel_rfl) (by simp) ?_
        refine AllReadyH.cons (o := _) rfl (fun K hK => ?_) ?_
        · clear hHeld
          go_simp
          refine (KM.out _ gz).mono ?_
          rintro e wq1 ⟨rfl, g⟩
          replace gz := gz.trans g
          clear g
          first | (refine hK.out _ _ ?_ (fun hHeld => ?_)) | (go_wp2_with fail; refine hK.out _ _ ?_ (fun hHeld => ?_))
          · (try dsimp only); (repeat (first | assumption | exact grown_refl _ | refine grown_dr ?_ | refine grown_dn ?_ | refine grown_al ?_))
          clear hK K
          refine wpAnyH_take (i := 9) (oi := _) (v := ?_) rfl (by kernel_rfl) (by kernel_rfl) (by kernel_rfl) (fun _ _ _ h => h) (Or.inl ⟨by rfl, ?_⟩) (by assumption) ?_
          rotate_left 1
          · (intro w hSw; (try dsimp only at hSw); go_simp; first | done | with_reducible rfl)
          try go_simp
          refine wpAnyH_take (i := 10) (oi := _) (v := ?_) rfl (by kernel_rfl) (by kernel_rfl) (by kernel_rfl) (fun _ _ _ h => h) (Or.inl ⟨by rfl, ?_⟩) (by assumption) ?_
          rotate_left 1
          · (intro w hSw; (try dsimp only at hSw); go_simp; first | done | with_reducible rfl)
          try go_simp
          refine wpAnyH_take (i := 11) (oi := _) (v := ?_) rfl (by kernel_rfl) (by kernel_rfl) (by kernel_rfl) (fun _ _ _ h => h) (Or.inl ⟨by rfl, ?_⟩) (by assumption) ?_
          rotate_left 1
          · (intro w hSw; (try dsimp only at hSw); go_simp; first | done | with_reducible rfl)
          try go_simp
          refine wpAnyH_ready (rs := [12]) (by kernel_rfl) (by simp) ?_
          refine AllReadyH.cons (o := _) rfl (fun K hK => ?_) ?_
          · clear hHeld
            go_simp
            obtain ⟨wq2, ea, RA, g⟩ := row_of wq1 46 #[.int .i64 0, .int .i64 0]
            have hBRA : wo.heap.size ≤ wq1.heap.size := gz.size
            replace gz := gz.trans g
            clear g
            first | (refine hK.out _ _ ?_ (fun hHeld => ?_)) | (go_wp2_with fail; refine hK.out _ _ ?_ (fun hHeld => ?_))
            · (try dsimp only); (first | rw [← ea] | skip); exact gz
            clear hK K
            rw [← ea]
            clear ea hHeld
            have hHeld := gz
            refine wpAnyH_ready (rs := [13]) (by kernel_rfl) (by simp) ?_
            refine AllReadyH.cons (o := _) rfl (fun K hK => ?_) ?_
            · clear hHeld
              have k0 := RA.c 0 rfl
              have f0 := RA.fz 0
              have k1 := RA.c 1 rfl
              have f1 := RA.fz 1
              have hsz := RA.lt
              have gst := (grown_set (i := 1) (v := .int .i64 md) (grown_set (i := 0) (v := .int .i64 mn) gz (.inl hBRA)) (.inl hBRA))
              have RS := ((RA.set 0 (.int .i64 mn)).set 1 (.int .i64 md))
              go_simp
              first | (refine hK.out _ _ ?_ (fun hHeld => ?_)) | (go_wp2_with fail; refine hK.out _ _ ?_ (fun hHeld => ?_))
              · (try dsimp only); exact gst
              clear hK K
              refine wpAnyH_take (i := 14) (oi := _) (v := ?_) rfl (by kernel_rfl) (by kernel_rfl) (by kernel_rfl) (fun _ _ _ h => h) (Or.inl ⟨by rfl, ?_⟩) (by assumption) ?_
              rotate_left 1
              · (intro w hSw; (try dsimp only at hSw); go_simp; first | done | with_reducible rfl)
              try go_simp
              refine wpAnyH_done (by kernel_rfl) ?_ _
              refine NoPanic.normal ?_
              go_simp
              go_wp2_with fail
              go_meet
              exact ⟨_, rfl, rfl, RS, gst⟩
            exact AllReadyH.nil
          exact AllReadyH.nil
        refine AllReadyH.cons (o := _) rfl (fun K hK => ?_) ?_
        · clear hHeld
          go_simp
          obtain ⟨wq1, ea, RA, g⟩ := row_of wo 46 #[.int .i64 0, .int .i64 0]
          have gb : wo.drew.grownBy wq1.drew none := ⟨g.os, g.tape, g.output, g.size, g.block⟩
          have hBRA : wo.heap.size ≤ wo.heap.size := gz.size
          replace RA := RA.kept (grown_dr (grown_refl wq1))
          clear g
          have g := gb
          clear gb
          replace gz := gz.trans g
          clear g
          first | (refine hK.out _ _ ?_ (fun hHeld => ?_)) | (go_wp2_with fail; refine hK.out _ _ ?_ (fun hHeld => ?_))
          · (try dsimp only); (first | rw [← ea] | skip); exact gz
          clear hK K
          rw [← ea]
          clear ea hHeld
          have hHeld := gz
          refine wpAnyH_ready (rs := [8]) (by kernel_rfl) (by simp) ?_
          refine AllReadyH.cons (o := _) rfl (fun K hK => ?_) ?_
          · clear hHeld
            go_simp
            refine (KM.out _ gz).mono ?_
            rintro e wq2 ⟨rfl, g⟩
            replace RA := RA.kept g
            replace gz := gz.trans g
            clear g
            first | (refine hK.out _ _ ?_ (fun hHeld => ?_)) | (go_wp2_with fail; refine hK.out _ _ ?_ (fun hHeld => ?_))
            · (try dsimp only); (repeat (first | assumption | exact grown_refl _ | refine grown_dr ?_ | refine grown_dn ?_ | refine grown_al ?_))
            clear hK K
            refine wpAnyH_take (i := 9) (oi := _) (v := ?_) rfl (by kernel_rfl) (by kernel_rfl) (by kernel_rfl) (fun _ _ _ h => h) (Or.inl ⟨by rfl, ?_⟩) (by assumption) ?_
            rotate_left 1
            · (intro w hSw; (try dsimp only at hSw); go_simp; first | done | with_reducible rfl)
            try go_simp
            refine wpAnyH_take (i := 10) (oi := _) (v := ?_) rfl (by kernel_rfl) (by kernel_rfl) (by kernel_rfl) (fun _ _ _ h => h) (Or.inl ⟨by rfl, ?_⟩) (by assumption) ?_
            rotate_left 1
            · (intro w hSw; (try dsimp only at hSw); go_simp; first | done | with_reducible rfl)
            try go_simp
            refine wpAnyH_take (i := 11) (oi := _) (v := ?_) rfl (by kernel_rfl) (by kernel_rfl) (by kernel_rfl) (fun _ _ _ h => h) (Or.inl ⟨by rfl, ?_⟩) (by assumption) ?_
            rotate_left 1
            · (intro w hSw; (try dsimp only at hSw); go_simp; first | done | with_reducible rfl)
            try go_simp
            refine wpAnyH_ready (rs := [13]) (by kernel_rfl) (by simp) ?_
            refine AllReadyH.cons (o := _) rfl (fun K hK => ?_) ?_
            · clear hHeld
              have k0 := RA.c 0 rfl
              have f0 := RA.fz 0
              have k1 := RA.c 1 rfl
              have f1 := RA.fz 1
              have hsz := RA.lt
              have gst := (grown_set (i := 1) (v := .int .i64 md) (grown_set (i := 0) (v := .int .i64 mn) gz (.inl hBRA)) (.inl hBRA))
              have RS := ((RA.set 0 (.int .i64 mn)).set 1 (.int .i64 md))
              go_simp
              first | (refine hK.out _ _ ?_ (fun hHeld => ?_)) | (go_wp2_with fail; refine hK.out _ _ ?_ (fun hHeld => ?_))
              · (try dsimp only); exact gst
              clear hK K
              refine wpAnyH_take (i := 14) (oi := _) (v := ?_) rfl (by kernel_rfl) (by kernel_rfl) (by kernel_rfl) (fun _ _ _ h => h) (Or.inl ⟨by rfl, ?_⟩) (by assumption) ?_
              rotate_left 1
              · (intro w hSw; (try dsimp only at hSw); go_simp; first | done | with_reducible rfl)
              try go_simp
              refine wpAnyH_done (by kernel_rfl) ?_ _
              refine NoPanic.normal ?_
              go_simp
              go_wp2_with fail
              go_meet
              exact ⟨_, rfl, rfl, RS, gst⟩
            exact AllReadyH.nil
          exact AllReadyH.nil
        exact AllReadyH.nil
      obtain ⟨P1, rfl, rfl, HA, g⟩ := hcut
      have FA := Lib.hid g
      clear g
      have y1 := gcell FA.out x1
      have y2 := gcell FA.out x2
      generalize wc = wa at *
      go_upto_region 16 with fail
      go_cut [17, 18] (fun v e wx => ∃ B, v = .pointer (some ⟨B, 0, none⟩) ∧ e = .int .i64 me ∧ R2 wx B mn md ∧ wa.grownBy wx none)
      case first =>
        have gz : wa.grownBy wa.drew none := grown_dr (grown_refl _)
        refine wp_region_noPanic ?_
        refine wp_region_held_drew (S := (fun w' => wa.grownBy w' none)) (by kernel_rfl) ?_ (fun hHeld => ?_)
        · (try dsimp only); (repeat (first | assumption | exact grown_refl _ | refine grown_dr ?_ | refine grown_dn ?_ | refine grown_al ?_))
        refine wpAnyH_take (i := 0) (oi := _) (v := ?_) rfl (by kernel_rfl) (by kernel_rfl) (by kernel_rfl) (fun _ _ _ h => h) (Or.inl ⟨by rfl, ?_⟩) (by assumption) ?_
        rotate_left 1
        · (intro w hSw; (try dsimp only at hSw); go_simp; first | done | with_reducible rfl)
        try go_simp
        refine wpAnyH_take (i := 1) (oi := _) (v := ?_) rfl (by kernel_rfl) (by kernel_rfl) (by kernel_rfl) (fun _ _ _ h => h) (Or.inl ⟨by rfl, ?_⟩) (by assumption) ?_
        rotate_left 1
        · (intro w hSw; (try dsimp only at hSw); go_simp; first | done | with_reducible rfl)
        try go_simp
        refine wpAnyH_take (i := 2) (oi := _) (v := ?_) rfl (by kernel_rfl) (by kernel_rfl) (by kernel_rfl) (fun _ _ _ h => h) (Or.inl ⟨by rfl, ?_⟩) (by assumption) ?_
        rotate_left 1
        · (intro w hSw; (try dsimp only at hSw); go_simp; first | done | with_reducible rfl)
        try go_simp
        refine wpAnyH_take (i := 3) (oi := _) (v := .slice B1 n1 e1) rfl (by kernel_rfl) (by kernel_rfl) (by kernel_rfl) (fun _ _ _ h => h) (Or.inl ⟨by kernel_rfl, ?_⟩) (by assumption) ?_
        · (intro w hSw; (try dsimp only at hSw); go_simp; have y0 := gcell hSw y1; clear hSw; go_simp; first | done | with_reducible rfl)
        try go_simp
        refine wpAnyH_take (i := 4) (oi := _) (v := ?_) rfl (by kernel_rfl) (by kernel_rfl) (by kernel_rfl) (fun _ _ _ h => h) (Or.inl ⟨by rfl, ?_⟩) (by assumption) ?_
        rotate_left 1
        · (intro w hSw; (try dsimp only at hSw); go_simp; first | done | with_reducible rfl)
        try go_simp
        refine wpAnyH_take (i := 5) (oi := _) (v := ?_) rfl (by kernel_rfl) (by kernel_rfl) (by kernel_rfl) (fun _ _ _ h => h) (Or.inl ⟨by rfl, ?_⟩) (by assumption) ?_
        rotate_left 1
        · (intro w hSw; (try dsimp only at hSw); go_simp; first | done | with_reducible rfl)
        try go_simp
        refine wpAnyH_take (i := 6) (oi := _) (v := ?_) rfl (by kernel_rfl) (by kernel_rfl) (by kernel_rfl) (fun _ _ _ h => h) (Or.inl ⟨by rfl, ?_⟩) (by assumption) ?_
        rotate_left 1
        · (intro w hSw; (try dsimp only at hSw); go_simp; first | done | with_reducible rfl)
        try go_simp
        refine wpAnyH_take (i := 7) (oi := _) (v := .slice B2 n2 e2) rfl (by kernel_rfl) (by kernel_rfl) (by kernel_rfl) (fun _ _ _ h => h) (Or.inl ⟨by kernel_rfl, ?_⟩) (by assumption) ?_
        · (intro w hSw; (try dsimp only at hSw); go_simp; have y0 := gcell hSw y2; clear hSw; go_simp; first | done | with_reducible rfl)
        try go_simp
        refine wpAnyH_ready (rs := [8, 12]) (by kernel_rfl) (by simp) ?_
        refine AllReadyH.cons (o := _) rfl (fun K hK => ?_) ?_
        · clear hHeld
          go_simp
          refine (KR.out _ (FA.out.trans gz)).mono ?_
          rintro e wq1 ⟨rfl, g⟩
          replace gz := gz.trans g
          clear g
          first | (refine hK.out _ _ ?_ (fun hHeld => ?_)) | (go_wp2_with fail; refine hK.out _ _ ?_ (fun hHeld => ?_))
          · (try dsimp only); (repeat (first | assumption | exact grown_refl _ | refine grown_dr ?_ | refine grown_dn ?_ | refine grown_al ?_))
          clear hK K
          refine wpAnyH_take (i := 9) (oi := _) (v := ?_) rfl (by kernel_rfl) (by kernel_rfl) (by kernel_rfl) (fun _ _ _ h => h) (Or.inl ⟨by rfl, ?_⟩) (by assumption) ?_
          rotate_left 1
          · (intro w hSw; (try dsimp only at hSw); go_simp; first | done | with_reducible rfl)
          try go_simp
          refine wpAnyH_take (i := 10) (oi := _) (v := ?_) rfl (by kernel_rfl) (by kernel_rfl) (by kernel_rfl) (fun _ _ _ h => h) (Or.inl ⟨by rfl, ?_⟩) (by assumption) ?_
          rotate_left 1
          · (intro w hSw; (try dsimp only at hSw); go_simp; first | done | with_reducible rfl)
          try go_simp
          refine wpAnyH_take (i := 11) (oi := _) (v := ?_) rfl (by kernel_rfl) (by kernel_rfl) (by kernel_rfl) (fun _ _ _ h => h) (Or.inl ⟨by rfl, ?_⟩) (by assumption) ?_
          rotate_left 1
          · (intro w hSw; (try dsimp only at hSw); go_simp; first | done | with_reducible rfl)
          try go_simp
          refine wpAnyH_ready (rs := [12]) (by kernel_rfl) (by simp) ?_
          refine AllReadyH.cons (o := _) rfl (fun K hK => ?_) ?_
          · clear hHeld
            go_simp
            obtain ⟨wq2, ea, RA, g⟩ := row_of wq1 46 #[.int .i64 0, .int .i64 0]
            have hBRA : wa.heap.size ≤ wq1.heap.size := gz.size
            replace gz := gz.trans g
            clear g
            first | (refine hK.out _ _ ?_ (fun hHeld => ?_)) | (go_wp2_with fail; refine hK.out _ _ ?_ (fun hHeld => ?_))
            · (try dsimp only); (first | rw [← ea] | skip); exact gz
            clear hK K
            rw [← ea]
            clear ea hHeld
            have hHeld := gz
            refine wpAnyH_ready (rs := [13]) (by kernel_rfl) (by simp) ?_
            refine AllReadyH.cons (o := _) rfl (fun K hK => ?_) ?_
            · clear hHeld
              have k0 := RA.c 0 rfl
              have f0 := RA.fz 0
              have k1 := RA.c 1 rfl
              have f1 := RA.fz 1
              have hsz := RA.lt
              have gst := (grown_set (i := 1) (v := .int .i64 md) (grown_set (i := 0) (v := .int .i64 mn) gz (.inl hBRA)) (.inl hBRA))
              have RS := ((RA.set 0 (.int .i64 mn)).set 1 (.int .i64 md))
              go_simp
              first | (refine hK.out _ _ ?_ (fun hHeld => ?_)) | (go_wp2_with fail; refine hK.out _ _ ?_ (fun hHeld => ?_))
              · (try dsimp only); exact gst
              clear hK K
              refine wpAnyH_take (i := 14) (oi := _) (v := ?_) rfl (by kernel_rfl) (by kernel_rfl) (by kernel_rfl) (fun _ _ _ h => h) (Or.inl ⟨by rfl, ?_⟩) (by assumption) ?_
              rotate_left 1
              · (intro w hSw; (try dsimp only at hSw); go_simp; first | done | with_reducible rfl)
              try go_simp
              refine wpAnyH_done (by kernel_rfl) ?_ _
              refine NoPanic.normal ?_
              go_simp
              go_wp2_with fail
              go_meet
              exact ⟨_, rfl, rfl, RS, gst⟩
            exact AllReadyH.nil
          exact AllReadyH.nil
        refine AllReadyH.cons (o := _) rfl (fun K hK => ?_) ?_
        · clear hHeld
          go_simp
          obtain ⟨wq1, ea, RA, g⟩ := row_of wa 46 #[.int .i64 0, .int .i64 0]
          have gb : wa.drew.grownBy wq1.drew none := ⟨g.os, g.tape, g.output, g.size, g.block⟩
          have hBRA : wa.heap.size ≤ wa.heap.size := gz.size
          replace RA := RA.kept (grown_dr (grown_refl wq1))
          clear g
          have g := gb
          clear gb
          replace gz := gz.trans g
          clear g
          first | (refine hK.out _ _ ?_ (fun hHeld => ?_)) | (go_wp2_with fail; refine hK.out _ _ ?_ (fun hHeld => ?_))
          · (try dsimp only); (first | rw [← ea] | skip); exact gz
          clear hK K
          rw [← ea]
          clear ea hHeld
          have hHeld := gz
          refine wpAnyH_ready (rs := [8]) (by kernel_rfl) (by simp) ?_
          refine AllReadyH.cons (o := _) rfl (fun K hK => ?_) ?_
          · clear hHeld
            go_simp
            refine (KR.out _ (FA.out.trans gz)).mono ?_
            rintro e wq2 ⟨rfl, g⟩
            replace RA := RA.kept g
            replace gz := gz.trans g
            clear g
            first | (refine hK.out _ _ ?_ (fun hHeld => ?_)) | (go_wp2_with fail; refine hK.out _ _ ?_ (fun hHeld => ?_))
            · (try dsimp only); (repeat (first | assumption | exact grown_refl _ | refine grown_dr ?_ | refine grown_dn ?_ | refine grown_al ?_))
            clear hK K
            refine wpAnyH_take (i := 9) (oi := _) (v := ?_) rfl (by kernel_rfl) (by kernel_rfl) (by kernel_rfl) (fun _ _ _ h => h) (Or.inl ⟨by rfl, ?_⟩) (by assumption) ?_
            rotate_left 1
            · (intro w hSw; (try dsimp only at hSw); go_simp; first | done | with_reducible rfl)
            try go_simp
            refine wpAnyH_take (i := 10) (oi := _) (v := ?_) rfl (by kernel_rfl) (by kernel_rfl) (by kernel_rfl) (fun _ _ _ h => h) (Or.inl ⟨by rfl, ?_⟩) (by assumption) ?_
            rotate_left 1
            · (intro w hSw; (try dsimp only at hSw); go_simp; first | done | with_reducible rfl)
            try go_simp
            refine wpAnyH_take (i := 11) (oi := _) (v := ?_) rfl (by kernel_rfl) (by kernel_rfl) (by kernel_rfl) (fun _ _ _ h => h) (Or.inl ⟨by rfl, ?_⟩) (by assumption) ?_
            rotate_left 1
            · (intro w hSw; (try dsimp only at hSw); go_simp; first | done | with_reducible rfl)
            try go_simp
            refine wpAnyH_ready (rs := [13]) (by kernel_rfl) (by simp) ?_
            refine AllReadyH.cons (o := _) rfl (fun K hK => ?_) ?_
            · clear hHeld
              have k0 := RA.c 0 rfl
              have f0 := RA.fz 0
              have k1 := RA.c 1 rfl
              have f1 := RA.fz 1
              have hsz := RA.lt
              have gst := (grown_set (i := 1) (v := .int .i64 md) (grown_set (i := 0) (v := .int .i64 mn) gz (.inl hBRA)) (.inl hBRA))
              have RS := ((RA.set 0 (.int .i64 mn)).set 1 (.int .i64 md))
              go_simp
              first | (refine hK.out _ _ ?_ (fun hHeld => ?_)) | (go_wp2_with fail; refine hK.out _ _ ?_ (fun hHeld => ?_))
              · (try dsimp only); exact gst
              clear hK K
              refine wpAnyH_take (i := 14) (oi := _) (v := ?_) rfl (by kernel_rfl) (by kernel_rfl) (by kernel_rfl) (fun _ _ _ h => h) (Or.inl ⟨by rfl, ?_⟩) (by assumption) ?_
              rotate_left 1
              · (intro w hSw; (try dsimp only at hSw); go_simp; first | done | with_reducible rfl)
              try go_simp
              refine wpAnyH_done (by kernel_rfl) ?_ _
              refine NoPanic.normal ?_
              go_simp
              go_wp2_with fail
              go_meet
              exact ⟨_, rfl, rfl, RS, gst⟩
            exact AllReadyH.nil
          exact AllReadyH.nil
        exact AllReadyH.nil
      obtain ⟨P2, rfl, rfl, HB, g⟩ := hcut
      have m0 := (HA.kept g).c0
      have m1 := (HA.kept g).c1
      have m2 := HB.c0
      have m3 := HB.c1
      have gv := FA.out.trans g
      clear HA HB FA g y1 y2
      generalize wc = wb at *
      go_wp2_with fail
      go_loopw [19] (fun i wr => ∃ q : Nat, q ≤ 4 ∧ i = .int .i64 q ∧ wo.grownBy wr none) (fun i _ => 4 - (intOf i).toNat)
      case atStart => exact ⟨0, by omega, rfl, gv⟩
      case round =>
        obtain ⟨q, hq, rfl, gy⟩ := hrel
        by_cases hlq : q < 4
        · have hC := FC.out _ (gw.trans gy)
          have hS := FS.out _ (gw.trans gy)
          have z1 := gcell gy x1
          have z2 := gcell gy x2
          clear FC FS FP KM KR
          rcases (show q = 0 ∨ q = 1 ∨ q = 2 ∨ q = 3 by omega) with rfl | rfl | rfl | rfl
          · have K22 := Lib.hid (KC.out u cc d r a b p)
            have K23 := Lib.hid (KD.out u cc d r a b p)
            generalize coV u cc d r a b p gs cs = vv at *
            generalize coE u cc d r a b p gs cs = ee at *
            clear KC KD
            have c0 : wr.cell? ⟨BC, 0, none⟩ = some (.int .i64 u) := hC.c 0 rfl
            have c1 : wr.cell? ⟨BC, 1, none⟩ = some (.int .i64 cc) := hC.c 1 rfl
            have c2 : wr.cell? ⟨BC, 2, none⟩ = some (.int .i64 d) := hC.c 2 rfl
            have c3 : wr.cell? ⟨BC, 3, none⟩ = some (.int .i64 r) := hC.c 3 rfl
            have s0 : wr.cell? ⟨BS, 0, none⟩ = some (.int .i64 a) := hS.c 0 rfl
            have s1 : wr.cell? ⟨BS, 1, none⟩ = some (.int .i64 b) := hS.c 1 rfl
            have s2 : wr.cell? ⟨BS, 2, none⟩ = some (.int .i64 p) := hS.c 2 rfl
            clear hC hS
            go_upto_region 22 with fail
            have gz : wr.grownBy wr.drew none := grown_dr (grown_refl _)
            refine wp_region_noPanic ?_
            refine wp_region_held_drew (S := (fun w' => wr.grownBy w' none)) (by kernel_rfl) ?_ (fun hHeld => ?_)
            · (try dsimp only); (repeat (first | assumption | exact grown_refl _ | refine grown_dr ?_ | refine grown_dn ?_ | refine grown_al ?_))
            refine wpAnyH_take (i := 0) (oi := _) (v := ?_) rfl (by kernel_rfl) (by kernel_rfl) (by kernel_rfl) (fun _ _ _ h => h) (Or.inl ⟨by rfl, ?_⟩) (by assumption) ?_
            rotate_left 1
            · (intro w hSw; (try dsimp only at hSw); go_simp; first | done | with_reducible rfl)
            try go_simp
            refine wpAnyH_take (i := 1) (oi := _) (v := .int .i64 0) rfl (by kernel_rfl) (by kernel_rfl) (by kernel_rfl) (fun _ _ _ h => h) (Or.inl ⟨by kernel_rfl, ?_⟩) (by assumption) ?_
            · (intro w hSw; (try dsimp only at hSw); go_simp; first | done | with_reducible rfl)
            try go_simp
            refine wpAnyH_take (i := 2) (oi := _) (v := ?_) rfl (by kernel_rfl) (by kernel_rfl) (by kernel_rfl) (fun _ _ _ h => h) (Or.inl ⟨by rfl, ?_⟩) (by assumption) ?_
            rotate_left 1
            · (intro w hSw; (try dsimp only at hSw); go_simp; first | done | with_reducible rfl)
            try go_simp
            refine wpAnyH_take (i := 3) (oi := _) (v := .agg #[.int .i64 u, .int .i64 cc, .int .i64 d, .int .i64 r]) rfl (by kernel_rfl) (by kernel_rfl) (by kernel_rfl) (fun _ _ _ h => h) (Or.inl ⟨by kernel_rfl, ?_⟩) (by assumption) ?_
            · (intro w hSw; (try dsimp only at hSw); go_simp; have y0 := gcell hSw c0; have y1 := gcell hSw c1; have y2 := gcell hSw c2; have y3 := gcell hSw c3; clear hSw; go_simp; first | done | with_reducible rfl)
            try go_simp
            refine wpAnyH_take (i := 4) (oi := _) (v := ?_) rfl (by kernel_rfl) (by kernel_rfl) (by kernel_rfl) (fun _ _ _ h => h) (Or.inl ⟨by rfl, ?_⟩) (by assumption) ?_
            rotate_left 1
            · (intro w hSw; (try dsimp only at hSw); go_simp; first | done | with_reducible rfl)
            try go_simp
            refine wpAnyH_take (i := 5) (oi := _) (v := .int .i64 0) rfl (by kernel_rfl) (by kernel_rfl) (by kernel_rfl) (fun _ _ _ h => h) (Or.inl ⟨by kernel_rfl, ?_⟩) (by assumption) ?_
            · (intro w hSw; (try dsimp only at hSw); go_simp; first | done | with_reducible rfl | decide)
            try go_simp
            refine wpAnyH_take (i := 6) (oi := _) (v := ?_) rfl (by kernel_rfl) (by kernel_rfl) (by kernel_rfl) (fun _ _ _ h => h) (Or.inl ⟨by rfl, ?_⟩) (by assumption) ?_
            rotate_left 1
            · (intro w hSw; (try dsimp only at hSw); go_simp; first | done | with_reducible rfl)
            try go_simp
            refine wpAnyH_take (i := 7) (oi := _) (v := .agg #[.int .i64 a, .int .i64 b, .int .i64 p]) rfl (by kernel_rfl) (by kernel_rfl) (by kernel_rfl) (fun _ _ _ h => h) (Or.inl ⟨by kernel_rfl, ?_⟩) (by assumption) ?_
            · (intro w hSw; (try dsimp only at hSw); go_simp; have y0 := gcell hSw s0; have y1 := gcell hSw s1; have y2 := gcell hSw s2; clear hSw; go_simp; first | done | with_reducible rfl)
            try go_simp
            refine wpAnyH_take (i := 8) (oi := _) (v := ?_) rfl (by kernel_rfl) (by kernel_rfl) (by kernel_rfl) (fun _ _ _ h => h) (Or.inl ⟨by rfl, ?_⟩) (by assumption) ?_
            rotate_left 1
            · (intro w hSw; (try dsimp only at hSw); go_simp; first | done | with_reducible rfl)
            try go_simp
            refine wpAnyH_take (i := 9) (oi := _) (v := ?_) rfl (by kernel_rfl) (by kernel_rfl) (by kernel_rfl) (fun _ _ _ h => h) (Or.inl ⟨by rfl, ?_⟩) (by assumption) ?_
            rotate_left 1
            · (intro w hSw; (try dsimp only at hSw); go_simp; first | done | with_reducible rfl)
            try go_simp
            refine wpAnyH_take (i := 10) (oi := _) (v := ?_) rfl (by kernel_rfl) (by kernel_rfl) (by kernel_rfl) (fun _ _ _ h => h) (Or.inl ⟨by rfl, ?_⟩) (by assumption) ?_
            rotate_left 1
            · (intro w hSw; (try dsimp only at hSw); go_simp; first | done | with_reducible rfl)
            try go_simp
            refine wpAnyH_take (i := 11) (oi := _) (v := .slice B1 n1 e1) rfl (by kernel_rfl) (by kernel_rfl) (by kernel_rfl) (fun _ _ _ h => h) (Or.inl ⟨by kernel_rfl, ?_⟩) (by assumption) ?_
            · (intro w hSw; (try dsimp only at hSw); go_simp; have y0 := gcell hSw z1; clear hSw; go_simp; first | done | with_reducible rfl)
            try go_simp
            refine wpAnyH_take (i := 12) (oi := _) (v := ?_) rfl (by kernel_rfl) (by kernel_rfl) (by kernel_rfl) (fun _ _ _ h => h) (Or.inl ⟨by rfl, ?_⟩) (by assumption) ?_
            rotate_left 1
            · (intro w hSw; (try dsimp only at hSw); go_simp; first | done | with_reducible rfl)
            try go_simp
            refine wpAnyH_take (i := 13) (oi := _) (v := ?_) rfl (by kernel_rfl) (by kernel_rfl) (by kernel_rfl) (fun _ _ _ h => h) (Or.inl ⟨by rfl, ?_⟩) (by assumption) ?_
            rotate_left 1
            · (intro w hSw; (try dsimp only at hSw); go_simp; first | done | with_reducible rfl)
            try go_simp
            refine wpAnyH_take (i := 14) (oi := _) (v := ?_) rfl (by kernel_rfl) (by kernel_rfl) (by kernel_rfl) (fun _ _ _ h => h) (Or.inl ⟨by rfl, ?_⟩) (by assumption) ?_
            rotate_left 1
            · (intro w hSw; (try dsimp only at hSw); go_simp; first | done | with_reducible rfl)
            try go_simp
            refine wpAnyH_take (i := 15) (oi := _) (v := .slice B2 n2 e2) rfl (by kernel_rfl) (by kernel_rfl) (by kernel_rfl) (fun _ _ _ h => h) (Or.inl ⟨by kernel_rfl, ?_⟩) (by assumption) ?_
            · (intro w hSw; (try dsimp only at hSw); go_simp; have y0 := gcell hSw z2; clear hSw; go_simp; first | done | with_reducible rfl)
            try go_simp
            refine wpAnyH_ready (rs := [16]) (by kernel_rfl) (by simp) ?_
            refine AllReadyH.cons (o := _) rfl (fun K hK => ?_) ?_
            · clear hHeld
              go_simp
              refine (K22.out _ (gy.trans gz)).mono ?_
              rintro e wq1 ⟨rfl, g⟩
              replace gz := gz.trans g
              clear g
              first | (refine hK.out _ _ ?_ (fun hHeld => ?_)) | (go_wp2_with fail; refine hK.out _ _ ?_ (fun hHeld => ?_))
              · (try dsimp only); (repeat (first | assumption | exact grown_refl _ | refine grown_dr ?_ | refine grown_dn ?_ | refine grown_al ?_))
              clear hK K
              refine wpAnyH_take (i := 17) (oi := _) (v := ?_) rfl (by kernel_rfl) (by kernel_rfl) (by kernel_rfl) (fun _ _ _ h => h) (Or.inl ⟨by rfl, ?_⟩) (by assumption) ?_
              rotate_left 1
              · (intro w hSw; (try dsimp only at hSw); go_simp; first | done | with_reducible rfl)
              try go_simp
              refine wpAnyH_take (i := 18) (oi := _) (v := ?_) rfl (by kernel_rfl) (by kernel_rfl) (by kernel_rfl) (fun _ _ _ h => h) (Or.inl ⟨by rfl, ?_⟩) (by assumption) ?_
              rotate_left 1
              · (intro w hSw; (try dsimp only at hSw); go_simp; first | done | with_reducible rfl)
              try go_simp
              refine wpAnyH_take (i := 19) (oi := _) (v := ?_) rfl (by kernel_rfl) (by kernel_rfl) (by kernel_rfl) (fun _ _ _ h => h) (Or.inl ⟨by rfl, ?_⟩) (by assumption) ?_
              rotate_left 1
              · (intro w hSw; (try dsimp only at hSw); go_simp; first | done | with_reducible rfl)
              try go_simp
              refine wpAnyH_take (i := 20) (oi := _) (v := ?_) rfl (by kernel_rfl) (by kernel_rfl) (by kernel_rfl) (fun _ _ _ h => h) (Or.inl ⟨by rfl, ?_⟩) (by assumption) ?_
              rotate_left 1
              · (intro w hSw; (try dsimp only at hSw); go_simp; first | done | with_reducible rfl)
              try go_simp
              refine wpAnyH_take (i := 21) (oi := _) (v := ?_) rfl (by kernel_rfl) (by kernel_rfl) (by kernel_rfl) (fun _ _ _ h => h) (Or.inl ⟨by rfl, ?_⟩) (by assumption) ?_
              rotate_left 1
              · (intro w hSw; (try dsimp only at hSw); go_simp; first | done | with_reducible rfl)
              try go_simp
              refine wpAnyH_done (by kernel_rfl) ?_ _
              refine NoPanic.normal ?_
              go_simp
              have tc0 := gcell gz c0
              have tc1 := gcell gz c1
              have tc2 := gcell gz c2
              have tc3 := gcell gz c3
              have ts0 := gcell gz s0
              have ts1 := gcell gz s1
              have ts2 := gcell gz s2
              have tz1 := gcell gz z1
              have tz2 := gcell gz z2
              have gy2 := gy.trans gz
              clear gz gy c0 c1 c2 c3 s0 s1 s2 z1 z2 hHeld
              go_upto_region 23 with fail
              have gz : wq1.grownBy wq1.drew none := grown_dr (grown_refl _)
              refine wp_region_noPanic ?_
              refine wp_region_held_drew (S := (fun w' => wq1.grownBy w' none)) (by kernel_rfl) ?_ (fun hHeld => ?_)
              · (try dsimp only); (repeat (first | assumption | exact grown_refl _ | refine grown_dr ?_ | refine grown_dn ?_ | refine grown_al ?_))
              refine wpAnyH_take (i := 0) (oi := _) (v := ?_) rfl (by kernel_rfl) (by kernel_rfl) (by kernel_rfl) (fun _ _ _ h => h) (Or.inl ⟨by rfl, ?_⟩) (by assumption) ?_
              rotate_left 1
              · (intro w hSw; (try dsimp only at hSw); go_simp; first | done | with_reducible rfl)
              try go_simp
              refine wpAnyH_take (i := 1) (oi := _) (v := .int .i64 0) rfl (by kernel_rfl) (by kernel_rfl) (by kernel_rfl) (fun _ _ _ h => h) (Or.inl ⟨by kernel_rfl, ?_⟩) (by assumption) ?_
              · (intro w hSw; (try dsimp only at hSw); go_simp; first | done | with_reducible rfl)
              try go_simp
              refine wpAnyH_take (i := 2) (oi := _) (v := ?_) rfl (by kernel_rfl) (by kernel_rfl) (by kernel_rfl) (fun _ _ _ h => h) (Or.inl ⟨by rfl, ?_⟩) (by assumption) ?_
              rotate_left 1
              · (intro w hSw; (try dsimp only at hSw); go_simp; first | done | with_reducible rfl)
              try go_simp
              refine wpAnyH_take (i := 3) (oi := _) (v := .agg #[.int .i64 u, .int .i64 cc, .int .i64 d, .int .i64 r]) rfl (by kernel_rfl) (by kernel_rfl) (by kernel_rfl) (fun _ _ _ h => h) (Or.inl ⟨by kernel_rfl, ?_⟩) (by assumption) ?_
              · (intro w hSw; (try dsimp only at hSw); go_simp; have y0 := gcell hSw tc0; have y1 := gcell hSw tc1; have y2 := gcell hSw tc2; have y3 := gcell hSw tc3; clear hSw; go_simp; first | done | with_reducible rfl)
              try go_simp
              refine wpAnyH_take (i := 4) (oi := _) (v := ?_) rfl (by kernel_rfl) (by kernel_rfl) (by kernel_rfl) (fun _ _ _ h => h) (Or.inl ⟨by rfl, ?_⟩) (by assumption) ?_
              rotate_left 1
              · (intro w hSw; (try dsimp only at hSw); go_simp; first | done | with_reducible rfl)
              try go_simp
              refine wpAnyH_take (i := 5) (oi := _) (v := .int .i64 0) rfl (by kernel_rfl) (by kernel_rfl) (by kernel_rfl) (fun _ _ _ h => h) (Or.inl ⟨by kernel_rfl, ?_⟩) (by assumption) ?_
              · (intro w hSw; (try dsimp only at hSw); go_simp; first | done | with_reducible rfl | decide)
              try go_simp
              refine wpAnyH_take (i := 6) (oi := _) (v := ?_) rfl (by kernel_rfl) (by kernel_rfl) (by kernel_rfl) (fun _ _ _ h => h) (Or.inl ⟨by rfl, ?_⟩) (by assumption) ?_
              rotate_left 1
              · (intro w hSw; (try dsimp only at hSw); go_simp; first | done | with_reducible rfl)
              try go_simp
              refine wpAnyH_take (i := 7) (oi := _) (v := .agg #[.int .i64 a, .int .i64 b, .int .i64 p]) rfl (by kernel_rfl) (by kernel_rfl) (by kernel_rfl) (fun _ _ _ h => h) (Or.inl ⟨by kernel_rfl, ?_⟩) (by assumption) ?_
              · (intro w hSw; (try dsimp only at hSw); go_simp; have y0 := gcell hSw ts0; have y1 := gcell hSw ts1; have y2 := gcell hSw ts2; clear hSw; go_simp; first | done | with_reducible rfl)
              try go_simp
              refine wpAnyH_take (i := 8) (oi := _) (v := ?_) rfl (by kernel_rfl) (by kernel_rfl) (by kernel_rfl) (fun _ _ _ h => h) (Or.inl ⟨by rfl, ?_⟩) (by assumption) ?_
              rotate_left 1
              · (intro w hSw; (try dsimp only at hSw); go_simp; first | done | with_reducible rfl)
              try go_simp
              refine wpAnyH_take (i := 9) (oi := _) (v := ?_) rfl (by kernel_rfl) (by kernel_rfl) (by kernel_rfl) (fun _ _ _ h => h) (Or.inl ⟨by rfl, ?_⟩) (by assumption) ?_
              rotate_left 1
              · (intro w hSw; (try dsimp only at hSw); go_simp; first | done | with_reducible rfl)
              try go_simp
              refine wpAnyH_take (i := 10) (oi := _) (v := ?_) rfl (by kernel_rfl) (by kernel_rfl) (by kernel_rfl) (fun _ _ _ h => h) (Or.inl ⟨by rfl, ?_⟩) (by assumption) ?_
              rotate_left 1
              · (intro w hSw; (try dsimp only at hSw); go_simp; first | done | with_reducible rfl)
              try go_simp
              refine wpAnyH_take (i := 11) (oi := _) (v := .slice B1 n1 e1) rfl (by kernel_rfl) (by kernel_rfl) (by kernel_rfl) (fun _ _ _ h => h) (Or.inl ⟨by kernel_rfl, ?_⟩) (by assumption) ?_
              · (intro w hSw; (try dsimp only at hSw); go_simp; have y0 := gcell hSw tz1; clear hSw; go_simp; first | done | with_reducible rfl)
              try go_simp
              refine wpAnyH_take (i := 12) (oi := _) (v := ?_) rfl (by kernel_rfl) (by kernel_rfl) (by kernel_rfl) (fun _ _ _ h => h) (Or.inl ⟨by rfl, ?_⟩) (by assumption) ?_
              rotate_left 1
              · (intro w hSw; (try dsimp only at hSw); go_simp; first | done | with_reducible rfl)
              try go_simp
              refine wpAnyH_take (i := 13) (oi := _) (v := ?_) rfl (by kernel_rfl) (by kernel_rfl) (by kernel_rfl) (fun _ _ _ h => h) (Or.inl ⟨by rfl, ?_⟩) (by assumption) ?_
              rotate_left 1
              · (intro w hSw; (try dsimp only at hSw); go_simp; first | done | with_reducible rfl)
              try go_simp
              refine wpAnyH_take (i := 14) (oi := _) (v := ?_) rfl (by kernel_rfl) (by kernel_rfl) (by kernel_rfl) (fun _ _ _ h => h) (Or.inl ⟨by rfl, ?_⟩) (by assumption) ?_
              rotate_left 1
              · (intro w hSw; (try dsimp only at hSw); go_simp; first | done | with_reducible rfl)
              try go_simp
              refine wpAnyH_take (i := 15) (oi := _) (v := .slice B2 n2 e2) rfl (by kernel_rfl) (by kernel_rfl) (by kernel_rfl) (fun _ _ _ h => h) (Or.inl ⟨by kernel_rfl, ?_⟩) (by assumption) ?_
              · (intro w hSw; (try dsimp only at hSw); go_simp; have y0 := gcell hSw tz2; clear hSw; go_simp; first | done | with_reducible rfl)
              try go_simp
              refine wpAnyH_ready (rs := [16]) (by kernel_rfl) (by simp) ?_
              refine AllReadyH.cons (o := _) rfl (fun K hK => ?_) ?_
              · clear hHeld
                go_simp
                refine (K23.out _ (gy2.trans gz)).mono ?_
                rintro e wz1 ⟨rfl, g⟩
                replace gz := gz.trans g
                clear g
                first | (refine hK.out _ _ ?_ (fun hHeld => ?_)) | (go_wp2_with fail; refine hK.out _ _ ?_ (fun hHeld => ?_))
                · (try dsimp only); (repeat (first | assumption | exact grown_refl _ | refine grown_dr ?_ | refine grown_dn ?_ | refine grown_al ?_))
                clear hK K
                refine wpAnyH_take (i := 17) (oi := _) (v := ?_) rfl (by kernel_rfl) (by kernel_rfl) (by kernel_rfl) (fun _ _ _ h => h) (Or.inl ⟨by rfl, ?_⟩) (by assumption) ?_
                rotate_left 1
                · (intro w hSw; (try dsimp only at hSw); go_simp; first | done | with_reducible rfl)
                try go_simp
                refine wpAnyH_take (i := 18) (oi := _) (v := ?_) rfl (by kernel_rfl) (by kernel_rfl) (by kernel_rfl) (fun _ _ _ h => h) (Or.inl ⟨by rfl, ?_⟩) (by assumption) ?_
                rotate_left 1
                · (intro w hSw; (try dsimp only at hSw); go_simp; first | done | with_reducible rfl)
                try go_simp
                refine wpAnyH_take (i := 19) (oi := _) (v := ?_) rfl (by kernel_rfl) (by kernel_rfl) (by kernel_rfl) (fun _ _ _ h => h) (Or.inl ⟨by rfl, ?_⟩) (by assumption) ?_
                rotate_left 1
                · (intro w hSw; (try dsimp only at hSw); go_simp; first | done | with_reducible rfl)
                try go_simp
                refine wpAnyH_take (i := 20) (oi := _) (v := ?_) rfl (by kernel_rfl) (by kernel_rfl) (by kernel_rfl) (fun _ _ _ h => h) (Or.inl ⟨by rfl, ?_⟩) (by assumption) ?_
                rotate_left 1
                · (intro w hSw; (try dsimp only at hSw); go_simp; first | done | with_reducible rfl)
                try go_simp
                refine wpAnyH_take (i := 21) (oi := _) (v := ?_) rfl (by kernel_rfl) (by kernel_rfl) (by kernel_rfl) (fun _ _ _ h => h) (Or.inl ⟨by rfl, ?_⟩) (by assumption) ?_
                rotate_left 1
                · (intro w hSw; (try dsimp only at hSw); go_simp; first | done | with_reducible rfl)
                try go_simp
                refine wpAnyH_done (by kernel_rfl) ?_ _
                refine NoPanic.normal ?_
                go_simp
                go_wp2_with fail
                go_roundw
                case rel => exact ⟨0 + 1, by omega, by go_num, gy2.trans gz⟩
                case measure => simp [intOf]
              exact AllReadyH.nil
            exact AllReadyH.nil
          · have K22 := Lib.hid (KC.out v1 v2 v3 v4 a b p)
            have K23 := Lib.hid (KD.out v1 v2 v3 v4 a b p)
            generalize coV v1 v2 v3 v4 a b p gs cs = vv at *
            generalize coE v1 v2 v3 v4 a b p gs cs = ee at *
            clear KC KD
            have c0 : wr.cell? ⟨BC, 4, none⟩ = some (.int .i64 v1) := hC.c 4 rfl
            have c1 : wr.cell? ⟨BC, 5, none⟩ = some (.int .i64 v2) := hC.c 5 rfl
            have c2 : wr.cell? ⟨BC, 6, none⟩ = some (.int .i64 v3) := hC.c 6 rfl
            have c3 : wr.cell? ⟨BC, 7, none⟩ = some (.int .i64 v4) := hC.c 7 rfl
            have s0 : wr.cell? ⟨BS, 0, none⟩ = some (.int .i64 a) := hS.c 0 rfl
            have s1 : wr.cell? ⟨BS, 1, none⟩ = some (.int .i64 b) := hS.c 1 rfl
            have s2 : wr.cell? ⟨BS, 2, none⟩ = some (.int .i64 p) := hS.c 2 rfl
            clear hC hS
            go_upto_region 22 with fail
            have gz : wr.grownBy wr.drew none := grown_dr (grown_refl _)
            refine wp_region_noPanic ?_
            refine wp_region_held_drew (S := (fun w' => wr.grownBy w' none)) (by kernel_rfl) ?_ (fun hHeld => ?_)
            · (try dsimp only); (repeat (first | assumption | exact grown_refl _ | refine grown_dr ?_ | refine grown_dn ?_ | refine grown_al ?_))
            refine wpAnyH_take (i := 0) (oi := _) (v := ?_) rfl (by kernel_rfl) (by kernel_rfl) (by kernel_rfl) (fun _ _ _ h => h) (Or.inl ⟨by rfl, ?_⟩) (by assumption) ?_
            rotate_left 1
            · (intro w hSw; (try dsimp only at hSw); go_simp; first | done | with_reducible rfl)
            try go_simp
            refine wpAnyH_take (i := 1) (oi := _) (v := .int .i64 1) rfl (by kernel_rfl) (by kernel_rfl) (by kernel_rfl) (fun _ _ _ h => h) (Or.inl ⟨by kernel_rfl, ?_⟩) (by assumption) ?_
            · (intro w hSw; (try dsimp only at hSw); go_simp; first | done | with_reducible rfl)
            try go_simp
            refine wpAnyH_take (i := 2) (oi := _) (v := ?_) rfl (by kernel_rfl) (by kernel_rfl) (by kernel_rfl) (fun _ _ _ h => h) (Or.inl ⟨by rfl, ?_⟩) (by assumption) ?_
            rotate_left 1
            · (intro w hSw; (try dsimp only at hSw); go_simp; first | done | with_reducible rfl)
            try go_simp
            refine wpAnyH_take (i := 3) (oi := _) (v := .agg #[.int .i64 v1, .int .i64 v2, .int .i64 v3, .int .i64 v4]) rfl (by kernel_rfl) (by kernel_rfl) (by kernel_rfl) (fun _ _ _ h => h) (Or.inl ⟨by kernel_rfl, ?_⟩) (by assumption) ?_
            · (intro w hSw; (try dsimp only at hSw); go_simp; have y0 := gcell hSw c0; have y1 := gcell hSw c1; have y2 := gcell hSw c2; have y3 := gcell hSw c3; clear hSw; go_simp; first | done | with_reducible rfl)
            try go_simp
            refine wpAnyH_take (i := 4) (oi := _) (v := ?_) rfl (by kernel_rfl) (by kernel_rfl) (by kernel_rfl) (fun _ _ _ h => h) (Or.inl ⟨by rfl, ?_⟩) (by assumption) ?_
            rotate_left 1
            · (intro w hSw; (try dsimp only at hSw); go_simp; first | done | with_reducible rfl)
            try go_simp
            refine wpAnyH_take (i := 5) (oi := _) (v := .int .i64 0) rfl (by kernel_rfl) (by kernel_rfl) (by kernel_rfl) (fun _ _ _ h => h) (Or.inl ⟨by kernel_rfl, ?_⟩) (by assumption) ?_
            · (intro w hSw; (try dsimp only at hSw); go_simp; first | done | with_reducible rfl | decide)
            try go_simp
            refine wpAnyH_take (i := 6) (oi := _) (v := ?_) rfl (by kernel_rfl) (by kernel_rfl) (by kernel_rfl) (fun _ _ _ h => h) (Or.inl ⟨by rfl, ?_⟩) (by assumption) ?_
            rotate_left 1
            · (intro w hSw; (try dsimp only at hSw); go_simp; first | done | with_reducible rfl)
            try go_simp
            refine wpAnyH_take (i := 7) (oi := _) (v := .agg #[.int .i64 a, .int .i64 b, .int .i64 p]) rfl (by kernel_rfl) (by kernel_rfl) (by kernel_rfl) (fun _ _ _ h => h) (Or.inl ⟨by kernel_rfl, ?_⟩) (by assumption) ?_
            · (intro w hSw; (try dsimp only at hSw); go_simp; have y0 := gcell hSw s0; have y1 := gcell hSw s1; have y2 := gcell hSw s2; clear hSw; go_simp; first | done | with_reducible rfl)
            try go_simp
            refine wpAnyH_take (i := 8) (oi := _) (v := ?_) rfl (by kernel_rfl) (by kernel_rfl) (by kernel_rfl) (fun _ _ _ h => h) (Or.inl ⟨by rfl, ?_⟩) (by assumption) ?_
            rotate_left 1
            · (intro w hSw; (try dsimp only at hSw); go_simp; first | done | with_reducible rfl)
            try go_simp
            refine wpAnyH_take (i := 9) (oi := _) (v := ?_) rfl (by kernel_rfl) (by kernel_rfl) (by kernel_rfl) (fun _ _ _ h => h) (Or.inl ⟨by rfl, ?_⟩) (by assumption) ?_
            rotate_left 1
            · (intro w hSw; (try dsimp only at hSw); go_simp; first | done | with_reducible rfl)
            try go_simp
            refine wpAnyH_take (i := 10) (oi := _) (v := ?_) rfl (by kernel_rfl) (by kernel_rfl) (by kernel_rfl) (fun _ _ _ h => h) (Or.inl ⟨by rfl, ?_⟩) (by assumption) ?_
            rotate_left 1
            · (intro w hSw; (try dsimp only at hSw); go_simp; first | done | with_reducible rfl)
            try go_simp
            refine wpAnyH_take (i := 11) (oi := _) (v := .slice B1 n1 e1) rfl (by kernel_rfl) (by kernel_rfl) (by kernel_rfl) (fun _ _ _ h => h) (Or.inl ⟨by kernel_rfl, ?_⟩) (by assumption) ?_
            · (intro w hSw; (try dsimp only at hSw); go_simp; have y0 := gcell hSw z1; clear hSw; go_simp; first | done | with_reducible rfl)
            try go_simp
            refine wpAnyH_take (i := 12) (oi := _) (v := ?_) rfl (by kernel_rfl) (by kernel_rfl) (by kernel_rfl) (fun _ _ _ h => h) (Or.inl ⟨by rfl, ?_⟩) (by assumption) ?_
            rotate_left 1
            · (intro w hSw; (try dsimp only at hSw); go_simp; first | done | with_reducible rfl)
            try go_simp
            refine wpAnyH_take (i := 13) (oi := _) (v := ?_) rfl (by kernel_rfl) (by kernel_rfl) (by kernel_rfl) (fun _ _ _ h => h) (Or.inl ⟨by rfl, ?_⟩) (by assumption) ?_
            rotate_left 1
            · (intro w hSw; (try dsimp only at hSw); go_simp; first | done | with_reducible rfl)
            try go_simp
            refine wpAnyH_take (i := 14) (oi := _) (v := ?_) rfl (by kernel_rfl) (by kernel_rfl) (by kernel_rfl) (fun _ _ _ h => h) (Or.inl ⟨by rfl, ?_⟩) (by assumption) ?_
            rotate_left 1
            · (intro w hSw; (try dsimp only at hSw); go_simp; first | done | with_reducible rfl)
            try go_simp
            refine wpAnyH_take (i := 15) (oi := _) (v := .slice B2 n2 e2) rfl (by kernel_rfl) (by kernel_rfl) (by kernel_rfl) (fun _ _ _ h => h) (Or.inl ⟨by kernel_rfl, ?_⟩) (by assumption) ?_
            · (intro w hSw; (try dsimp only at hSw); go_simp; have y0 := gcell hSw z2; clear hSw; go_simp; first | done | with_reducible rfl)
            try go_simp
            refine wpAnyH_ready (rs := [16]) (by kernel_rfl) (by simp) ?_
            refine AllReadyH.cons (o := _) rfl (fun K hK => ?_) ?_
            · clear hHeld
              go_simp
              refine (K22.out _ (gy.trans gz)).mono ?_
              rintro e wq1 ⟨rfl, g⟩
              replace gz := gz.trans g
              clear g
              first | (refine hK.out _ _ ?_ (fun hHeld => ?_)) | (go_wp2_with fail; refine hK.out _ _ ?_ (fun hHeld => ?_))
              · (try dsimp only); (repeat (first | assumption | exact grown_refl _ | refine grown_dr ?_ | refine grown_dn ?_ | refine grown_al ?_))
              clear hK K
              refine wpAnyH_take (i := 17) (oi := _) (v := ?_) rfl (by kernel_rfl) (by kernel_rfl) (by kernel_rfl) (fun _ _ _ h => h) (Or.inl ⟨by rfl, ?_⟩) (by assumption) ?_
              rotate_left 1
              · (intro w hSw; (try dsimp only at hSw); go_simp; first | done | with_reducible rfl)
              try go_simp
              refine wpAnyH_take (i := 18) (oi := _) (v := ?_) rfl (by kernel_rfl) (by kernel_rfl) (by kernel_rfl) (fun _ _ _ h => h) (Or.inl ⟨by rfl, ?_⟩) (by assumption) ?_
              rotate_left 1
              · (intro w hSw; (try dsimp only at hSw); go_simp; first | done | with_reducible rfl)
              try go_simp
              refine wpAnyH_take (i := 19) (oi := _) (v := ?_) rfl (by kernel_rfl) (by kernel_rfl) (by kernel_rfl) (fun _ _ _ h => h) (Or.inl ⟨by rfl, ?_⟩) (by assumption) ?_
              rotate_left 1
              · (intro w hSw; (try dsimp only at hSw); go_simp; first | done | with_reducible rfl)
              try go_simp
              refine wpAnyH_take (i := 20) (oi := _) (v := ?_) rfl (by kernel_rfl) (by kernel_rfl) (by kernel_rfl) (fun _ _ _ h => h) (Or.inl ⟨by rfl, ?_⟩) (by assumption) ?_
              rotate_left 1
              · (intro w hSw; (try dsimp only at hSw); go_simp; first | done | with_reducible rfl)
              try go_simp
              refine wpAnyH_take (i := 21) (oi := _) (v := ?_) rfl (by kernel_rfl) (by kernel_rfl) (by kernel_rfl) (fun _ _ _ h => h) (Or.inl ⟨by rfl, ?_⟩) (by assumption) ?_
              rotate_left 1
              · (intro w hSw; (try dsimp only at hSw); go_simp; first | done | with_reducible rfl)
              try go_simp
              refine wpAnyH_done (by kernel_rfl) ?_ _
              refine NoPanic.normal ?_
              go_simp
              have tc0 := gcell gz c0
              have tc1 := gcell gz c1
              have tc2 := gcell gz c2
              have tc3 := gcell gz c3
              have ts0 := gcell gz s0
              have ts1 := gcell gz s1
              have ts2 := gcell gz s2
              have tz1 := gcell gz z1
              have tz2 := gcell gz z2
              have gy2 := gy.trans gz
              clear gz gy c0 c1 c2 c3 s0 s1 s2 z1 z2 hHeld
              go_upto_region 23 with fail
              have gz : wq1.grownBy wq1.drew none := grown_dr (grown_refl _)
              refine wp_region_noPanic ?_
              refine wp_region_held_drew (S := (fun w' => wq1.grownBy w' none)) (by kernel_rfl) ?_ (fun hHeld => ?_)
              · (try dsimp only); (repeat (first | assumption | exact grown_refl _ | refine grown_dr ?_ | refine grown_dn ?_ | refine grown_al ?_))
              refine wpAnyH_take (i := 0) (oi := _) (v := ?_) rfl (by kernel_rfl) (by kernel_rfl) (by kernel_rfl) (fun _ _ _ h => h) (Or.inl ⟨by rfl, ?_⟩) (by assumption) ?_
              rotate_left 1
              · (intro w hSw; (try dsimp only at hSw); go_simp; first | done | with_reducible rfl)
              try go_simp
              refine wpAnyH_take (i := 1) (oi := _) (v := .int .i64 1) rfl (by kernel_rfl) (by kernel_rfl) (by kernel_rfl) (fun _ _ _ h => h) (Or.inl ⟨by kernel_rfl, ?_⟩) (by assumption) ?_
              · (intro w hSw; (try dsimp only at hSw); go_simp; first | done | with_reducible rfl)
              try go_simp
              refine wpAnyH_take (i := 2) (oi := _) (v := ?_) rfl (by kernel_rfl) (by kernel_rfl) (by kernel_rfl) (fun _ _ _ h => h) (Or.inl ⟨by rfl, ?_⟩) (by assumption) ?_
              rotate_left 1
              · (intro w hSw; (try dsimp only at hSw); go_simp; first | done | with_reducible rfl)
              try go_simp
              refine wpAnyH_take (i := 3) (oi := _) (v := .agg #[.int .i64 v1, .int .i64 v2, .int .i64 v3, .int .i64 v4]) rfl (by kernel_rfl) (by kernel_rfl) (by kernel_rfl) (fun _ _ _ h => h) (Or.inl ⟨by kernel_rfl, ?_⟩) (by assumption) ?_
              · (intro w hSw; (try dsimp only at hSw); go_simp; have y0 := gcell hSw tc0; have y1 := gcell hSw tc1; have y2 := gcell hSw tc2; have y3 := gcell hSw tc3; clear hSw; go_simp; first | done | with_reducible rfl)
              try go_simp
              refine wpAnyH_take (i := 4) (oi := _) (v := ?_) rfl (by kernel_rfl) (by kernel_rfl) (by kernel_rfl) (fun _ _ _ h => h) (Or.inl ⟨by rfl, ?_⟩) (by assumption) ?_
              rotate_left 1
              · (intro w hSw; (try dsimp only at hSw); go_simp; first | done | with_reducible rfl)
              try go_simp
              refine wpAnyH_take (i := 5) (oi := _) (v := .int .i64 0) rfl (by kernel_rfl) (by kernel_rfl) (by kernel_rfl) (fun _ _ _ h => h) (Or.inl ⟨by kernel_rfl, ?_⟩) (by assumption) ?_
              · (intro w hSw; (try dsimp only at hSw); go_simp; first | done | with_reducible rfl | decide)
              try go_simp
              refine wpAnyH_take (i := 6) (oi := _) (v := ?_) rfl (by kernel_rfl) (by kernel_rfl) (by kernel_rfl) (fun _ _ _ h => h) (Or.inl ⟨by rfl, ?_⟩) (by assumption) ?_
              rotate_left 1
              · (intro w hSw; (try dsimp only at hSw); go_simp; first | done | with_reducible rfl)
              try go_simp
              refine wpAnyH_take (i := 7) (oi := _) (v := .agg #[.int .i64 a, .int .i64 b, .int .i64 p]) rfl (by kernel_rfl) (by kernel_rfl) (by kernel_rfl) (fun _ _ _ h => h) (Or.inl ⟨by kernel_rfl, ?_⟩) (by assumption) ?_
              · (intro w hSw; (try dsimp only at hSw); go_simp; have y0 := gcell hSw ts0; have y1 := gcell hSw ts1; have y2 := gcell hSw ts2; clear hSw; go_simp; first | done | with_reducible rfl)
              try go_simp
              refine wpAnyH_take (i := 8) (oi := _) (v := ?_) rfl (by kernel_rfl) (by kernel_rfl) (by kernel_rfl) (fun _ _ _ h => h) (Or.inl ⟨by rfl, ?_⟩) (by assumption) ?_
              rotate_left 1
              · (intro w hSw; (try dsimp only at hSw); go_simp; first | done | with_reducible rfl)
              try go_simp
              refine wpAnyH_take (i := 9) (oi := _) (v := ?_) rfl (by kernel_rfl) (by kernel_rfl) (by kernel_rfl) (fun _ _ _ h => h) (Or.inl ⟨by rfl, ?_⟩) (by assumption) ?_
              rotate_left 1
              · (intro w hSw; (try dsimp only at hSw); go_simp; first | done | with_reducible rfl)
              try go_simp
              refine wpAnyH_take (i := 10) (oi := _) (v := ?_) rfl (by kernel_rfl) (by kernel_rfl) (by kernel_rfl) (fun _ _ _ h => h) (Or.inl ⟨by rfl, ?_⟩) (by assumption) ?_
              rotate_left 1
              · (intro w hSw; (try dsimp only at hSw); go_simp; first | done | with_reducible rfl)
              try go_simp
              refine wpAnyH_take (i := 11) (oi := _) (v := .slice B1 n1 e1) rfl (by kernel_rfl) (by kernel_rfl) (by kernel_rfl) (fun _ _ _ h => h) (Or.inl ⟨by kernel_rfl, ?_⟩) (by assumption) ?_
              · (intro w hSw; (try dsimp only at hSw); go_simp; have y0 := gcell hSw tz1; clear hSw; go_simp; first | done | with_reducible rfl)
              try go_simp
              refine wpAnyH_take (i := 12) (oi := _) (v := ?_) rfl (by kernel_rfl) (by kernel_rfl) (by kernel_rfl) (fun _ _ _ h => h) (Or.inl ⟨by rfl, ?_⟩) (by assumption) ?_
              rotate_left 1
              · (intro w hSw; (try dsimp only at hSw); go_simp; first | done | with_reducible rfl)
              try go_simp
              refine wpAnyH_take (i := 13) (oi := _) (v := ?_) rfl (by kernel_rfl) (by kernel_rfl) (by kernel_rfl) (fun _ _ _ h => h) (Or.inl ⟨by rfl, ?_⟩) (by assumption) ?_
              rotate_left 1
              · (intro w hSw; (try dsimp only at hSw); go_simp; first | done | with_reducible rfl)
              try go_simp
              refine wpAnyH_take (i := 14) (oi := _) (v := ?_) rfl (by kernel_rfl) (by kernel_rfl) (by kernel_rfl) (fun _ _ _ h => h) (Or.inl ⟨by rfl, ?_⟩) (by assumption) ?_
              rotate_left 1
              · (intro w hSw; (try dsimp only at hSw); go_simp; first | done | with_reducible rfl)
              try go_simp
              refine wpAnyH_take (i := 15) (oi := _) (v := .slice B2 n2 e2) rfl (by kernel_rfl) (by kernel_rfl) (by kernel_rfl) (fun _ _ _ h => h) (Or.inl ⟨by kernel_rfl, ?_⟩) (by assumption) ?_
              · (intro w hSw; (try dsimp only at hSw); go_simp; have y0 := gcell hSw tz2; clear hSw; go_simp; first | done | with_reducible rfl)
              try go_simp
              refine wpAnyH_ready (rs := [16]) (by kernel_rfl) (by simp) ?_
              refine AllReadyH.cons (o := _) rfl (fun K hK => ?_) ?_
              · clear hHeld
                go_simp
                refine (K23.out _ (gy2.trans gz)).mono ?_
                rintro e wz1 ⟨rfl, g⟩
                replace gz := gz.trans g
                clear g
                first | (refine hK.out _ _ ?_ (fun hHeld => ?_)) | (go_wp2_with fail; refine hK.out _ _ ?_ (fun hHeld => ?_))
                · (try dsimp only); (repeat (first | assumption | exact grown_refl _ | refine grown_dr ?_ | refine grown_dn ?_ | refine grown_al ?_))
                clear hK K
                refine wpAnyH_take (i := 17) (oi := _) (v := ?_) rfl (by kernel_rfl) (by kernel_rfl) (by kernel_rfl) (fun _ _ _ h => h) (Or.inl ⟨by rfl, ?_⟩) (by assumption) ?_
                rotate_left 1
                · (intro w hSw; (try dsimp only at hSw); go_simp; first | done | with_reducible rfl)
                try go_simp
                refine wpAnyH_take (i := 18) (oi := _) (v := ?_) rfl (by kernel_rfl) (by kernel_rfl) (by kernel_rfl) (fun _ _ _ h => h) (Or.inl ⟨by rfl, ?_⟩) (by assumption) ?_
                rotate_left 1
                · (intro w hSw; (try dsimp only at hSw); go_simp; first | done | with_reducible rfl)
                try go_simp
                refine wpAnyH_take (i := 19) (oi := _) (v := ?_) rfl (by kernel_rfl) (by kernel_rfl) (by kernel_rfl) (fun _ _ _ h => h) (Or.inl ⟨by rfl, ?_⟩) (by assumption) ?_
                rotate_left 1
                · (intro w hSw; (try dsimp only at hSw); go_simp; first | done | with_reducible rfl)
                try go_simp
                refine wpAnyH_take (i := 20) (oi := _) (v := ?_) rfl (by kernel_rfl) (by kernel_rfl) (by kernel_rfl) (fun _ _ _ h => h) (Or.inl ⟨by rfl, ?_⟩) (by assumption) ?_
                rotate_left 1
                · (intro w hSw; (try dsimp only at hSw); go_simp; first | done | with_reducible rfl)
                try go_simp
                refine wpAnyH_take (i := 21) (oi := _) (v := ?_) rfl (by kernel_rfl) (by kernel_rfl) (by kernel_rfl) (fun _ _ _ h => h) (Or.inl ⟨by rfl, ?_⟩) (by assumption) ?_
                rotate_left 1
                · (intro w hSw; (try dsimp only at hSw); go_simp; first | done | with_reducible rfl)
                try go_simp
                refine wpAnyH_done (by kernel_rfl) ?_ _
                refine NoPanic.normal ?_
                go_simp
                go_wp2_with fail
                go_roundw
                case rel => exact ⟨1 + 1, by omega, by go_num, gy2.trans gz⟩
                case measure => simp [intOf]
              exact AllReadyH.nil
            exact AllReadyH.nil
          · have K22 := Lib.hid (KC.out u cc d r x y z)
            have K23 := Lib.hid (KD.out u cc d r x y z)
            generalize coV u cc d r x y z gs cs = vv at *
            generalize coE u cc d r x y z gs cs = ee at *
            clear KC KD
            have c0 : wr.cell? ⟨BC, 0, none⟩ = some (.int .i64 u) := hC.c 0 rfl
            have c1 : wr.cell? ⟨BC, 1, none⟩ = some (.int .i64 cc) := hC.c 1 rfl
            have c2 : wr.cell? ⟨BC, 2, none⟩ = some (.int .i64 d) := hC.c 2 rfl
            have c3 : wr.cell? ⟨BC, 3, none⟩ = some (.int .i64 r) := hC.c 3 rfl
            have s0 : wr.cell? ⟨BS, 3, none⟩ = some (.int .i64 x) := hS.c 3 rfl
            have s1 : wr.cell? ⟨BS, 4, none⟩ = some (.int .i64 y) := hS.c 4 rfl
            have s2 : wr.cell? ⟨BS, 5, none⟩ = some (.int .i64 z) := hS.c 5 rfl
            clear hC hS
            go_upto_region 22 with fail
            have gz : wr.grownBy wr.drew none := grown_dr (grown_refl _)
            refine wp_region_noPanic ?_
            refine wp_region_held_drew (S := (fun w' => wr.grownBy w' none)) (by kernel_rfl) ?_ (fun hHeld => ?_)
            · (try dsimp only); (repeat (first | assumption | exact grown_refl _ | refine grown_dr ?_ | refine grown_dn ?_ | refine grown_al ?_))
            refine wpAnyH_take (i := 0) (oi := _) (v := ?_) rfl (by kernel_rfl) (by kernel_rfl) (by kernel_rfl) (fun _ _ _ h => h) (Or.inl ⟨by rfl, ?_⟩) (by assumption) ?_
            rotate_left 1
            · (intro w hSw; (try dsimp only at hSw); go_simp; first | done | with_reducible rfl)
            try go_simp
            refine wpAnyH_take (i := 1) (oi := _) (v := .int .i64 0) rfl (by kernel_rfl) (by kernel_rfl) (by kernel_rfl) (fun _ _ _ h => h) (Or.inl ⟨by kernel_rfl, ?_⟩) (by assumption) ?_
            · (intro w hSw; (try dsimp only at hSw); go_simp; first | done | with_reducible rfl)
            try go_simp
            refine wpAnyH_take (i := 2) (oi := _) (v := ?_) rfl (by kernel_rfl) (by kernel_rfl) (by kernel_rfl) (fun _ _ _ h => h) (Or.inl ⟨by rfl, ?_⟩) (by assumption) ?_
            rotate_left 1
            · (intro w hSw; (try dsimp only at hSw); go_simp; first | done | with_reducible rfl)
            try go_simp
            refine wpAnyH_take (i := 3) (oi := _) (v := .agg #[.int .i64 u, .int .i64 cc, .int .i64 d, .int .i64 r]) rfl (by kernel_rfl) (by kernel_rfl) (by kernel_rfl) (fun _ _ _ h => h) (Or.inl ⟨by kernel_rfl, ?_⟩) (by assumption) ?_
            · (intro w hSw; (try dsimp only at hSw); go_simp; have y0 := gcell hSw c0; have y1 := gcell hSw c1; have y2 := gcell hSw c2; have y3 := gcell hSw c3; clear hSw; go_simp; first | done | with_reducible rfl)
            try go_simp
            refine wpAnyH_take (i := 4) (oi := _) (v := ?_) rfl (by kernel_rfl) (by kernel_rfl) (by kernel_rfl) (fun _ _ _ h => h) (Or.inl ⟨by rfl, ?_⟩) (by assumption) ?_
            rotate_left 1
            · (intro w hSw; (try dsimp only at hSw); go_simp; first | done | with_reducible rfl)
            try go_simp
            refine wpAnyH_take (i := 5) (oi := _) (v := .int .i64 1) rfl (by kernel_rfl) (by kernel_rfl) (by kernel_rfl) (fun _ _ _ h => h) (Or.inl ⟨by kernel_rfl, ?_⟩) (by assumption) ?_
            · (intro w hSw; (try dsimp only at hSw); go_simp; first | done | with_reducible rfl | decide)
            try go_simp
            refine wpAnyH_take (i := 6) (oi := _) (v := ?_) rfl (by kernel_rfl) (by kernel_rfl) (by kernel_rfl) (fun _ _ _ h => h) (Or.inl ⟨by rfl, ?_⟩) (by assumption) ?_
            rotate_left 1
            · (intro w hSw; (try dsimp only at hSw); go_simp; first | done | with_reducible rfl)
            try go_simp
            refine wpAnyH_take (i := 7) (oi := _) (v := .agg #[.int .i64 x, .int .i64 y, .int .i64 z]) rfl (by kernel_rfl) (by kernel_rfl) (by kernel_rfl) (fun _ _ _ h => h) (Or.inl ⟨by kernel_rfl, ?_⟩) (by assumption) ?_
            · (intro w hSw; (try dsimp only at hSw); go_simp; have y0 := gcell hSw s0; have y1 := gcell hSw s1; have y2 := gcell hSw s2; clear hSw; go_simp; first | done | with_reducible rfl)
            try go_simp
            refine wpAnyH_take (i := 8) (oi := _) (v := ?_) rfl (by kernel_rfl) (by kernel_rfl) (by kernel_rfl) (fun _ _ _ h => h) (Or.inl ⟨by rfl, ?_⟩) (by assumption) ?_
            rotate_left 1
            · (intro w hSw; (try dsimp only at hSw); go_simp; first | done | with_reducible rfl)
            try go_simp
            refine wpAnyH_take (i := 9) (oi := _) (v := ?_) rfl (by kernel_rfl) (by kernel_rfl) (by kernel_rfl) (fun _ _ _ h => h) (Or.inl ⟨by rfl, ?_⟩) (by assumption) ?_
            rotate_left 1
            · (intro w hSw; (try dsimp only at hSw); go_simp; first | done | with_reducible rfl)
            try go_simp
            refine wpAnyH_take (i := 10) (oi := _) (v := ?_) rfl (by kernel_rfl) (by kernel_rfl) (by kernel_rfl) (fun _ _ _ h => h) (Or.inl ⟨by rfl, ?_⟩) (by assumption) ?_
            rotate_left 1
            · (intro w hSw; (try dsimp only at hSw); go_simp; first | done | with_reducible rfl)
            try go_simp
            refine wpAnyH_take (i := 11) (oi := _) (v := .slice B1 n1 e1) rfl (by kernel_rfl) (by kernel_rfl) (by kernel_rfl) (fun _ _ _ h => h) (Or.inl ⟨by kernel_rfl, ?_⟩) (by assumption) ?_
            · (intro w hSw; (try dsimp only at hSw); go_simp; have y0 := gcell hSw z1; clear hSw; go_simp; first | done | with_reducible rfl)
            try go_simp
            refine wpAnyH_take (i := 12) (oi := _) (v := ?_) rfl (by kernel_rfl) (by kernel_rfl) (by kernel_rfl) (fun _ _ _ h => h) (Or.inl ⟨by rfl, ?_⟩) (by assumption) ?_
            rotate_left 1
            · (intro w hSw; (try dsimp only at hSw); go_simp; first | done | with_reducible rfl)
            try go_simp
            refine wpAnyH_take (i := 13) (oi := _) (v := ?_) rfl (by kernel_rfl) (by kernel_rfl) (by kernel_rfl) (fun _ _ _ h => h) (Or.inl ⟨by rfl, ?_⟩) (by assumption) ?_
            rotate_left 1
            · (intro w hSw; (try dsimp only at hSw); go_simp; first | done | with_reducible rfl)
            try go_simp
            refine wpAnyH_take (i := 14) (oi := _) (v := ?_) rfl (by kernel_rfl) (by kernel_rfl) (by kernel_rfl) (fun _ _ _ h => h) (Or.inl ⟨by rfl, ?_⟩) (by assumption) ?_
            rotate_left 1
            · (intro w hSw; (try dsimp only at hSw); go_simp; first | done | with_reducible rfl)
            try go_simp
            refine wpAnyH_take (i := 15) (oi := _) (v := .slice B2 n2 e2) rfl (by kernel_rfl) (by kernel_rfl) (by kernel_rfl) (fun _ _ _ h => h) (Or.inl ⟨by kernel_rfl, ?_⟩) (by assumption) ?_
            · (intro w hSw; (try dsimp only at hSw); go_simp; have y0 := gcell hSw z2; clear hSw; go_simp; first | done | with_reducible rfl)
            try go_simp
            refine wpAnyH_ready (rs := [16]) (by kernel_rfl) (by simp) ?_
            refine AllReadyH.cons (o := _) rfl (fun K hK => ?_) ?_
            · clear hHeld
              go_simp
              refine (K22.out _ (gy.trans gz)).mono ?_
              rintro e wq1 ⟨rfl, g⟩
              replace gz := gz.trans g
              clear g
              first | (refine hK.out _ _ ?_ (fun hHeld => ?_)) | (go_wp2_with fail; refine hK.out _ _ ?_ (fun hHeld => ?_))
              · (try dsimp only); (repeat (first | assumption | exact grown_refl _ | refine grown_dr ?_ | refine grown_dn ?_ | refine grown_al ?_))
              clear hK K
              refine wpAnyH_take (i := 17) (oi := _) (v := ?_) rfl (by kernel_rfl) (by kernel_rfl) (by kernel_rfl) (fun _ _ _ h => h) (Or.inl ⟨by rfl, ?_⟩) (by assumption) ?_
              rotate_left 1
              · (intro w hSw; (try dsimp only at hSw); go_simp; first | done | with_reducible rfl)
              try go_simp
              refine wpAnyH_take (i := 18) (oi := _) (v := ?_) rfl (by kernel_rfl) (by kernel_rfl) (by kernel_rfl) (fun _ _ _ h => h) (Or.inl ⟨by rfl, ?_⟩) (by assumption) ?_
              rotate_left 1
              · (intro w hSw; (try dsimp only at hSw); go_simp; first | done | with_reducible rfl)
              try go_simp
              refine wpAnyH_take (i := 19) (oi := _) (v := ?_) rfl (by kernel_rfl) (by kernel_rfl) (by kernel_rfl) (fun _ _ _ h => h) (Or.inl ⟨by rfl, ?_⟩) (by assumption) ?_
              rotate_left 1
              · (intro w hSw; (try dsimp only at hSw); go_simp; first | done | with_reducible rfl)
              try go_simp
              refine wpAnyH_take (i := 20) (oi := _) (v := ?_) rfl (by kernel_rfl) (by kernel_rfl) (by kernel_rfl) (fun _ _ _ h => h) (Or.inl ⟨by rfl, ?_⟩) (by assumption) ?_
              rotate_left 1
              · (intro w hSw; (try dsimp only at hSw); go_simp; first | done | with_reducible rfl)
              try go_simp
              refine wpAnyH_take (i := 21) (oi := _) (v := ?_) rfl (by kernel_rfl) (by kernel_rfl) (by kernel_rfl) (fun _ _ _ h => h) (Or.inl ⟨by rfl, ?_⟩) (by assumption) ?_
              rotate_left 1
              · (intro w hSw; (try dsimp only at hSw); go_simp; first | done | with_reducible rfl)
              try go_simp
              refine wpAnyH_done (by kernel_rfl) ?_ _
              refine NoPanic.normal ?_
              go_simp
              have tc0 := gcell gz c0
              have tc1 := gcell gz c1
              have tc2 := gcell gz c2
              have tc3 := gcell gz c3
              have ts0 := gcell gz s0
              have ts1 := gcell gz s1
              have ts2 := gcell gz s2
              have tz1 := gcell gz z1
              have tz2 := gcell gz z2
              have gy2 := gy.trans gz
              clear gz gy c0 c1 c2 c3 s0 s1 s2 z1 z2 hHeld
              go_upto_region 23 with fail
              have gz : wq1.grownBy wq1.drew none := grown_dr (grown_refl _)
              refine wp_region_noPanic ?_
              refine wp_region_held_drew (S := (fun w' => wq1.grownBy w' none)) (by kernel_rfl) ?_ (fun hHeld => ?_)
              · (try dsimp only); (repeat (first | assumption | exact grown_refl _ | refine grown_dr ?_ | refine grown_dn ?_ | refine grown_al ?_))
              refine wpAnyH_take (i := 0) (oi := _) (v := ?_) rfl (by kernel_rfl) (by kernel_rfl) (by kernel_rfl) (fun _ _ _ h => h) (Or.inl ⟨by rfl, ?_⟩) (by assumption) ?_
              rotate_left 1
              · (intro w hSw; (try dsimp only at hSw); go_simp; first | done | with_reducible rfl)
              try go_simp
              refine wpAnyH_take (i := 1) (oi := _) (v := .int .i64 0) rfl (by kernel_rfl) (by kernel_rfl) (by kernel_rfl) (fun _ _ _ h => h) (Or.inl ⟨by kernel_rfl, ?_⟩) (by assumption) ?_
              · (intro w hSw; (try dsimp only at hSw); go_simp; first | done | with_reducible rfl)
              try go_simp
              refine wpAnyH_take (i := 2) (oi := _) (v := ?_) rfl (by kernel_rfl) (by kernel_rfl) (by kernel_rfl) (fun _ _ _ h => h) (Or.inl ⟨by rfl, ?_⟩) (by assumption) ?_
              rotate_left 1
              · (intro w hSw; (try dsimp only at hSw); go_simp; first | done | with_reducible rfl)
              try go_simp
              refine wpAnyH_take (i := 3) (oi := _) (v := .agg #[.int .i64 u, .int .i64 cc, .int .i64 d, .int .i64 r]) rfl (by kernel_rfl) (by kernel_rfl) (by kernel_rfl) (fun _ _ _ h => h) (Or.inl ⟨by kernel_rfl, ?_⟩) (by assumption) ?_
              · (intro w hSw; (try dsimp only at hSw); go_simp; have y0 := gcell hSw tc0; have y1 := gcell hSw tc1; have y2 := gcell hSw tc2; have y3 := gcell hSw tc3; clear hSw; go_simp; first | done | with_reducible rfl)
              try go_simp
              refine wpAnyH_take (i := 4) (oi := _) (v := ?_) rfl (by kernel_rfl) (by kernel_rfl) (by kernel_rfl) (fun _ _ _ h => h) (Or.inl ⟨by rfl, ?_⟩) (by assumption) ?_
              rotate_left 1
              · (intro w hSw; (try dsimp only at hSw); go_simp; first | done | with_reducible rfl)
              try go_simp
              refine wpAnyH_take (i := 5) (oi := _) (v := .int .i64 1) rfl (by kernel_rfl) (by kernel_rfl) (by kernel_rfl) (fun _ _ _ h => h) (Or.inl ⟨by kernel_rfl, ?_⟩) (by assumption) ?_
              · (intro w hSw; (try dsimp only at hSw); go_simp; first | done | with_reducible rfl | decide)
              try go_simp
              refine wpAnyH_take (i := 6) (oi := _) (v := ?_) rfl (by kernel_rfl) (by kernel_rfl) (by kernel_rfl) (fun _ _ _ h => h) (Or.inl ⟨by rfl, ?_⟩) (by assumption) ?_
              rotate_left 1
              · (intro w hSw; (try dsimp only at hSw); go_simp; first | done | with_reducible rfl)
              try go_simp
              refine wpAnyH_take (i := 7) (oi := _) (v := .agg #[.int .i64 x, .int .i64 y, .int .i64 z]) rfl (by kernel_rfl) (by kernel_rfl) (by kernel_rfl) (fun _ _ _ h => h) (Or.inl ⟨by kernel_rfl, ?_⟩) (by assumption) ?_
              · (intro w hSw; (try dsimp only at hSw); go_simp; have y0 := gcell hSw ts0; have y1 := gcell hSw ts1; have y2 := gcell hSw ts2; clear hSw; go_simp; first | done | with_reducible rfl)
              try go_simp
              refine wpAnyH_take (i := 8) (oi := _) (v := ?_) rfl (by kernel_rfl) (by kernel_rfl) (by kernel_rfl) (fun _ _ _ h => h) (Or.inl ⟨by rfl, ?_⟩) (by assumption) ?_
              rotate_left 1
              · (intro w hSw; (try dsimp only at hSw); go_simp; first | done | with_reducible rfl)
              try go_simp
              refine wpAnyH_take (i := 9) (oi := _) (v := ?_) rfl (by kernel_rfl) (by kernel_rfl) (by kernel_rfl) (fun _ _ _ h => h) (Or.inl ⟨by rfl, ?_⟩) (by assumption) ?_
              rotate_left 1
              · (intro w hSw; (try dsimp only at hSw); go_simp; first | done | with_reducible rfl)
              try go_simp
              refine wpAnyH_take (i := 10) (oi := _) (v := ?_) rfl (by kernel_rfl) (by kernel_rfl) (by kernel_rfl) (fun _ _ _ h => h) (Or.inl ⟨by rfl, ?_⟩) (by assumption) ?_
              rotate_left 1
              · (intro w hSw; (try dsimp only at hSw); go_simp; first | done | with_reducible rfl)
              try go_simp
              refine wpAnyH_take (i := 11) (oi := _) (v := .slice B1 n1 e1) rfl (by kernel_rfl) (by kernel_rfl) (by kernel_rfl) (fun _ _ _ h => h) (Or.inl ⟨by kernel_rfl, ?_⟩) (by assumption) ?_
              · (intro w hSw; (try dsimp only at hSw); go_simp; have y0 := gcell hSw tz1; clear hSw; go_simp; first | done | with_reducible rfl)
              try go_simp
              refine wpAnyH_take (i := 12) (oi := _) (v := ?_) rfl (by kernel_rfl) (by kernel_rfl) (by kernel_rfl) (fun _ _ _ h => h) (Or.inl ⟨by rfl, ?_⟩) (by assumption) ?_
              rotate_left 1
              · (intro w hSw; (try dsimp only at hSw); go_simp; first | done | with_reducible rfl)
              try go_simp
              refine wpAnyH_take (i := 13) (oi := _) (v := ?_) rfl (by kernel_rfl) (by kernel_rfl) (by kernel_rfl) (fun _ _ _ h => h) (Or.inl ⟨by rfl, ?_⟩) (by assumption) ?_
              rotate_left 1
              · (intro w hSw; (try dsimp only at hSw); go_simp; first | done | with_reducible rfl)
              try go_simp
              refine wpAnyH_take (i := 14) (oi := _) (v := ?_) rfl (by kernel_rfl) (by kernel_rfl) (by kernel_rfl) (fun _ _ _ h => h) (Or.inl ⟨by rfl, ?_⟩) (by assumption) ?_
              rotate_left 1
              · (intro w hSw; (try dsimp only at hSw); go_simp; first | done | with_reducible rfl)
              try go_simp
              refine wpAnyH_take (i := 15) (oi := _) (v := .slice B2 n2 e2) rfl (by kernel_rfl) (by kernel_rfl) (by kernel_rfl) (fun _ _ _ h => h) (Or.inl ⟨by kernel_rfl, ?_⟩) (by assumption) ?_
              · (intro w hSw; (try dsimp only at hSw); go_simp; have y0 := gcell hSw tz2; clear hSw; go_simp; first | done | with_reducible rfl)
              try go_simp
              refine wpAnyH_ready (rs := [16]) (by kernel_rfl) (by simp) ?_
              refine AllReadyH.cons (o := _) rfl (fun K hK => ?_) ?_
              · clear hHeld
                go_simp
                refine (K23.out _ (gy2.trans gz)).mono ?_
                rintro e wz1 ⟨rfl, g⟩
                replace gz := gz.trans g
                clear g
                first | (refine hK.out _ _ ?_ (fun hHeld => ?_)) | (go_wp2_with fail; refine hK.out _ _ ?_ (fun hHeld => ?_))
                · (try dsimp only); (repeat (first | assumption | exact grown_refl _ | refine grown_dr ?_ | refine grown_dn ?_ | refine grown_al ?_))
                clear hK K
                refine wpAnyH_take (i := 17) (oi := _) (v := ?_) rfl (by kernel_rfl) (by kernel_rfl) (by kernel_rfl) (fun _ _ _ h => h) (Or.inl ⟨by rfl, ?_⟩) (by assumption) ?_
                rotate_left 1
                · (intro w hSw; (try dsimp only at hSw); go_simp; first | done | with_reducible rfl)
                try go_simp
                refine wpAnyH_take (i := 18) (oi := _) (v := ?_) rfl (by kernel_rfl) (by kernel_rfl) (by kernel_rfl) (fun _ _ _ h => h) (Or.inl ⟨by rfl, ?_⟩) (by assumption) ?_
                rotate_left 1
                · (intro w hSw; (try dsimp only at hSw); go_simp; first | done | with_reducible rfl)
                try go_simp
                refine wpAnyH_take (i := 19) (oi := _) (v := ?_) rfl (by kernel_rfl) (by kernel_rfl) (by kernel_rfl) (fun _ _ _ h => h) (Or.inl ⟨by rfl, ?_⟩) (by assumption) ?_
                rotate_left 1
                · (intro w hSw; (try dsimp only at hSw); go_simp; first | done | with_reducible rfl)
                try go_simp
                refine wpAnyH_take (i := 20) (oi := _) (v := ?_) rfl (by kernel_rfl) (by kernel_rfl) (by kernel_rfl) (fun _ _ _ h => h) (Or.inl ⟨by rfl, ?_⟩) (by assumption) ?_
                rotate_left 1
                · (intro w hSw; (try dsimp only at hSw); go_simp; first | done | with_reducible rfl)
                try go_simp
                refine wpAnyH_take (i := 21) (oi := _) (v := ?_) rfl (by kernel_rfl) (by kernel_rfl) (by kernel_rfl) (fun _ _ _ h => h) (Or.inl ⟨by rfl, ?_⟩) (by assumption) ?_
                rotate_left 1
                · (intro w hSw; (try dsimp only at hSw); go_simp; first | done | with_reducible rfl)
                try go_simp
                refine wpAnyH_done (by kernel_rfl) ?_ _
                refine NoPanic.normal ?_
                go_simp
                go_wp2_with fail
                go_roundw
                case rel => exact ⟨2 + 1, by omega, by go_num, gy2.trans gz⟩
                case measure => simp [intOf]
              exact AllReadyH.nil
            exact AllReadyH.nil
          · have K22 := Lib.hid (KC.out v1 v2 v3 v4 x y z)
            have K23 := Lib.hid (KD.out v1 v2 v3 v4 x y z)
            generalize coV v1 v2 v3 v4 x y z gs cs = vv at *
            generalize coE v1 v2 v3 v4 x y z gs cs = ee at *
            clear KC KD
            have c0 : wr.cell? ⟨BC, 4, none⟩ = some (.int .i64 v1) := hC.c 4 rfl
            have c1 : wr.cell? ⟨BC, 5, none⟩ = some (.int .i64 v2) := hC.c 5 rfl
            have c2 : wr.cell? ⟨BC, 6, none⟩ = some (.int .i64 v3) := hC.c 6 rfl
            have c3 : wr.cell? ⟨BC, 7, none⟩ = some (.int .i64 v4) := hC.c 7 rfl
            have s0 : wr.cell? ⟨BS, 3, none⟩ = some (.int .i64 x) := hS.c 3 rfl
            have s1 : wr.cell? ⟨BS, 4, none⟩ = some (.int .i64 y) := hS.c 4 rfl
            have s2 : wr.cell? ⟨BS, 5, none⟩ = some (.int .i64 z) := hS.c 5 rfl
            clear hC hS
            go_upto_region 22 with fail
            have gz : wr.grownBy wr.drew none := grown_dr (grown_refl _)
            refine wp_region_noPanic ?_
            refine wp_region_held_drew (S := (fun w' => wr.grownBy w' none)) (by kernel_rfl) ?_ (fun hHeld => ?_)
            · (try dsimp only); (repeat (first | assumption | exact grown_refl _ | refine grown_dr ?_ | refine grown_dn ?_ | refine grown_al ?_))
            refine wpAnyH_take (i := 0) (oi := _) (v := ?_) rfl (by kernel_rfl) (by kernel_rfl) (by kernel_rfl) (fun _ _ _ h => h) (Or.inl ⟨by rfl, ?_⟩) (by assumption) ?_
            rotate_left 1
            · (intro w hSw; (try dsimp only at hSw); go_simp; first | done | with_reducible rfl)
            try go_simp
            refine wpAnyH_take (i := 1) (oi := _) (v := .int .i64 1) rfl (by kernel_rfl) (by kernel_rfl) (by kernel_rfl) (fun _ _ _ h => h) (Or.inl ⟨by kernel_rfl, ?_⟩) (by assumption) ?_
            · (intro w hSw; (try dsimp only at hSw); go_simp; first | done | with_reducible rfl)
            try go_simp
            refine wpAnyH_take (i := 2) (oi := _) (v := ?_) rfl (by kernel_rfl) (by kernel_rfl) (by kernel_rfl) (fun _ _ _ h => h) (Or.inl ⟨by rfl, ?_⟩) (by assumption) ?_
            rotate_left 1
            · (intro w hSw; (try dsimp only at hSw); go_simp; first | done | with_reducible rfl)
            try go_simp
            refine wpAnyH_take (i := 3) (oi := _) (v := .agg #[.int .i64 v1, .int .i64 v2, .int .i64 v3, .int .i64 v4]) rfl (by kernel_rfl) (by kernel_rfl) (by kernel_rfl) (fun _ _ _ h => h) (Or.inl ⟨by kernel_rfl, ?_⟩) (by assumption) ?_
            · (intro w hSw; (try dsimp only at hSw); go_simp; have y0 := gcell hSw c0; have y1 := gcell hSw c1; have y2 := gcell hSw c2; have y3 := gcell hSw c3; clear hSw; go_simp; first | done | with_reducible rfl)
            try go_simp
            refine wpAnyH_take (i := 4) (oi := _) (v := ?_) rfl (by kernel_rfl) (by kernel_rfl) (by kernel_rfl) (fun _ _ _ h => h) (Or.inl ⟨by rfl, ?_⟩) (by assumption) ?_
            rotate_left 1
            · (intro w hSw; (try dsimp only at hSw); go_simp; first | done | with_reducible rfl)
            try go_simp
            refine wpAnyH_take (i := 5) (oi := _) (v := .int .i64 1) rfl (by kernel_rfl) (by kernel_rfl) (by kernel_rfl) (fun _ _ _ h => h) (Or.inl ⟨by kernel_rfl, ?_⟩) (by assumption) ?_
            · (intro w hSw; (try dsimp only at hSw); go_simp; first | done | with_reducible rfl | decide)
            try go_simp
            refine wpAnyH_take (i := 6) (oi := _) (v := ?_) rfl (by kernel_rfl) (by kernel_rfl) (by kernel_rfl) (fun _ _ _ h => h) (Or.inl ⟨by rfl, ?_⟩) (by assumption) ?_
            rotate_left 1
            · (intro w hSw; (try dsimp only at hSw); go_simp; first | done | with_reducible rfl)
            try go_simp
            refine wpAnyH_take (i := 7) (oi := _) (v := .agg #[.int .i64 x, .int .i64 y, .int .i64 z]) rfl (by kernel_rfl) (by kernel_rfl) (by kernel_rfl) (fun _ _ _ h => h) (Or.inl ⟨by kernel_rfl, ?_⟩) (by assumption) ?_
            · (intro w hSw; (try dsimp only at hSw); go_simp; have y0 := gcell hSw s0; have y1 := gcell hSw s1; have y2 := gcell hSw s2; clear hSw; go_simp; first | done | with_reducible rfl)
            try go_simp
            refine wpAnyH_take (i := 8) (oi := _) (v := ?_) rfl (by kernel_rfl) (by kernel_rfl) (by kernel_rfl) (fun _ _ _ h => h) (Or.inl ⟨by rfl, ?_⟩) (by assumption) ?_
            rotate_left 1
            · (intro w hSw; (try dsimp only at hSw); go_simp; first | done | with_reducible rfl)
            try go_simp
            refine wpAnyH_take (i := 9) (oi := _) (v := ?_) rfl (by kernel_rfl) (by kernel_rfl) (by kernel_rfl) (fun _ _ _ h => h) (Or.inl ⟨by rfl, ?_⟩) (by assumption) ?_
            rotate_left 1
            · (intro w hSw; (try dsimp only at hSw); go_simp; first | done | with_reducible rfl)
            try go_simp
            refine wpAnyH_take (i := 10) (oi := _) (v := ?_) rfl (by kernel_rfl) (by kernel_rfl) (by kernel_rfl) (fun _ _ _ h => h) (Or.inl ⟨by rfl, ?_⟩) (by assumption) ?_
            rotate_left 1
            · (intro w hSw; (try dsimp only at hSw); go_simp; first | done | with_reducible rfl)
            try go_simp
            refine wpAnyH_take (i := 11) (oi := _) (v := .slice B1 n1 e1) rfl (by kernel_rfl) (by kernel_rfl) (by kernel_rfl) (fun _ _ _ h => h) (Or.inl ⟨by kernel_rfl, ?_⟩) (by assumption) ?_
            · (intro w hSw; (try dsimp only at hSw); go_simp; have y0 := gcell hSw z1; clear hSw; go_simp; first | done | with_reducible rfl)
            try go_simp
            refine wpAnyH_take (i := 12) (oi := _) (v := ?_) rfl (by kernel_rfl) (by kernel_rfl) (by kernel_rfl) (fun _ _ _ h => h) (Or.inl ⟨by rfl, ?_⟩) (by assumption) ?_
            rotate_left 1
            · (intro w hSw; (try dsimp only at hSw); go_simp; first | done | with_reducible rfl)
            try go_simp
            refine wpAnyH_take (i := 13) (oi := _) (v := ?_) rfl (by kernel_rfl) (by kernel_rfl) (by kernel_rfl) (fun _ _ _ h => h) (Or.inl ⟨by rfl, ?_⟩) (by assumption) ?_
            rotate_left 1
            · (intro w hSw; (try dsimp only at hSw); go_simp; first | done | with_reducible rfl)
            try go_simp
            refine wpAnyH_take (i := 14) (oi := _) (v := ?_) rfl (by kernel_rfl) (by kernel_rfl) (by kernel_rfl) (fun _ _ _ h => h) (Or.inl ⟨by rfl, ?_⟩) (by assumption) ?_
            rotate_left 1
            · (intro w hSw; (try dsimp only at hSw); go_simp; first | done | with_reducible rfl)
            try go_simp
            refine wpAnyH_take (i := 15) (oi := _) (v := .slice B2 n2 e2) rfl (by kernel_rfl) (by kernel_rfl) (by kernel_rfl) (fun _ _ _ h => h) (Or.inl ⟨by kernel_rfl, ?_⟩) (by assumption) ?_
            · (intro w hSw; (try dsimp only at hSw); go_simp; have y0 := gcell hSw z2; clear hSw; go_simp; first | done | with_reducible rfl)
            try go_simp
            refine wpAnyH_ready (rs := [16]) (by kernel_rfl) (by simp) ?_
            refine AllReadyH.cons (o := _) rfl (fun K hK => ?_) ?_
            · clear hHeld
              go_simp
              refine (K22.out _ (gy.trans gz)).mono ?_
              rintro e wq1 ⟨rfl, g⟩
              replace gz := gz.trans g
              clear g
              first | (refine hK.out _ _ ?_ (fun hHeld => ?_)) | (go_wp2_with fail; refine hK.out _ _ ?_ (fun hHeld => ?_))
              · (try dsimp only); (repeat (first | assumption | exact grown_refl _ | refine grown_dr ?_ | refine grown_dn ?_ | refine grown_al ?_))
              clear hK K
              refine wpAnyH_take (i := 17) (oi := _) (v := ?_) rfl (by kernel_rfl) (by kernel_rfl) (by kernel_rfl) (fun _ _ _ h => h) (Or.inl ⟨by rfl, ?_⟩) (by assumption) ?_
              rotate_left 1
              · (intro w hSw; (try dsimp only at hSw); go_simp; first | done | with_reducible rfl)
              try go_simp
              refine wpAnyH_take (i := 18) (oi := _) (v := ?_) rfl (by kernel_rfl) (by kernel_rfl) (by kernel_rfl) (fun _ _ _ h => h) (Or.inl ⟨by rfl, ?_⟩) (by assumption) ?_
              rotate_left 1
              · (intro w hSw; (try dsimp only at hSw); go_simp; first | done | with_reducible rfl)
              try go_simp
              refine wpAnyH_take (i := 19) (oi := _) (v := ?_) rfl (by kernel_rfl) (by kernel_rfl) (by kernel_rfl) (fun _ _ _ h => h) (Or.inl ⟨by rfl, ?_⟩) (by assumption) ?_
              rotate_left 1
              · (intro w hSw; (try dsimp only at hSw); go_simp; first | done | with_reducible rfl)
              try go_simp
              refine wpAnyH_take (i := 20) (oi := _) (v := ?_) rfl (by kernel_rfl) (by kernel_rfl) (by kernel_rfl) (fun _ _ _ h => h) (Or.inl ⟨by rfl, ?_⟩) (by assumption) ?_
              rotate_left 1
              · (intro w hSw; (try dsimp only at hSw); go_simp; first | done | with_reducible rfl)
              try go_simp
              refine wpAnyH_take (i := 21) (oi := _) (v := ?_) rfl (by kernel_rfl) (by kernel_rfl) (by kernel_rfl) (fun _ _ _ h => h) (Or.inl ⟨by rfl, ?_⟩) (by assumption) ?_
              rotate_left 1
              · (intro w hSw; (try dsimp only at hSw); go_simp; first | done | with_reducible rfl)
              try go_simp
              refine wpAnyH_done (by kernel_rfl) ?_ _
              refine NoPanic.normal ?_
              go_simp
              have tc0 := gcell gz c0
              have tc1 := gcell gz c1
              have tc2 := gcell gz c2
              have tc3 := gcell gz c3
              have ts0 := gcell gz s0
              have ts1 := gcell gz s1
              have ts2 := gcell gz s2
              have tz1 := gcell gz z1
              have tz2 := gcell gz z2
              have gy2 := gy.trans gz
              clear gz gy c0 c1 c2 c3 s0 s1 s2 z1 z2 hHeld
              go_upto_region 23 with fail
              have gz : wq1.grownBy wq1.drew none := grown_dr (grown_refl _)
              refine wp_region_noPanic ?_
              refine wp_region_held_drew (S := (fun w' => wq1.grownBy w' none)) (by kernel_rfl) ?_ (fun hHeld => ?_)
              · (try dsimp only); (repeat (first | assumption | exact grown_refl _ | refine grown_dr ?_ | refine grown_dn ?_ | refine grown_al ?_))
              refine wpAnyH_take (i := 0) (oi := _) (v := ?_) rfl (by kernel_rfl) (by kernel_rfl) (by kernel_rfl) (fun _ _ _ h => h) (Or.inl ⟨by rfl, ?_⟩) (by assumption) ?_
              rotate_left 1
              · (intro w hSw; (try dsimp only at hSw); go_simp; first | done | with_reducible rfl)
              try go_simp
              refine wpAnyH_take (i := 1) (oi := _) (v := .int .i64 1) rfl (by kernel_rfl) (by kernel_rfl) (by kernel_rfl) (fun _ _ _ h => h) (Or.inl ⟨by kernel_rfl, ?_⟩) (by assumption) ?_
              · (intro w hSw; (try dsimp only at hSw); go_simp; first | done | with_reducible rfl)
              try go_simp
              refine wpAnyH_take (i := 2) (oi := _) (v := ?_) rfl (by kernel_rfl) (by kernel_rfl) (by kernel_rfl) (fun _ _ _ h => h) (Or.inl ⟨by rfl, ?_⟩) (by assumption) ?_
              rotate_left 1
              · (intro w hSw; (try dsimp only at hSw); go_simp; first | done | with_reducible rfl)
              try go_simp
              refine wpAnyH_take (i := 3) (oi := _) (v := .agg #[.int .i64 v1, .int .i64 v2, .int .i64 v3, .int .i64 v4]) rfl (by kernel_rfl) (by kernel_rfl) (by kernel_rfl) (fun _ _ _ h => h) (Or.inl ⟨by kernel_rfl, ?_⟩) (by assumption) ?_
              · (intro w hSw; (try dsimp only at hSw); go_simp; have y0 := gcell hSw tc0; have y1 := gcell hSw tc1; have y2 := gcell hSw tc2; have y3 := gcell hSw tc3; clear hSw; go_simp; first | done | with_reducible rfl)
              try go_simp
              refine wpAnyH_take (i := 4) (oi := _) (v := ?_) rfl (by kernel_rfl) (by kernel_rfl) (by kernel_rfl) (fun _ _ _ h => h) (Or.inl ⟨by rfl, ?_⟩) (by assumption) ?_
              rotate_left 1
              · (intro w hSw; (try dsimp only at hSw); go_simp; first | done | with_reducible rfl)
              try go_simp
              refine wpAnyH_take (i := 5) (oi := _) (v := .int .i64 1) rfl (by kernel_rfl) (by kernel_rfl) (by kernel_rfl) (fun _ _ _ h => h) (Or.inl ⟨by kernel_rfl, ?_⟩) (by assumption) ?_
              · (intro w hSw; (try dsimp only at hSw); go_simp; first | done | with_reducible rfl | decide)
              try go_simp
              refine wpAnyH_take (i := 6) (oi := _) (v := ?_) rfl (by kernel_rfl) (by kernel_rfl) (by kernel_rfl) (fun _ _ _ h => h) (Or.inl ⟨by rfl, ?_⟩) (by assumption) ?_
              rotate_left 1
              · (intro w hSw; (try dsimp only at hSw); go_simp; first | done | with_reducible rfl)
              try go_simp
              refine wpAnyH_take (i := 7) (oi := _) (v := .agg #[.int .i64 x, .int .i64 y, .int .i64 z]) rfl (by kernel_rfl) (by kernel_rfl) (by kernel_rfl) (fun _ _ _ h => h) (Or.inl ⟨by kernel_rfl, ?_⟩) (by assumption) ?_
              · (intro w hSw; (try dsimp only at hSw); go_simp; have y0 := gcell hSw ts0; have y1 := gcell hSw ts1; have y2 := gcell hSw ts2; clear hSw; go_simp; first | done | with_reducible rfl)
              try go_simp
              refine wpAnyH_take (i := 8) (oi := _) (v := ?_) rfl (by kernel_rfl) (by kernel_rfl) (by kernel_rfl) (fun _ _ _ h => h) (Or.inl ⟨by rfl, ?_⟩) (by assumption) ?_
              rotate_left 1
              · (intro w hSw; (try dsimp only at hSw); go_simp; first | done | with_reducible rfl)
              try go_simp
              refine wpAnyH_take (i := 9) (oi := _) (v := ?_) rfl (by kernel_rfl) (by kernel_rfl) (by kernel_rfl) (fun _ _ _ h => h) (Or.inl ⟨by rfl, ?_⟩) (by assumption) ?_
              rotate_left 1
              · (intro w hSw; (try dsimp only at hSw); go_simp; first | done | with_reducible rfl)
              try go_simp
              refine wpAnyH_take (i := 10) (oi := _) (v := ?_) rfl (by kernel_rfl) (by kernel_rfl) (by kernel_rfl) (fun _ _ _ h => h) (Or.inl ⟨by rfl, ?_⟩) (by assumption) ?_
              rotate_left 1
              · (intro w hSw; (try dsimp only at hSw); go_simp; first | done | with_reducible rfl)
              try go_simp
              refine wpAnyH_take (i := 11) (oi := _) (v := .slice B1 n1 e1) rfl (by kernel_rfl) (by kernel_rfl) (by kernel_rfl) (fun _ _ _ h => h) (Or.inl ⟨by kernel_rfl, ?_⟩) (by assumption) ?_
              · (intro w hSw; (try dsimp only at hSw); go_simp; have y0 := gcell hSw tz1; clear hSw; go_simp; first | done | with_reducible rfl)
              try go_simp
              refine wpAnyH_take (i := 12) (oi := _) (v := ?_) rfl (by kernel_rfl) (by kernel_rfl) (by kernel_rfl) (fun _ _ _ h => h) (Or.inl ⟨by rfl, ?_⟩) (by assumption) ?_
              rotate_left 1
              · (intro w hSw; (try dsimp only at hSw); go_simp; first | done | with_reducible rfl)
              try go_simp
              refine wpAnyH_take (i := 13) (oi := _) (v := ?_) rfl (by kernel_rfl) (by kernel_rfl) (by kernel_rfl) (fun _ _ _ h => h) (Or.inl ⟨by rfl, ?_⟩) (by assumption) ?_
              rotate_left 1
              · (intro w hSw; (try dsimp only at hSw); go_simp; first | done | with_reducible rfl)
              try go_simp
              refine wpAnyH_take (i := 14) (oi := _) (v := ?_) rfl (by kernel_rfl) (by kernel_rfl) (by kernel_rfl) (fun _ _ _ h => h) (Or.inl ⟨by rfl, ?_⟩) (by assumption) ?_
              rotate_left 1
              · (intro w hSw; (try dsimp only at hSw); go_simp; first | done | with_reducible rfl)
              try go_simp
              refine wpAnyH_take (i := 15) (oi := _) (v := .slice B2 n2 e2) rfl (by kernel_rfl) (by kernel_rfl) (by kernel_rfl) (fun _ _ _ h => h) (Or.inl ⟨by kernel_rfl, ?_⟩) (by assumption) ?_
              · (intro w hSw; (try dsimp only at hSw); go_simp; have y0 := gcell hSw tz2; clear hSw; go_simp; first | done | with_reducible rfl)
              try go_simp
              refine wpAnyH_ready (rs := [16]) (by kernel_rfl) (by simp) ?_
              refine AllReadyH.cons (o := _) rfl (fun K hK => ?_) ?_
              · clear hHeld
                go_simp
                refine (K23.out _ (gy2.trans gz)).mono ?_
                rintro e wz1 ⟨rfl, g⟩
                replace gz := gz.trans g
                clear g
                first | (refine hK.out _ _ ?_ (fun hHeld => ?_)) | (go_wp2_with fail; refine hK.out _ _ ?_ (fun hHeld => ?_))
                · (try dsimp only); (repeat (first | assumption | exact grown_refl _ | refine grown_dr ?_ | refine grown_dn ?_ | refine grown_al ?_))
                clear hK K
                refine wpAnyH_take (i := 17) (oi := _) (v := ?_) rfl (by kernel_rfl) (by kernel_rfl) (by kernel_rfl) (fun _ _ _ h => h) (Or.inl ⟨by rfl, ?_⟩) (by assumption) ?_
                rotate_left 1
                · (intro w hSw; (try dsimp only at hSw); go_simp; first | done | with_reducible rfl)
                try go_simp
                refine wpAnyH_take (i := 18) (oi := _) (v := ?_) rfl (by kernel_rfl) (by kernel_rfl) (by kernel_rfl) (fun _ _ _ h => h) (Or.inl ⟨by rfl, ?_⟩) (by assumption) ?_
                rotate_left 1
                · (intro w hSw; (try dsimp only at hSw); go_simp; first | done | with_reducible rfl)
                try go_simp
                refine wpAnyH_take (i := 19) (oi := _) (v := ?_) rfl (by kernel_rfl) (by kernel_rfl) (by kernel_rfl) (fun _ _ _ h => h) (Or.inl ⟨by rfl, ?_⟩) (by assumption) ?_
                rotate_left 1
                · (intro w hSw; (try dsimp only at hSw); go_simp; first | done | with_reducible rfl)
                try go_simp
                refine wpAnyH_take (i := 20) (oi := _) (v := ?_) rfl (by kernel_rfl) (by kernel_rfl) (by kernel_rfl) (fun _ _ _ h => h) (Or.inl ⟨by rfl, ?_⟩) (by assumption) ?_
                rotate_left 1
                · (intro w hSw; (try dsimp only at hSw); go_simp; first | done | with_reducible rfl)
                try go_simp
                refine wpAnyH_take (i := 21) (oi := _) (v := ?_) rfl (by kernel_rfl) (by kernel_rfl) (by kernel_rfl) (fun _ _ _ h => h) (Or.inl ⟨by rfl, ?_⟩) (by assumption) ?_
                rotate_left 1
                · (intro w hSw; (try dsimp only at hSw); go_simp; first | done | with_reducible rfl)
                try go_simp
                refine wpAnyH_done (by kernel_rfl) ?_ _
                refine NoPanic.normal ?_
                go_simp
                go_wp2_with fail
                go_roundw
                case rel => exact ⟨3 + 1, by omega, by go_num, gy2.trans gz⟩
                case measure => simp [intOf]
              exact AllReadyH.nil
            exact AllReadyH.nil
        · obtain rfl : q = 4 := by omega
          go_wp2_with fail
          go_roundw
          case rel => exact ⟨j + 1, by omega, by go_num, gw.trans gy⟩
          case measure => simp [intOf]; omega
    · obtain rfl : j = 3 := by omega
      have gg2 := gg.trans gw
      clear FP FC FS gg gw x y z
      generalize wo = wp at *
      have hmk : ∀ v : World, (Instr.makeSlice 22 (.int .i64 2001) (.int .i64 2001)).run Try.prog v = .ok (.slice (some ⟨v.heap.size, 0, none⟩) 2001 2001) (v.alloc (.cells (longA 2001 0) 3)) := fun v => long_mk 2001 (by decide) v
      have hat := Lib.hid (fun q (h : q < 2001) => long_at h)
      have hnx := Lib.hid (fun q (h : q < 2001) => long_next h)
      have hone := Lib.hid (fun V B (h : Row V B 3 (longA 2001 2001)) => nums_ones h)
      have hrest : Hid (∀ V B, Row V B 3 (longA 2001 2001) → Nums V (some ⟨B, 1, none⟩) (List.replicate 2000 1)) := Lib.hid (fun V B h => nums_rest h)
      have hm1 := mean_ones (m := 2000) (by decide) (by decide)
      have hm2 := mean_many (m := 2001) (by decide)
      have len1 : 2000 = (List.replicate 2000 (1 : Int)).length := List.length_replicate.symm
      have len2 : 2001 = (List.replicate 2001 (1 : Int)).length := List.length_replicate.symm
      have KL := fun V B (n1 : Nums V (some ⟨B, 1, none⟩) (List.replicate 2000 1)) => mean_k (List.replicate 2000 1) (List.replicate 2000 1) _ _ 2000 2000 2000 2000 V len1 len1 (by unfold maxLen; decide) (by unfold maxLen; decide) n1 n1
      have KM := fun V B (n1 : Nums V (some ⟨B, 0, none⟩) (List.replicate 2001 1)) => mean_k (List.replicate 2001 1) (List.replicate 2001 1) _ _ 2001 2001 2001 2001 V len2 len2 (by unfold maxLen; decide) (by unfold maxLen; decide) n1 n1
      rw [hm1.1, hm1.2.1, hm1.2.2] at KL
      rw [hm2.1, hm2.2.1, hm2.2.2] at KM
      replace KL := Lib.hid KL
      replace KM := Lib.hid KM
      have HJ := Lib.hid (fun V B (h : Row V B 3 (longA 2001 2001)) => And.intro (hone.out V B h) (hrest.out V B h))
      clear hone hrest hm1 hm2 len1 len2
      generalize List.replicate 2000 (1 : Int) = L1 at *
      generalize List.replicate 2001 (1 : Int) = L2 at *
      go_upto_region 26 with fail
      go_upto_region 27 with fail
      obtain ⟨wl, el, HL, g⟩ := row_of wp 3 (longA 2001 0)
      rw [← el]
      have hB : w.heap.size ≤ wp.heap.size := gg2.size
      replace gg2 := gg2.trans g
      clear g el hmk
      generalize longA 2001 = LA at *
      generalize wp.heap.size = lb at *
      go_wp2_with fail
      go_loopw [193] (fun i wr => ∃ q : Nat, q ≤ 2001 ∧ i = .int .i64 q ∧ Row wr lb 3 (LA q) ∧ w.grownBy wr none) (fun i _ => 2001 - (intOf i).toNat)
      case atStart => exact ⟨0, by omega, rfl, HL, gg2⟩
      case round =>
        clear HL gg2
        obtain ⟨q, hq, rfl, HL, gg⟩ := hrel
        by_cases hlq : q < 2001
        · have k0 := HL.c q (hat.out q hlq)
          have k1 := HL.fz q
          have k2 := HL.lt
          have HL2 := HL.set q (.int .i64 1)
          rw [hnx.out q hlq] at HL2
          have gg2 := grown_set (i := q) (v := .int .i64 1) gg (.inl hB)
          clear HL gg
          go_wp2_with fail
          go_roundw
          case rel => exact ⟨q + 1, by omega, by go_num, HL2, gg2⟩
          case measure => simp [intOf]; omega
        · obtain rfl : q = 2001 := by omega
          obtain ⟨J1, J2⟩ := HJ.out _ _ HL
          clear hat hnx HJ HL
          go_upto_region 32 with fail
          go_cut [26, 27] (fun v e wx => ∃ B, v = .pointer (some ⟨B, 0, none⟩) ∧ e = .int .i64 0 ∧ R2 wx B 1 1 ∧ wr.grownBy wx none)
          case first =>
            have gz : wr.grownBy wr.drew none := grown_dr (grown_refl _)
            refine wp_region_noPanic ?_
            refine wp_region_held_drew (S := (fun w' => wr.grownBy w' none)) (by kernel_rfl) ?_ (fun hHeld => ?_)
            · (try dsimp only); (repeat (first | assumption | exact grown_refl _ | refine grown_dr ?_ | refine grown_dn ?_ | refine grown_al ?_))
            refine wpAnyH_take (i := 0) (oi := _) (v := ?_) rfl (by kernel_rfl) (by kernel_rfl) (by kernel_rfl) (fun _ _ _ h => h) (Or.inl ⟨by rfl, ?_⟩) (by assumption) ?_
            rotate_left 1
            · (intro w hSw; (try dsimp only at hSw); go_simp; first | done | with_reducible rfl)
            try go_simp
            refine wpAnyH_take (i := 1) (oi := _) (v := .slice (some ⟨lb, 1, none⟩) 2000 2000) rfl (by kernel_rfl) (by kernel_rfl) (by kernel_rfl) (fun _ _ _ h => h) (Or.inl ⟨by kernel_rfl, ?_⟩) (by assumption) ?_
            · (intro w hSw; (try dsimp only at hSw); go_simp; first | done | with_reducible rfl)
            try go_simp
            refine wpAnyH_take (i := 2) (oi := _) (v := ?_) rfl (by kernel_rfl) (by kernel_rfl) (by kernel_rfl) (fun _ _ _ h => h) (Or.inl ⟨by rfl, ?_⟩) (by assumption) ?_
            rotate_left 1
            · (intro w hSw; (try dsimp only at hSw); go_simp; first | done | with_reducible rfl)
            try go_simp
            refine wpAnyH_take (i := 3) (oi := _) (v := .slice (some ⟨lb, 1, none⟩) 2000 2000) rfl (by kernel_rfl) (by kernel_rfl) (by kernel_rfl) (fun _ _ _ h => h) (Or.inl ⟨by kernel_rfl, ?_⟩) (by assumption) ?_
            · (intro w hSw; (try dsimp only at hSw); go_simp; first | done | with_reducible rfl)
            try go_simp
            refine wpAnyH_ready (rs := [4, 8]) (by kernel_rfl) (by simp) ?_
            refine AllReadyH.cons (o := _) rfl (fun K hK => ?_) ?_
            · clear hHeld
              go_simp
              refine (KL.out _ _ (J2.kept gz)).mono ?_
              rintro e wq1 ⟨rfl, g⟩
              replace gz := gz.trans g
              clear g
              first | (refine hK.out _ _ ?_ (fun hHeld => ?_)) | (go_wp2_with fail; refine hK.out _ _ ?_ (fun hHeld => ?_))
              · (try dsimp only); (repeat (first | assumption | exact grown_refl _ | refine grown_dr ?_ | refine grown_dn ?_ | refine grown_al ?_))
              clear hK K
              refine wpAnyH_take (i := 5) (oi := _) (v := ?_) rfl (by kernel_rfl) (by kernel_rfl) (by kernel_rfl) (fun _ _ _ h => h) (Or.inl ⟨by rfl, ?_⟩) (by assumption) ?_
              rotate_left 1
              · (intro w hSw; (try dsimp only at hSw); go_simp; first | done | with_reducible rfl)
              try go_simp
              refine wpAnyH_take (i := 6) (oi := _) (v := ?_) rfl (by kernel_rfl) (by kernel_rfl) (by kernel_rfl) (fun _ _ _ h => h) (Or.inl ⟨by rfl, ?_⟩) (by assumption) ?_
              rotate_left 1
              · (intro w hSw; (try dsimp only at hSw); go_simp; first | done | with_reducible rfl)
              try go_simp
              refine wpAnyH_take (i := 7) (oi := _) (v := ?_) rfl (by kernel_rfl) (by kernel_rfl) (by kernel_rfl) (fun _ _ _ h => h) (Or.inl ⟨by rfl, ?_⟩) (by assumption) ?_
              rotate_left 1
              · (intro w hSw; (try dsimp only at hSw); go_simp; first | done | with_reducible rfl)
              try go_simp
              refine wpAnyH_ready (rs := [8]) (by kernel_rfl) (by simp) ?_
              refine AllReadyH.cons (o := _) rfl (fun K hK => ?_) ?_
              · clear hHeld
                go_simp
                obtain ⟨wq2, ea, RA, g⟩ := row_of wq1 46 #[.int .i64 0, .int .i64 0]
                have hBRA : wr.heap.size ≤ wq1.heap.size := gz.size
                replace gz := gz.trans g
                clear g
                first | (refine hK.out _ _ ?_ (fun hHeld => ?_)) | (go_wp2_with fail; refine hK.out _ _ ?_ (fun hHeld => ?_))
                · (try dsimp only); (first | rw [← ea] | skip); exact gz
                clear hK K
                rw [← ea]
                clear ea hHeld
                have hHeld := gz
                refine wpAnyH_ready (rs := [9]) (by kernel_rfl) (by simp) ?_
                refine AllReadyH.cons (o := _) rfl (fun K hK => ?_) ?_
                · clear hHeld
                  have k0 := RA.c 0 rfl
                  have f0 := RA.fz 0
                  have k1 := RA.c 1 rfl
                  have f1 := RA.fz 1
                  have hsz := RA.lt
                  have gst := (grown_set (i := 1) (v := .int .i64 1) (grown_set (i := 0) (v := .int .i64 1) gz (.inl hBRA)) (.inl hBRA))
                  have RS := ((RA.set 0 (.int .i64 1)).set 1 (.int .i64 1))
                  go_simp
                  first | (refine hK.out _ _ ?_ (fun hHeld => ?_)) | (go_wp2_with fail; refine hK.out _ _ ?_ (fun hHeld => ?_))
                  · (try dsimp only); exact gst
                  clear hK K
                  refine wpAnyH_take (i := 10) (oi := _) (v := ?_) rfl (by kernel_rfl) (by kernel_rfl) (by kernel_rfl) (fun _ _ _ h => h) (Or.inl ⟨by rfl, ?_⟩) (by assumption) ?_
                  rotate_left 1
                  · (intro w hSw; (try dsimp only at hSw); go_simp; first | done | with_reducible rfl)
                  try go_simp
                  refine wpAnyH_done (by kernel_rfl) ?_ _
                  refine NoPanic.normal ?_
                  go_simp
                  go_wp2_with fail
                  go_meet
                  exact ⟨_, rfl, rfl, RS, gst⟩
                exact AllReadyH.nil
              exact AllReadyH.nil
            refine AllReadyH.cons (o := _) rfl (fun K hK => ?_) ?_
            · clear hHeld
              go_simp
              obtain ⟨wq1, ea, RA, g⟩ := row_of wr 46 #[.int .i64 0, .int .i64 0]
              have gb : wr.drew.grownBy wq1.drew none := ⟨g.os, g.tape, g.output, g.size, g.block⟩
              have hBRA : wr.heap.size ≤ wr.heap.size := gz.size
              replace RA := RA.kept (grown_dr (grown_refl wq1))
              clear g
              have g := gb
              clear gb
              replace gz := gz.trans g
              clear g
              first | (refine hK.out _ _ ?_ (fun hHeld => ?_)) | (go_wp2_with fail; refine hK.out _ _ ?_ (fun hHeld => ?_))
              · (try dsimp only); (first | rw [← ea] | skip); exact gz
              clear hK K
              rw [← ea]
              clear ea hHeld
              have hHeld := gz
              refine wpAnyH_ready (rs := [4]) (by kernel_rfl) (by simp) ?_
              refine AllReadyH.cons (o := _) rfl (fun K hK => ?_) ?_
              · clear hHeld
                go_simp
                refine (KL.out _ _ (J2.kept gz)).mono ?_
                rintro e wq2 ⟨rfl, g⟩
                replace RA := RA.kept g
                replace gz := gz.trans g
                clear g
                first | (refine hK.out _ _ ?_ (fun hHeld => ?_)) | (go_wp2_with fail; refine hK.out _ _ ?_ (fun hHeld => ?_))
                · (try dsimp only); (repeat (first | assumption | exact grown_refl _ | refine grown_dr ?_ | refine grown_dn ?_ | refine grown_al ?_))
                clear hK K
                refine wpAnyH_take (i := 5) (oi := _) (v := ?_) rfl (by kernel_rfl) (by kernel_rfl) (by kernel_rfl) (fun _ _ _ h => h) (Or.inl ⟨by rfl, ?_⟩) (by assumption) ?_
                rotate_left 1
                · (intro w hSw; (try dsimp only at hSw); go_simp; first | done | with_reducible rfl)
                try go_simp
                refine wpAnyH_take (i := 6) (oi := _) (v := ?_) rfl (by kernel_rfl) (by kernel_rfl) (by kernel_rfl) (fun _ _ _ h => h) (Or.inl ⟨by rfl, ?_⟩) (by assumption) ?_
                rotate_left 1
                · (intro w hSw; (try dsimp only at hSw); go_simp; first | done | with_reducible rfl)
                try go_simp
                refine wpAnyH_take (i := 7) (oi := _) (v := ?_) rfl (by kernel_rfl) (by kernel_rfl) (by kernel_rfl) (fun _ _ _ h => h) (Or.inl ⟨by rfl, ?_⟩) (by assumption) ?_
                rotate_left 1
                · (intro w hSw; (try dsimp only at hSw); go_simp; first | done | with_reducible rfl)
                try go_simp
                refine wpAnyH_ready (rs := [9]) (by kernel_rfl) (by simp) ?_
                refine AllReadyH.cons (o := _) rfl (fun K hK => ?_) ?_
                · clear hHeld
                  have k0 := RA.c 0 rfl
                  have f0 := RA.fz 0
                  have k1 := RA.c 1 rfl
                  have f1 := RA.fz 1
                  have hsz := RA.lt
                  have gst := (grown_set (i := 1) (v := .int .i64 1) (grown_set (i := 0) (v := .int .i64 1) gz (.inl hBRA)) (.inl hBRA))
                  have RS := ((RA.set 0 (.int .i64 1)).set 1 (.int .i64 1))
                  go_simp
                  first | (refine hK.out _ _ ?_ (fun hHeld => ?_)) | (go_wp2_with fail; refine hK.out _ _ ?_ (fun hHeld => ?_))
                  · (try dsimp only); exact gst
                  clear hK K
                  refine wpAnyH_take (i := 10) (oi := _) (v := ?_) rfl (by kernel_rfl) (by kernel_rfl) (by kernel_rfl) (fun _ _ _ h => h) (Or.inl ⟨by rfl, ?_⟩) (by assumption) ?_
                  rotate_left 1
                  · (intro w hSw; (try dsimp only at hSw); go_simp; first | done | with_reducible rfl)
                  try go_simp
                  refine wpAnyH_done (by kernel_rfl) ?_ _
                  refine NoPanic.normal ?_
                  go_simp
                  go_wp2_with fail
                  go_meet
                  exact ⟨_, rfl, rfl, RS, gst⟩
                exact AllReadyH.nil
              exact AllReadyH.nil
            exact AllReadyH.nil
          obtain ⟨P1, rfl, rfl, HA, g⟩ := hcut
          replace gg := gg.trans g
          replace J1 := J1.kept g
          clear J2 KL g
          go_wp2_with fail
          refine (KM.out _ _ J1).mono ?_
          rintro e w9 ⟨rfl, g⟩
          replace gg := gg.trans g
          replace HA := HA.kept g
          clear g KM J1
          go_upto_region 34 with fail
          obtain ⟨we, ee⟩ : ∃ we, we = w9.alloc (.cells #[.int .i64 0, .int .i64 0] 46) := ⟨_, rfl⟩
          have g : w9.grownBy we none := by rw [ee]; exact World.grownBy_alloc _ _ none
          rw [← ee]
          clear ee
          have m0 := (HA.kept g).c0
          have m1 := (HA.kept g).c1
          go_wp2_with fail
          go_ret
          exact ⟨rfl, gg.trans g⟩
end Go.Proofs.Ytcilclbolmijfaa
