/-
  The law ScaleChecks.
-/
import Derived.Test.YtcilclbolmijfaaRow
namespace Go.Proofs.Ytcilclbolmijfaa
open Go.RowKit
set_option maxRecDepth 100000 in
set_option maxHeartbeats 8000000 in
theorem checks_walk (A : Option Addr) (n c : Nat) (l : List Int) (sa sb sp u cc d r q0 q1 : Int) (w : World) (hn : n = l.length) (hm : n ≤ maxLen) (hN : Nums w A l) :
    Calls Try.prog 3 #[.slice A n c, .agg #[.int .i64 sa, .int .i64 sb, .int .i64 sp, .int .i64 u, .int .i64 cc, .int .i64 d, .int .i64 r], .agg #[.int .i64 q0, .int .i64 q1]] w fun e w' => e = .returned (.bool true) ∧ w.grownBy w' none := by
  obtain ⟨w0, e0, HR, gg⟩ := row_of w 28 #[.int .i64 sa, .int .i64 sb, .int .i64 sp, .int .i64 u, .int .i64 cc, .int .i64 d, .int .i64 r]
  obtain ⟨v0, f0, HP, g⟩ := row_of w0 29 #[.int .i64 q0, .int .i64 q1]
  rw [show w0.heap.size = w.heap.size + 1 by rw [e0]; simp] at HP
  replace HR := HR.kept g
  replace gg := gg.trans g
  clear g
  have KS := Lib.hid (sane_k v0)
  have KM0 := Lib.hid (fun W (g : w.grownBy W none) => made_k A n c l W hn hm (hN.kept g))
  have H0 := Lib.hid (show v0 = (w.alloc (.cells #[.int .i64 sa, .int .i64 sb, .int .i64 sp, .int .i64 u, .int .i64 cc, .int .i64 d, .int .i64 r] 28)).alloc (.cells #[.int .i64 q0, .int .i64 q1] 29) by rw [f0, e0])
  clear hn hm hN e0 f0
  go_enter Try.func3, Try.ntmps3
  go_wp2_with fail
  rw [← H0.out]
  clear H0
  refine KS.out.mono ?_
  rintro e W ⟨rfl, g⟩
  replace gg := gg.trans g
  replace HR := HR.kept g
  replace HP := HP.kept g
  clear g KS
  have KM := Lib.hid (fun V (g : W.grownBy V none) => KM0.out V (gg.trans g))
  clear KM0
  have r0 := HR.c 0 rfl
  have r1 := HR.c 1 rfl
  have r2 := HR.c 2 rfl
  go_upto_region 2 with fail
  go_cut [8] (fun v wx => ∃ B a b p, v = .pointer (some ⟨B, 0, none⟩) ∧ chkB a b p = true ∧ Row wx B 32 #[.int .i64 a, .int .i64 b, .int .i64 p, .int .i64 sa, .int .i64 sb, .int .i64 sp] ∧ W.grownBy wx none)
  case first =>
    have gz : W.grownBy W.drew none := grown_dr (grown_refl _)
    refine wp_region_noPanic ?_
    refine wp_region_held_drew (S := (fun w' => W.grownBy w' none)) (by kernel_rfl) ?_ (fun hHeld => ?_)
    · (try dsimp only); (repeat (first | assumption | exact grown_refl _ | refine grown_dr ?_ | refine grown_dn ?_ | refine grown_al ?_))
    refine wpAnyH_take (i := 0) (oi := _) (v := ?_) rfl (by kernel_rfl) (by kernel_rfl) (by kernel_rfl) (fun _ _ _ h => h) (Or.inl ⟨by rfl, ?_⟩) (by assumption) ?_
    rotate_left 1
    · (intro w hSw; (try dsimp only at hSw); go_simp; first | done | with_reducible rfl)
    try go_simp
    refine wpAnyH_take (i := 2) (oi := _) (v := ?_) rfl (by kernel_rfl) (by kernel_rfl) (by kernel_rfl) (fun _ _ _ h => h) (Or.inl ⟨by rfl, ?_⟩) (by assumption) ?_
    rotate_left 1
    · (intro w hSw; (try dsimp only at hSw); go_simp; first | done | with_reducible rfl)
    try go_simp
    refine wpAnyH_take (i := 3) (oi := _) (v := .agg #[.int .i64 sa, .int .i64 sb, .int .i64 sp]) rfl (by kernel_rfl) (by kernel_rfl) (by kernel_rfl) (fun _ _ _ h => h) (Or.inl ⟨by kernel_rfl, ?_⟩) (by assumption) ?_
    · (intro w hSw; (try dsimp only at hSw); go_simp; have y0 := gcell hSw r0; have y1 := gcell hSw r1; have y2 := gcell hSw r2; clear hSw; go_simp; first | done | with_reducible rfl)
    try go_simp
    refine wpAnyH_ready (rs := [1, 5]) (by kernel_rfl) (by simp) ?_
    refine AllReadyH.cons (o := _) rfl (fun K hK => ?_) ?_
    · clear hHeld
      go_simp
      refine (KM.out _ gz).mono ?_
      rintro e wm ⟨a, b, p, hc, rfl, g⟩
      replace gz := gz.trans g
      clear g
      first | (refine hK.out _ _ ?_ (fun hHeld => ?_)) | (go_wp2_with fail; refine hK.out _ _ ?_ (fun hHeld => ?_))
      · (try dsimp only); (repeat (first | assumption | exact grown_refl _ | refine grown_dr ?_ | refine grown_dn ?_ | refine grown_al ?_))
      clear hK K
      refine wpAnyH_take (i := 4) (oi := _) (v := .agg #[.int .i64 a, .int .i64 b, .int .i64 p, .int .i64 sa, .int .i64 sb, .int .i64 sp]) rfl (by kernel_rfl) (by kernel_rfl) (by kernel_rfl) (fun _ _ _ h => h) (Or.inl ⟨by kernel_rfl, ?_⟩) (by assumption) ?_
      · (intro w hSw; (try dsimp only at hSw); go_simp; first | done | with_reducible rfl)
      try go_simp
      refine wpAnyH_ready (rs := [5]) (by kernel_rfl) (by simp) ?_
      refine AllReadyH.cons (o := _) rfl (fun K hK => ?_) AllReadyH.nil
      obtain ⟨wa, ea, RA, g⟩ := row_of wm 32 #[.int .i64 0, .int .i64 0, .int .i64 0, .int .i64 0, .int .i64 0, .int .i64 0]
      have hBl : W.heap.size ≤ wm.heap.size := gz.size
      replace gz := gz.trans g
      clear g
      go_simp
      first | (refine hK.out _ _ ?_ (fun hHeld => ?_)) | (go_wp2_with fail; refine hK.out _ _ ?_ (fun hHeld => ?_))
      · (try dsimp only); rw [← ea]; exact gz
      clear hK K
      rw [← ea]
      clear ea hHeld
      have hHeld := gz
      refine wpAnyH_ready (rs := [6]) (by kernel_rfl) (by simp) ?_
      refine AllReadyH.cons (o := _) rfl (fun K hK => ?_) AllReadyH.nil
      have k0 := RA.c 0 rfl
      have k1 := RA.c 1 rfl
      have k2 := RA.c 2 rfl
      have k3 := RA.c 3 rfl
      have k4 := RA.c 4 rfl
      have k5 := RA.c 5 rfl
      have f0 := RA.fz 0
      have f1 := RA.fz 1
      have f2 := RA.fz 2
      have f3 := RA.fz 3
      have f4 := RA.fz 4
      have f5 := RA.fz 5
      have hsz := RA.lt
      have gst := grown_set (i := 5) (v := .int .i64 sp) (grown_set (i := 4) (v := .int .i64 sb) (grown_set (i := 3) (v := .int .i64 sa) (grown_set (i := 2) (v := .int .i64 p) (grown_set (i := 1) (v := .int .i64 b) (grown_set (i := 0) (v := .int .i64 a) gz (.inl hBl)) (.inl hBl)) (.inl hBl)) (.inl hBl)) (.inl hBl)) (.inl hBl)
      have RS := (((((RA.set 0 (.int .i64 a)).set 1 (.int .i64 b)).set 2 (.int .i64 p)).set 3 (.int .i64 sa)).set 4 (.int .i64 sb)).set 5 (.int .i64 sp)
      go_simp
      first | (refine hK.out _ _ ?_ (fun hHeld => ?_)) | (go_wp2_with fail; refine hK.out _ _ ?_ (fun hHeld => ?_))
      · (try dsimp only); exact gst
      clear hK K
      refine wpAnyH_done (by kernel_rfl) ?_ _
      refine NoPanic.normal ?_
      go_simp
      go_wp2_with fail
      go_meet
      exact ⟨_, a, b, p, rfl, hc, RS, gst⟩
    refine AllReadyH.cons (o := _) rfl (fun K hK => ?_) ?_
    · clear hHeld
      go_simp
      obtain ⟨wa, ea, RA, g⟩ := row_of W 32 #[.int .i64 0, .int .i64 0, .int .i64 0, .int .i64 0, .int .i64 0, .int .i64 0]
      have hBl : W.heap.size ≤ W.heap.size := Nat.le_refl _
      clear gz
      have gz : W.grownBy wa.drew none := grown_dr g
      replace RA := RA.kept (grown_dr (grown_refl wa))
      clear g
      first | (refine hK.out _ _ ?_ (fun hHeld => ?_)) | (go_wp2_with fail; refine hK.out _ _ ?_ (fun hHeld => ?_))
      · (try dsimp only); rw [← ea]; exact gz
      clear hK K
      rw [← ea]
      clear ea hHeld
      have hHeld := gz
      refine wpAnyH_ready (rs := [1]) (by kernel_rfl) (by simp) ?_
      refine AllReadyH.cons (o := _) rfl (fun K hK => ?_) AllReadyH.nil
      go_simp
      refine (KM.out _ gz).mono ?_
      rintro e wm ⟨a, b, p, hc, rfl, g⟩
      replace gz := gz.trans g
      replace RA := RA.kept g
      clear g
      first | (refine hK.out _ _ ?_ (fun hHeld => ?_)) | (go_wp2_with fail; refine hK.out _ _ ?_ (fun hHeld => ?_))
      · (try dsimp only); (repeat (first | assumption | exact grown_refl _ | refine grown_dr ?_ | refine grown_dn ?_ | refine grown_al ?_))
      clear hK K
      refine wpAnyH_take (i := 4) (oi := _) (v := .agg #[.int .i64 a, .int .i64 b, .int .i64 p, .int .i64 sa, .int .i64 sb, .int .i64 sp]) rfl (by kernel_rfl) (by kernel_rfl) (by kernel_rfl) (fun _ _ _ h => h) (Or.inl ⟨by kernel_rfl, ?_⟩) (by assumption) ?_
      · (intro w hSw; (try dsimp only at hSw); go_simp; first | done | with_reducible rfl)
      try go_simp
      refine wpAnyH_ready (rs := [6]) (by kernel_rfl) (by simp) ?_
      refine AllReadyH.cons (o := _) rfl (fun K hK => ?_) AllReadyH.nil
      have k0 := RA.c 0 rfl
      have k1 := RA.c 1 rfl
      have k2 := RA.c 2 rfl
      have k3 := RA.c 3 rfl
      have k4 := RA.c 4 rfl
      have k5 := RA.c 5 rfl
      have f0 := RA.fz 0
      have f1 := RA.fz 1
      have f2 := RA.fz 2
      have f3 := RA.fz 3
      have f4 := RA.fz 4
      have f5 := RA.fz 5
      have hsz := RA.lt
      have gst := grown_set (i := 5) (v := .int .i64 sp) (grown_set (i := 4) (v := .int .i64 sb) (grown_set (i := 3) (v := .int .i64 sa) (grown_set (i := 2) (v := .int .i64 p) (grown_set (i := 1) (v := .int .i64 b) (grown_set (i := 0) (v := .int .i64 a) gz (.inl hBl)) (.inl hBl)) (.inl hBl)) (.inl hBl)) (.inl hBl)) (.inl hBl)
      have RS := (((((RA.set 0 (.int .i64 a)).set 1 (.int .i64 b)).set 2 (.int .i64 p)).set 3 (.int .i64 sa)).set 4 (.int .i64 sb)).set 5 (.int .i64 sp)
      go_simp
      first | (refine hK.out _ _ ?_ (fun hHeld => ?_)) | (go_wp2_with fail; refine hK.out _ _ ?_ (fun hHeld => ?_))
      · (try dsimp only); exact gst
      clear hK K
      refine wpAnyH_done (by kernel_rfl) ?_ _
      refine NoPanic.normal ?_
      go_simp
      go_wp2_with fail
      go_meet
      exact ⟨_, a, b, p, rfl, hc, RS, gst⟩
    exact AllReadyH.nil
  clear KM r0 r1 r2
  obtain ⟨B, a, b, p, rfl, _, HB, g⟩ := hcut
  replace gg := gg.trans g
  replace HR := HR.kept g
  replace HP := HP.kept g
  clear g
  have p0 := HP.c 0 rfl
  have p1 := HP.c 1 rfl
  go_upto_region 4 with fail
  obtain ⟨wq, eq, HQ, g⟩ := row_of wc 33 #[.int .i64 q0, .int .i64 q1, .int .i64 (q0.tmod 200), .int .i64 (q1.tmod 200), .int .i64 (q0.tmod 200), .int .i64 (q0.tmod 200)]
  rw [← eq]
  clear eq p0 p1
  replace gg := gg.trans g
  replace HR := HR.kept g
  replace HB := HB.kept g
  clear g HP
  generalize wc.heap.size = D at *
  generalize q0.tmod 200 = t0 at *
  generalize q1.tmod 200 = t1 at *
  have FB := Lib.hid (fun V (g : wq.grownBy V none) => HB.kept g)
  have FQ := Lib.hid (fun V (g : wq.grownBy V none) => HQ.kept g)
  have FR := Lib.hid (fun V (g : wq.grownBy V none) => HR.kept g)
  clear HB HQ HR
  go_wp2_with fail
  go_loopw [10] (fun i wr => ∃ k : Nat, k ≤ 2 ∧ i = .int .i64 k ∧ wq.grownBy wr none) (fun i _ => 2 - (intOf i).toNat)
  case atStart => exact ⟨0, by omega, rfl, grown_refl _⟩
  case round =>
    obtain ⟨k, hk, rfl, gw⟩ := hrel
    by_cases hlt : k < 2
    · go_upto_region 7 with fail
      go_cut [11] (fun v wx => ∃ B x y z, v = .pointer (some ⟨B, 0, none⟩) ∧ S3 wx B x y z ∧ wq.grownBy wx none)
      case first =>
        have hB := FB.out _ gw
        have b0 := hB.c 0 rfl
        have b1 := hB.c 1 rfl
        have b2 := hB.c 2 rfl
        have b3 := hB.c 3 rfl
        have b4 := hB.c 4 rfl
        have b5 := hB.c 5 rfl
        clear hB
        rcases (show k = 0 ∨ k = 1 by omega) with rfl | rfl
        · go_wp2_with fail
          go_meet
          exact ⟨_, a, b, p, rfl, S3.new _ _ _ _, gw.trans (World.grownBy_alloc _ _ none)⟩
        · go_wp2_with fail
          go_meet
          exact ⟨_, sa, sb, sp, rfl, S3.new _ _ _ _, gw.trans (World.grownBy_alloc _ _ none)⟩
      clear gw
      obtain ⟨B2, x, y, z, rfl, HS, gw⟩ := hcut
      have K1 := Lib.hid (check_k x y z)
      have K2 := Lib.hid (check_r x y z)
      generalize chkE x y z = er at *
      have e1 : (er != er) = false := by simp
      have s0 := HS.c0
      have s1 := HS.c1
      have s2 := HS.c2
      go_upto_region 8 with fail
      go_cut [48] (fun v wx => v = .bool false ∧ wc.grownBy wx none)
      case first =>
        have gz : wc.grownBy wc.drew none := grown_dr (grown_refl _)
        refine wp_region_noPanic ?_
        refine wp_region_held_drew (S := (fun w' => wc.grownBy w' none)) (by kernel_rfl) ?_ (fun hHeld => ?_)
        · (try dsimp only); (repeat (first | assumption | exact grown_refl _ | refine grown_dr ?_ | refine grown_dn ?_ | refine grown_al ?_))
        refine wpAnyH_take (i := 0) (oi := _) (v := .agg #[.int .i64 x, .int .i64 y, .int .i64 z]) rfl (by kernel_rfl) (by kernel_rfl) (by kernel_rfl) (fun _ _ _ h => h) (Or.inl ⟨by kernel_rfl, ?_⟩) (by assumption) ?_
        · (intro w hSw; (try dsimp only at hSw); go_simp; have y0 := gcell hSw s0; have y1 := gcell hSw s1; have y2 := gcell hSw s2; clear hSw; go_simp; first | done | with_reducible rfl)
        try go_simp
        refine wpAnyH_take (i := 2) (oi := _) (v := .agg #[.int .i64 x, .int .i64 y, .int .i64 z]) rfl (by kernel_rfl) (by kernel_rfl) (by kernel_rfl) (fun _ _ _ h => h) (Or.inl ⟨by kernel_rfl, ?_⟩) (by assumption) ?_
        · (intro w hSw; (try dsimp only at hSw); go_simp; have y0 := gcell hSw s0; have y1 := gcell hSw s1; have y2 := gcell hSw s2; clear hSw; go_simp; first | done | with_reducible rfl)
        try go_simp
        refine wpAnyH_ready (rs := [1]) (by kernel_rfl) (by simp) ?_
        refine AllReadyH.cons (o := _) rfl (fun K hK => ?_) AllReadyH.nil
        go_simp
        refine (K1.out _).mono ?_
        rintro e w2 ⟨rfl, g⟩
        replace gz := gz.trans g
        clear g
        first | (refine hK.out _ _ ?_ (fun hHeld => ?_)) | (go_wp2_with fail; refine hK.out _ _ ?_ (fun hHeld => ?_))
        · (try dsimp only); (repeat (first | assumption | exact grown_refl _ | refine grown_dr ?_ | refine grown_dn ?_ | refine grown_al ?_))
        clear hK K
        refine wpAnyH_ready (rs := [3]) (by kernel_rfl) (by simp) ?_
        refine AllReadyH.cons (o := _) rfl (fun K hK => ?_) AllReadyH.nil
        go_simp
        refine (K2.out _).mono ?_
        rintro e w2 ⟨rfl, g⟩
        replace gz := gz.trans g
        clear g
        first | (refine hK.out _ _ ?_ (fun hHeld => ?_)) | (go_wp2_with fail; refine hK.out _ _ ?_ (fun hHeld => ?_))
        · (try dsimp only); (repeat (first | assumption | exact grown_refl _ | refine grown_dr ?_ | refine grown_dn ?_ | refine grown_al ?_))
        clear hK K
        refine wpAnyH_take (i := 4) (oi := _) (v := .bool false) rfl (by kernel_rfl) (by kernel_rfl) (by kernel_rfl) (fun _ _ _ h => h) (Or.inl ⟨by kernel_rfl, ?_⟩) (by assumption) ?_
        · (intro w hSw; (try dsimp only at hSw); go_simp; first | done | with_reducible rfl)
        try go_simp
        refine wpAnyH_done (by kernel_rfl) ?_ _
        refine NoPanic.normal ?_
        go_simp
        go_wp2_with fail
        go_meet
        exact ⟨rfl, gz⟩
      obtain ⟨rfl, g⟩ := hcut
      replace HS := HS.kept g
      replace gw := gw.trans g
      clear g e1 K1 K2 s0 s1 s2
      generalize wc = WI at *
      have FS := Lib.hid (fun V (g : WI.grownBy V none) => HS.kept g)
      have FW := Lib.hid (fun V (g : WI.grownBy V none) => gw.trans g)
      clear HS gw
      go_wp2_with fail
      go_loopw [12] (fun i wr => ∃ j : Nat, j ≤ 3 ∧ i = .int .i64 j ∧ WI.grownBy wr none) (fun i _ => 3 - (intOf i).toNat)
      case atStart => exact ⟨0, by omega, rfl, grown_refl _⟩
      case round =>
        obtain ⟨j, hj, rfl, gi⟩ := hrel
        by_cases hlj : j < 3
        · go_upto_region 13 with fail
          have gw := FW.out _ gi
          have hQ := FQ.out _ gw
          have hS := FS.out _ gi
          go_cut [13, 14] (fun v v' wx => ∃ P Q : Int, v = .int .i64 P ∧ v' = .int .i64 Q ∧ WI.grownBy wx none)
          case first =>
            have b0 := hQ.c 0 rfl
            have b1 := hQ.c 1 rfl
            have b2 := hQ.c 2 rfl
            have b3 := hQ.c 3 rfl
            have b4 := hQ.c 4 rfl
            have b5 := hQ.c 5 rfl
            clear hQ hS gw
            rcases (show j = 0 ∨ j = 1 ∨ j = 2 by omega) with rfl | rfl | rfl
            · go_quiet (fail)
              go_wp2_with fail
              go_meet
              exact ⟨_, _, rfl, rfl, grown_dn gi⟩
            · go_quiet (fail)
              go_wp2_with fail
              go_meet
              exact ⟨_, _, rfl, rfl, grown_dn gi⟩
            · go_quiet (fail)
              go_wp2_with fail
              go_meet
              exact ⟨_, _, rfl, rfl, grown_dn gi⟩
          clear hQ hS gw gi
          obtain ⟨P, Q, rfl, rfl, gi⟩ := hcut
          have hS := FS.out _ gi
          have s0 := hS.c0
          have s1 := hS.c1
          have s2 := hS.c2
          have C1 := Lib.hid (right_k x y z P)
          have C2 := Lib.hid (right_r x y z P)
          have C3 := Lib.hid (better2_k x y z P Q)
          have C4 := Lib.hid (better_r x y z P Q)
          have C5 := Lib.hid (passed_k x y z P)
          have C6 := Lib.hid (passed_r x y z P)
          have C7 := Lib.hid (reaches_k x y z P Q)
          have C8 := Lib.hid (reaches_r x y z P Q)
          generalize rgB x y z P = α at *
          generalize betB x y z P Q = β at *
          generalize rchB x y z P z = γ at *
          generalize rchB x y z P Q = δ at *
          have e1 : (α != α) = false := by simp
          have e2 : (β != β) = false := by simp
          have e3 : (γ != γ) = false := by simp
          have e4 : (δ != δ) = false := by simp
          clear hS
          go_upto_region 14 with fail
          have gz : wc.grownBy wc.drew none := grown_dr (grown_refl _)
          refine wp_region_noPanic ?_
          refine wp_region_held_drew (S := (fun w' => wc.grownBy w' none)) (by kernel_rfl) ?_ (fun hHeld => ?_)
          · (try dsimp only); (repeat (first | assumption | exact grown_refl _ | refine grown_dr ?_ | refine grown_dn ?_ | refine grown_al ?_))
          refine wpAnyH_take (i := 0) (oi := _) (v := .agg #[.int .i64 x, .int .i64 y, .int .i64 z]) rfl (by kernel_rfl) (by kernel_rfl) (by kernel_rfl) (fun _ _ _ h => h) (Or.inl ⟨by kernel_rfl, ?_⟩) (by assumption) ?_
          · (intro w hSw; (try dsimp only at hSw); go_simp; have y0 := gcell hSw s0; have y1 := gcell hSw s1; have y2 := gcell hSw s2; clear hSw; go_simp; first | done | with_reducible rfl)
          try go_simp
          refine wpAnyH_take (i := 1) (oi := _) (v := ?_) rfl (by kernel_rfl) (by kernel_rfl) (by kernel_rfl) (fun _ _ _ h => h) (Or.inl ⟨by rfl, ?_⟩) (by assumption) ?_
          rotate_left 1
          · (intro w hSw; (try dsimp only at hSw); go_simp; first | done | with_reducible rfl)
          try go_simp
          refine wpAnyH_take (i := 3) (oi := _) (v := .agg #[.int .i64 x, .int .i64 y, .int .i64 z]) rfl (by kernel_rfl) (by kernel_rfl) (by kernel_rfl) (fun _ _ _ h => h) (Or.inl ⟨by kernel_rfl, ?_⟩) (by assumption) ?_
          · (intro w hSw; (try dsimp only at hSw); go_simp; have y0 := gcell hSw s0; have y1 := gcell hSw s1; have y2 := gcell hSw s2; clear hSw; go_simp; first | done | with_reducible rfl)
          try go_simp
          refine wpAnyH_take (i := 4) (oi := _) (v := ?_) rfl (by kernel_rfl) (by kernel_rfl) (by kernel_rfl) (fun _ _ _ h => h) (Or.inl ⟨by rfl, ?_⟩) (by assumption) ?_
          rotate_left 1
          · (intro w hSw; (try dsimp only at hSw); go_simp; first | done | with_reducible rfl)
          try go_simp
          refine wpAnyH_ready (rs := [2]) (by kernel_rfl) (by simp) ?_
          refine AllReadyH.cons (o := _) rfl (fun K hK => ?_) AllReadyH.nil
          go_simp
          refine (C1.out _).mono ?_
          rintro e w2 ⟨rfl, g⟩
          replace gz := gz.trans g
          clear g
          first | (refine hK.out _ _ ?_ (fun hHeld => ?_)) | (go_wp2_with fail; refine hK.out _ _ ?_ (fun hHeld => ?_))
          · (try dsimp only); (repeat (first | assumption | exact grown_refl _ | refine grown_dr ?_ | refine grown_dn ?_ | refine grown_al ?_))
          clear hK K
          refine wpAnyH_ready (rs := [5]) (by kernel_rfl) (by simp) ?_
          refine AllReadyH.cons (o := _) rfl (fun K hK => ?_) AllReadyH.nil
          go_simp
          refine (C2.out _).mono ?_
          rintro e w2 ⟨rfl, g⟩
          replace gz := gz.trans g
          clear g
          first | (refine hK.out _ _ ?_ (fun hHeld => ?_)) | (go_wp2_with fail; refine hK.out _ _ ?_ (fun hHeld => ?_))
          · (try dsimp only); (repeat (first | assumption | exact grown_refl _ | refine grown_dr ?_ | refine grown_dn ?_ | refine grown_al ?_))
          clear hK K
          refine wpAnyH_take (i := 6) (oi := _) (v := .bool false) rfl (by kernel_rfl) (by kernel_rfl) (by kernel_rfl) (fun _ _ _ h => h) (Or.inl ⟨by kernel_rfl, ?_⟩) (by assumption) ?_
          · (intro w hSw; (try dsimp only at hSw); go_simp; first | done | with_reducible rfl)
          try go_simp
          refine wpAnyH_take (i := 7) (oi := _) (v := ?_) rfl (by kernel_rfl) (by kernel_rfl) (by kernel_rfl) (fun _ _ _ h => h) (Or.inl ⟨by rfl, ?_⟩) (by assumption) ?_
          rotate_left 1
          · (intro w hSw; (try dsimp only at hSw); go_simp; first | done | with_reducible rfl)
          try go_simp
          refine wpAnyH_take (i := 8) (oi := _) (v := .agg #[.int .i64 x, .int .i64 y, .int .i64 z]) rfl (by kernel_rfl) (by kernel_rfl) (by kernel_rfl) (fun _ _ _ h => h) (Or.inl ⟨by kernel_rfl, ?_⟩) (by assumption) ?_
          · (intro w hSw; (try dsimp only at hSw); go_simp; have y0 := gcell hSw s0; have y1 := gcell hSw s1; have y2 := gcell hSw s2; clear hSw; go_simp; first | done | with_reducible rfl)
          try go_simp
          refine wpAnyH_take (i := 9) (oi := _) (v := ?_) rfl (by kernel_rfl) (by kernel_rfl) (by kernel_rfl) (fun _ _ _ h => h) (Or.inl ⟨by kernel_rfl, ?_⟩) (by assumption) ?_
          rotate_left 1
          · (intro w hSw; (try dsimp only at hSw); go_simp; first | done | with_reducible rfl)
          try go_simp
          refine wpAnyH_take (i := 10) (oi := _) (v := ?_) rfl (by kernel_rfl) (by kernel_rfl) (by kernel_rfl) (fun _ _ _ h => h) (Or.inl ⟨by kernel_rfl, ?_⟩) (by assumption) ?_
          rotate_left 1
          · (intro w hSw; (try dsimp only at hSw); go_simp; first | done | with_reducible rfl)
          try go_simp
          refine wpAnyH_take (i := 12) (oi := _) (v := .agg #[.int .i64 x, .int .i64 y, .int .i64 z]) rfl (by kernel_rfl) (by kernel_rfl) (by kernel_rfl) (fun _ _ _ h => h) (Or.inl ⟨by kernel_rfl, ?_⟩) (by assumption) ?_
          · (intro w hSw; (try dsimp only at hSw); go_simp; have y0 := gcell hSw s0; have y1 := gcell hSw s1; have y2 := gcell hSw s2; clear hSw; go_simp; first | done | with_reducible rfl)
          try go_simp
          refine wpAnyH_take (i := 13) (oi := _) (v := ?_) rfl (by kernel_rfl) (by kernel_rfl) (by kernel_rfl) (fun _ _ _ h => h) (Or.inl ⟨by kernel_rfl, ?_⟩) (by assumption) ?_
          rotate_left 1
          · (intro w hSw; (try dsimp only at hSw); go_simp; first | done | with_reducible rfl)
          try go_simp
          refine wpAnyH_take (i := 14) (oi := _) (v := ?_) rfl (by kernel_rfl) (by kernel_rfl) (by kernel_rfl) (fun _ _ _ h => h) (Or.inl ⟨by kernel_rfl, ?_⟩) (by assumption) ?_
          rotate_left 1
          · (intro w hSw; (try dsimp only at hSw); go_simp; first | done | with_reducible rfl)
          try go_simp
          refine wpAnyH_ready (rs := [11]) (by kernel_rfl) (by simp) ?_
          refine AllReadyH.cons (o := _) rfl (fun K hK => ?_) AllReadyH.nil
          go_simp
          refine (C3.out _).mono ?_
          rintro e w2 ⟨rfl, g⟩
          replace gz := gz.trans g
          clear g
          first | (refine hK.out _ _ ?_ (fun hHeld => ?_)) | (go_wp2_with fail; refine hK.out _ _ ?_ (fun hHeld => ?_))
          · (try dsimp only); (repeat (first | assumption | exact grown_refl _ | refine grown_dr ?_ | refine grown_dn ?_ | refine grown_al ?_))
          clear hK K
          refine wpAnyH_ready (rs := [15]) (by kernel_rfl) (by simp) ?_
          refine AllReadyH.cons (o := _) rfl (fun K hK => ?_) AllReadyH.nil
          go_simp
          refine (C4.out _).mono ?_
          rintro e w2 ⟨rfl, g⟩
          replace gz := gz.trans g
          clear g
          first | (refine hK.out _ _ ?_ (fun hHeld => ?_)) | (go_wp2_with fail; refine hK.out _ _ ?_ (fun hHeld => ?_))
          · (try dsimp only); (repeat (first | assumption | exact grown_refl _ | refine grown_dr ?_ | refine grown_dn ?_ | refine grown_al ?_))
          clear hK K
          refine wpAnyH_take (i := 16) (oi := _) (v := .bool false) rfl (by kernel_rfl) (by kernel_rfl) (by kernel_rfl) (fun _ _ _ h => h) (Or.inl ⟨by kernel_rfl, ?_⟩) (by assumption) ?_
          · (intro w hSw; (try dsimp only at hSw); go_simp; first | done | with_reducible rfl)
          try go_simp
          refine wpAnyH_take (i := 17) (oi := _) (v := ?_) rfl (by kernel_rfl) (by kernel_rfl) (by kernel_rfl) (fun _ _ _ h => h) (Or.inl ⟨by rfl, ?_⟩) (by assumption) ?_
          rotate_left 1
          · (intro w hSw; (try dsimp only at hSw); go_simp; first | done | with_reducible rfl)
          try go_simp
          refine wpAnyH_take (i := 18) (oi := _) (v := ?_) rfl (by kernel_rfl) (by kernel_rfl) (by kernel_rfl) (fun _ _ _ h => h) (Or.inl ⟨by rfl, ?_⟩) (by assumption) ?_
          rotate_left 1
          · (intro w hSw; (try dsimp only at hSw); go_simp; first | done | with_reducible rfl)
          try go_simp
          refine wpAnyH_take (i := 19) (oi := _) (v := .agg #[.int .i64 x, .int .i64 y, .int .i64 z]) rfl (by kernel_rfl) (by kernel_rfl) (by kernel_rfl) (fun _ _ _ h => h) (Or.inl ⟨by kernel_rfl, ?_⟩) (by assumption) ?_
          · (intro w hSw; (try dsimp only at hSw); go_simp; have y0 := gcell hSw s0; have y1 := gcell hSw s1; have y2 := gcell hSw s2; clear hSw; go_simp; first | done | with_reducible rfl)
          try go_simp
          refine wpAnyH_take (i := 20) (oi := _) (v := ?_) rfl (by kernel_rfl) (by kernel_rfl) (by kernel_rfl) (fun _ _ _ h => h) (Or.inl ⟨by kernel_rfl, ?_⟩) (by assumption) ?_
          rotate_left 1
          · (intro w hSw; (try dsimp only at hSw); go_simp; first | done | with_reducible rfl)
          try go_simp
          refine wpAnyH_take (i := 22) (oi := _) (v := .agg #[.int .i64 x, .int .i64 y, .int .i64 z]) rfl (by kernel_rfl) (by kernel_rfl) (by kernel_rfl) (fun _ _ _ h => h) (Or.inl ⟨by kernel_rfl, ?_⟩) (by assumption) ?_
          · (intro w hSw; (try dsimp only at hSw); go_simp; have y0 := gcell hSw s0; have y1 := gcell hSw s1; have y2 := gcell hSw s2; clear hSw; go_simp; first | done | with_reducible rfl)
          try go_simp
          refine wpAnyH_take (i := 23) (oi := _) (v := ?_) rfl (by kernel_rfl) (by kernel_rfl) (by kernel_rfl) (fun _ _ _ h => h) (Or.inl ⟨by kernel_rfl, ?_⟩) (by assumption) ?_
          rotate_left 1
          · (intro w hSw; (try dsimp only at hSw); go_simp; first | done | with_reducible rfl)
          try go_simp
          refine wpAnyH_ready (rs := [21]) (by kernel_rfl) (by simp) ?_
          refine AllReadyH.cons (o := _) rfl (fun K hK => ?_) AllReadyH.nil
          go_simp
          refine (C5.out _).mono ?_
          rintro e w2 ⟨rfl, g⟩
          replace gz := gz.trans g
          clear g
          first | (refine hK.out _ _ ?_ (fun hHeld => ?_)) | (go_wp2_with fail; refine hK.out _ _ ?_ (fun hHeld => ?_))
          · (try dsimp only); (repeat (first | assumption | exact grown_refl _ | refine grown_dr ?_ | refine grown_dn ?_ | refine grown_al ?_))
          clear hK K
          refine wpAnyH_ready (rs := [24]) (by kernel_rfl) (by simp) ?_
          refine AllReadyH.cons (o := _) rfl (fun K hK => ?_) AllReadyH.nil
          go_simp
          refine (C6.out _).mono ?_
          rintro e w2 ⟨rfl, g⟩
          replace gz := gz.trans g
          clear g
          first | (refine hK.out _ _ ?_ (fun hHeld => ?_)) | (go_wp2_with fail; refine hK.out _ _ ?_ (fun hHeld => ?_))
          · (try dsimp only); (repeat (first | assumption | exact grown_refl _ | refine grown_dr ?_ | refine grown_dn ?_ | refine grown_al ?_))
          clear hK K
          refine wpAnyH_take (i := 25) (oi := _) (v := .bool false) rfl (by kernel_rfl) (by kernel_rfl) (by kernel_rfl) (fun _ _ _ h => h) (Or.inl ⟨by kernel_rfl, ?_⟩) (by assumption) ?_
          · (intro w hSw; (try dsimp only at hSw); go_simp; first | done | with_reducible rfl)
          try go_simp
          refine wpAnyH_take (i := 26) (oi := _) (v := ?_) rfl (by kernel_rfl) (by kernel_rfl) (by kernel_rfl) (fun _ _ _ h => h) (Or.inl ⟨by rfl, ?_⟩) (by assumption) ?_
          rotate_left 1
          · (intro w hSw; (try dsimp only at hSw); go_simp; first | done | with_reducible rfl)
          try go_simp
          refine wpAnyH_take (i := 27) (oi := _) (v := ?_) rfl (by kernel_rfl) (by kernel_rfl) (by kernel_rfl) (fun _ _ _ h => h) (Or.inl ⟨by rfl, ?_⟩) (by assumption) ?_
          rotate_left 1
          · (intro w hSw; (try dsimp only at hSw); go_simp; first | done | with_reducible rfl)
          try go_simp
          refine wpAnyH_take (i := 28) (oi := _) (v := .agg #[.int .i64 x, .int .i64 y, .int .i64 z]) rfl (by kernel_rfl) (by kernel_rfl) (by kernel_rfl) (fun _ _ _ h => h) (Or.inl ⟨by kernel_rfl, ?_⟩) (by assumption) ?_
          · (intro w hSw; (try dsimp only at hSw); go_simp; have y0 := gcell hSw s0; have y1 := gcell hSw s1; have y2 := gcell hSw s2; clear hSw; go_simp; first | done | with_reducible rfl)
          try go_simp
          refine wpAnyH_take (i := 29) (oi := _) (v := ?_) rfl (by kernel_rfl) (by kernel_rfl) (by kernel_rfl) (fun _ _ _ h => h) (Or.inl ⟨by kernel_rfl, ?_⟩) (by assumption) ?_
          rotate_left 1
          · (intro w hSw; (try dsimp only at hSw); go_simp; first | done | with_reducible rfl)
          try go_simp
          refine wpAnyH_take (i := 30) (oi := _) (v := ?_) rfl (by kernel_rfl) (by kernel_rfl) (by kernel_rfl) (fun _ _ _ h => h) (Or.inl ⟨by kernel_rfl, ?_⟩) (by assumption) ?_
          rotate_left 1
          · (intro w hSw; (try dsimp only at hSw); go_simp; first | done | with_reducible rfl)
          try go_simp
          refine wpAnyH_take (i := 32) (oi := _) (v := .agg #[.int .i64 x, .int .i64 y, .int .i64 z]) rfl (by kernel_rfl) (by kernel_rfl) (by kernel_rfl) (fun _ _ _ h => h) (Or.inl ⟨by kernel_rfl, ?_⟩) (by assumption) ?_
          · (intro w hSw; (try dsimp only at hSw); go_simp; have y0 := gcell hSw s0; have y1 := gcell hSw s1; have y2 := gcell hSw s2; clear hSw; go_simp; first | done | with_reducible rfl)
          try go_simp
          refine wpAnyH_take (i := 33) (oi := _) (v := ?_) rfl (by kernel_rfl) (by kernel_rfl) (by kernel_rfl) (fun _ _ _ h => h) (Or.inl ⟨by kernel_rfl, ?_⟩) (by assumption) ?_
          rotate_left 1
          · (intro w hSw; (try dsimp only at hSw); go_simp; first | done | with_reducible rfl)
          try go_simp
          refine wpAnyH_take (i := 34) (oi := _) (v := ?_) rfl (by kernel_rfl) (by kernel_rfl) (by kernel_rfl) (fun _ _ _ h => h) (Or.inl ⟨by kernel_rfl, ?_⟩) (by assumption) ?_
          rotate_left 1
          · (intro w hSw; (try dsimp only at hSw); go_simp; first | done | with_reducible rfl)
          try go_simp
          refine wpAnyH_ready (rs := [31]) (by kernel_rfl) (by simp) ?_
          refine AllReadyH.cons (o := _) rfl (fun K hK => ?_) AllReadyH.nil
          go_simp
          refine (C7.out _).mono ?_
          rintro e w2 ⟨rfl, g⟩
          replace gz := gz.trans g
          clear g
          first | (refine hK.out _ _ ?_ (fun hHeld => ?_)) | (go_wp2_with fail; refine hK.out _ _ ?_ (fun hHeld => ?_))
          · (try dsimp only); (repeat (first | assumption | exact grown_refl _ | refine grown_dr ?_ | refine grown_dn ?_ | refine grown_al ?_))
          clear hK K
          refine wpAnyH_ready (rs := [35]) (by kernel_rfl) (by simp) ?_
          refine AllReadyH.cons (o := _) rfl (fun K hK => ?_) AllReadyH.nil
          go_simp
          refine (C8.out _).mono ?_
          rintro e w2 ⟨rfl, g⟩
          replace gz := gz.trans g
          clear g
          first | (refine hK.out _ _ ?_ (fun hHeld => ?_)) | (go_wp2_with fail; refine hK.out _ _ ?_ (fun hHeld => ?_))
          · (try dsimp only); (repeat (first | assumption | exact grown_refl _ | refine grown_dr ?_ | refine grown_dn ?_ | refine grown_al ?_))
          clear hK K
          refine wpAnyH_take (i := 36) (oi := _) (v := .bool false) rfl (by kernel_rfl) (by kernel_rfl) (by kernel_rfl) (fun _ _ _ h => h) (Or.inl ⟨by kernel_rfl, ?_⟩) (by assumption) ?_
          · (intro w hSw; (try dsimp only at hSw); go_simp; first | done | with_reducible rfl)
          try go_simp
          refine wpAnyH_take (i := 37) (oi := _) (v := ?_) rfl (by kernel_rfl) (by kernel_rfl) (by kernel_rfl) (fun _ _ _ h => h) (Or.inl ⟨by rfl, ?_⟩) (by assumption) ?_
          rotate_left 1
          · (intro w hSw; (try dsimp only at hSw); go_simp; first | done | with_reducible rfl)
          try go_simp
          refine wpAnyH_done (by kernel_rfl) ?_ _
          refine NoPanic.normal ?_
          go_simp
          go_wp2_with fail
          go_roundw
          case rel => exact ⟨j + 1, by omega, by go_num, gi.trans gz⟩
          case measure => simp [intOf]; omega
        · obtain rfl : j = 3 := by omega
          have gw := FW.out _ gi
          go_wp2_with fail
          go_roundw
          case rel => exact ⟨k + 1, by omega, by go_num, gw⟩
          case measure => simp [intOf]; omega
    · obtain rfl : k = 2 := by omega
      have hR := FR.out _ gw
      have r3 := hR.c 3 rfl
      have r4 := hR.c 4 rfl
      have r5 := hR.c 5 rfl
      have r6 := hR.c 6 rfl
      have E1 := Lib.hid (checkConv_k u cc d r)
      have E2 := Lib.hid (checkConv_r u cc d r)
      generalize cvE u cc d r = er at *
      have e1 : (er == er) = true := by simp
      clear hR FB FQ FR
      go_upto_region 16 with fail
      have gz : wr.grownBy wr.drew none := grown_dr (grown_refl _)
      refine wp_region_noPanic ?_
      refine wp_region_held_drew (S := (fun w' => wr.grownBy w' none)) (by kernel_rfl) ?_ (fun hHeld => ?_)
      · (try dsimp only); (repeat (first | assumption | exact grown_refl _ | refine grown_dr ?_ | refine grown_dn ?_ | refine grown_al ?_))
      refine wpAnyH_take (i := 0) (oi := _) (v := ?_) rfl (by kernel_rfl) (by kernel_rfl) (by kernel_rfl) (fun _ _ _ h => h) (Or.inl ⟨by rfl, ?_⟩) (by assumption) ?_
      rotate_left 1
      · (intro w hSw; (try dsimp only at hSw); go_simp; first | done | with_reducible rfl)
      try go_simp
      refine wpAnyH_take (i := 1) (oi := _) (v := ?_) rfl (by kernel_rfl) (by kernel_rfl) (by kernel_rfl) (fun _ _ _ h => h) (Or.inl ⟨by rfl, ?_⟩) (by assumption) ?_
      rotate_left 1
      · (intro w hSw; (try dsimp only at hSw); go_simp; first | done | with_reducible rfl)
      try go_simp
      refine wpAnyH_take (i := 2) (oi := _) (v := ?_) rfl (by kernel_rfl) (by kernel_rfl) (by kernel_rfl) (fun _ _ _ h => h) (Or.inl ⟨by kernel_rfl, ?_⟩) (by assumption) ?_
      rotate_left 1
      · (intro w hSw; (try dsimp only at hSw); go_simp; first | done | with_reducible rfl)
      try go_simp
      refine wpAnyH_take (i := 3) (oi := _) (v := .agg #[.int .i64 u, .int .i64 cc, .int .i64 d, .int .i64 r]) rfl (by kernel_rfl) (by kernel_rfl) (by kernel_rfl) (fun _ _ _ h => h) (Or.inl ⟨by kernel_rfl, ?_⟩) (by assumption) ?_
      · (intro w hSw; (try dsimp only at hSw); go_simp; have y0 := gcell hSw r3; have y1 := gcell hSw r4; have y2 := gcell hSw r5; have y3 := gcell hSw r6; clear hSw; go_simp; first | done | with_reducible rfl)
      try go_simp
      refine wpAnyH_take (i := 5) (oi := _) (v := ?_) rfl (by kernel_rfl) (by kernel_rfl) (by kernel_rfl) (fun _ _ _ h => h) (Or.inl ⟨by kernel_rfl, ?_⟩) (by assumption) ?_
      rotate_left 1
      · (intro w hSw; (try dsimp only at hSw); go_simp; first | done | with_reducible rfl)
      try go_simp
      refine wpAnyH_take (i := 6) (oi := _) (v := .agg #[.int .i64 u, .int .i64 cc, .int .i64 d, .int .i64 r]) rfl (by kernel_rfl) (by kernel_rfl) (by kernel_rfl) (fun _ _ _ h => h) (Or.inl ⟨by kernel_rfl, ?_⟩) (by assumption) ?_
      · (intro w hSw; (try dsimp only at hSw); go_simp; have y0 := gcell hSw r3; have y1 := gcell hSw r4; have y2 := gcell hSw r5; have y3 := gcell hSw r6; clear hSw; go_simp; first | done | with_reducible rfl)
      try go_simp
      refine wpAnyH_ready (rs := [4]) (by kernel_rfl) (by simp) ?_
      refine AllReadyH.cons (o := _) rfl (fun K hK => ?_) AllReadyH.nil
      go_simp
      refine (E1.out _).mono ?_
      rintro e w2 ⟨rfl, g⟩
      replace gz := gz.trans g
      clear g
      first | (refine hK.out _ _ ?_ (fun hHeld => ?_)) | (go_wp2_with fail; refine hK.out _ _ ?_ (fun hHeld => ?_))
      · (try dsimp only); (repeat (first | assumption | exact grown_refl _ | refine grown_dr ?_ | refine grown_dn ?_ | refine grown_al ?_))
      clear hK K
      refine wpAnyH_ready (rs := [7]) (by kernel_rfl) (by simp) ?_
      refine AllReadyH.cons (o := _) rfl (fun K hK => ?_) AllReadyH.nil
      go_simp
      refine (E2.out _).mono ?_
      rintro e w2 ⟨rfl, g⟩
      replace gz := gz.trans g
      clear g
      first | (refine hK.out _ _ ?_ (fun hHeld => ?_)) | (go_wp2_with fail; refine hK.out _ _ ?_ (fun hHeld => ?_))
      · (try dsimp only); (repeat (first | assumption | exact grown_refl _ | refine grown_dr ?_ | refine grown_dn ?_ | refine grown_al ?_))
      clear hK K
      refine wpAnyH_take (i := 8) (oi := _) (v := .bool true) rfl (by kernel_rfl) (by kernel_rfl) (by kernel_rfl) (fun _ _ _ h => h) (Or.inl ⟨by kernel_rfl, ?_⟩) (by assumption) ?_
      · (intro w hSw; (try dsimp only at hSw); go_simp; first | done | with_reducible rfl)
      try go_simp
      refine wpAnyH_take (i := 9) (oi := _) (v := ?_) rfl (by kernel_rfl) (by kernel_rfl) (by kernel_rfl) (fun _ _ _ h => h) (Or.inl ⟨by rfl, ?_⟩) (by assumption) ?_
      rotate_left 1
      · (intro w hSw; (try dsimp only at hSw); go_simp; first | done | with_reducible rfl)
      try go_simp
      refine wpAnyH_take (i := 10) (oi := _) (v := ?_) rfl (by kernel_rfl) (by kernel_rfl) (by kernel_rfl) (fun _ _ _ h => h) (Or.inl ⟨by rfl, ?_⟩) (by assumption) ?_
      rotate_left 1
      · (intro w hSw; (try dsimp only at hSw); go_simp; first | done | with_reducible rfl)
      try go_simp
      refine wpAnyH_done (by kernel_rfl) ?_ _
      refine NoPanic.normal ?_
      go_simp
      go_wp2_with fail
      go_ret
      exact ⟨rfl, (gg.trans gw).trans gz⟩
end Go.Proofs.Ytcilclbolmijfaa
