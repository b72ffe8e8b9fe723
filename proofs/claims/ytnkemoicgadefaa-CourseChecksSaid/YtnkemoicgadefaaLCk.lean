/-
  CourseChecks: the law walked.
-/
import Derived.Test.YtnkemoicgadefaaCut
import Derived.Test.YtnkemoicgadefaaLCl
namespace Go.Proofs.Ytnkemoicgadefaa
open Go.RowKit
attribute [local go_sem] get_mk extract_mk
theorem small_app {t : Nat} {a b : List O} (h : Small t a) (k : Small t b) (hl : a.length + b.length ≤ 61) : Small t (a ++ b) := ⟨by simp; omega, fun o ho => by
  rcases List.mem_append.1 ho with ho | ho
  · exact h.each o ho
  · exact k.each o ho⟩
theorem offs_app {w : World} {b : Nat} {v : Value} {vs us : List V} {l m : List O} {n : Nat} (hn : n = l.length + m.length) (hown : w.ownsRow b 35 5 v n (vc vs ++ vc us)) {A1 A2 : Option Addr} {n1 c1 n2 c2 : Nat} (h : Offs w A1 n1 c1 vs l) (k : Offs w A2 n2 c2 us m) : ∃ A c, v = .slice A n c ∧ Offs w A n c (vs ++ us) (l ++ m) := by
  obtain ⟨A, c, e, hv, _⟩ := own_vals hown (fun x hx => by
    rcases List.mem_append.1 hx with hx | hx
    · exact vc_one hx
    · exact vc_one hx)
  refine ⟨A, c, e, ⟨by rw [vc_app]; exact hv, by simp [hn], by simp [h.vlen, k.vlen], fun j x y hx hy => ?_⟩⟩
  by_cases hj : j < l.length
  · rw [List.getElem?_append_left (by rw [h.vlen]; exact hj)] at hx
    rw [List.getElem?_append_left hj] at hy
    exact h.is j x y hx hy
  · rw [List.getElem?_append_right (by rw [h.vlen]; omega), h.vlen] at hx
    rw [List.getElem?_append_right (by omega)] at hy
    exact k.is _ x y hx hy
theorem offs_ok {w : World} {A : Option Addr} {n c : Nat} {vs : List V} {l : List O} (h : Offs w A n c vs l) : ∀ o ∈ l, o.code.length ≤ 1152921504606846976 := fun o ho => by
  obtain ⟨j, hj⟩ := List.getElem?_of_mem ho
  obtain ⟨v, hv⟩ : ∃ v, vs[j]? = some v := ⟨_, List.getElem?_eq_getElem (by rw [h.vlen]; exact (List.getElem?_eq_some_iff.1 hj).1)⟩
  exact (h.is j v o hv hj).ok.1
set_option maxRecDepth 100000 in
set_option maxHeartbeats 8000000 in
theorem checks_walk (A : Option Addr) (n c : Nat) (l : List Int) (q0 q1 q2 q3 q4 q5 : Int) (RA : Option Addr) (rn rc : Nat) (rvs : List V) (rl : List O) (w : World) (h : Ints w A n c l) (hr : Raws w RA rn rc rvs rl) :
    Calls Try.prog 3 #[.slice A n c, .agg #[.int .i64 q0, .int .i64 q1, .int .i64 q2, .int .i64 q3, .int .i64 q4, .int .i64 q5], .slice RA rn rc] w fun e w' => e = .returned (.bool true) ∧ w.grownBy w' none := by
  obtain ⟨w1, e1, HQ, g1⟩ := row_of w 24 #[.int .i64 q0, .int .i64 q1, .int .i64 q2, .int .i64 q3, .int .i64 q4, .int .i64 q5]
  have HH := Lib.hid (fun W (g : w1.grownBy W none) => h.kept (g1.trans g))
  have HR := Lib.hid (fun W (g : w1.grownBy W none) => hr.kept (g1.trans g))
  have E1 := Lib.hid e1
  have G1 := Lib.hid g1
  have HQ1 := Lib.hid HQ
  clear e1 g1 h hr HQ
  go_enter Try.func3, Try.ntmps3
  go_upto_region 1 with fail
  rw [← E1.out]
  clear E1
  generalize w.heap.size = Q at *
  go_wp2_with fail
  refine (sane_k _).mono ?_
  rintro e w2 ⟨rfl, g2⟩
  have G2 := Lib.hid g2
  clear g2
  go_wp2_with fail
  refine (cut_r RA rn rc rvs rl _ (HR.out _ G2.out)).mono ?_
  rintro e w3 ⟨RB, rd, rus, rfl, hraw, g3⟩
  have HRW := Lib.hid hraw
  have G3 := Lib.hid (G2.out.trans g3)
  clear hraw g3 HR G2
  obtain ⟨p, hp⟩ : ∃ p, p = (cutV rl).length := ⟨_, rfl⟩
  rw [← hp] at HRW ⊢
  have HPL := Lib.hid hp
  clear hp
  have hrle := HRW.out.v.le
  have hrcap := HRW.out.v.cap
  go_wp2_with fail
  refine (made_r A n c l _ (HH.out _ G3.out)).mono ?_
  rintro e w4 ⟨B, d, vs, L, rfl, hoffs, hml, g4⟩
  have HML := Lib.hid hml
  have HOF := Lib.hid hoffs
  have HRW4 := Lib.hid (HRW.out.kept g4)
  have HQ4 := HQ1.out.kept (G3.out.trans g4)
  have G4 := Lib.hid (G3.out.trans g4)
  clear hoffs hml g4 HH HRW G3
  have hble := HOF.out.v.le
  have hbcap := HOF.out.v.cap
  obtain ⟨m, hm⟩ : ∃ m, m = L.length := ⟨_, rfl⟩
  rw [← hm] at HOF hble ⊢
  have HM := Lib.hid hm
  clear hm
  have y0 := HQ4.c 0 rfl
  have y1 := HQ4.c 1 rfl
  have y2 := HQ4.c 2 rfl
  clear HQ4
  go_wp2_with fail
  refine (odd_r B m d vs L q0 q1 q2 5 (by omega) (made_small HML.out) _ HOF.out).mono ?_
  rintro e w5 ⟨C, d2, us, M, rfl, hodd, hsm, g5⟩
  clear y0 y1 y2
  have HOM := Lib.hid (HOF.out.kept g5)
  have HOD := Lib.hid hodd
  have HSM := Lib.hid hsm
  have HRW5 := Lib.hid (HRW4.out.kept g5)
  have G5 := Lib.hid (G4.out.trans g5)
  obtain ⟨k2, hk2⟩ : ∃ k, k = M.length := ⟨_, rfl⟩
  rw [← hk2] at HOD ⊢
  clear hk2 hodd hsm g5 HOF HRW4 G4
  have hcle := HOD.out.v.le
  have hccap := HOD.out.v.cap
  have HQ5 := HQ1.out.kept G5.out
  have y3 := HQ5.c 3 rfl
  have y4 := HQ5.c 4 rfl
  have y5 := HQ5.c 5 rfl
  clear HQ5
  go_wp2_with fail
  refine (odd_r C k2 d2 us M q3 q4 q5 6 (by omega) HSM.out _ HOD.out).mono ?_
  rintro e w6 ⟨C3, d3, us3, M3, rfl, hodd3, hsm3, g6⟩
  clear y3 y4 y5
  have ga := World.grownBy_alloc w6 (.cells #[] 35) none
  have HSM3 := Lib.hid hsm3
  obtain ⟨k3, hk3⟩ : ∃ k, k = M3.length := ⟨_, rfl⟩
  rw [← hk3] at hodd3 ⊢
  have HOD3 := Lib.hid (hodd3.kept ga)
  have hc3le := hodd3.v.le
  have hc3cap := hodd3.v.cap
  have HRW6 := Lib.hid (HRW5.out.kept g6)
  have HOM6 := Lib.hid (HOM.out.kept g6)
  have HOD6 := Lib.hid (HOD.out.kept g6)
  have HOD36 := Lib.hid hodd3
  have G6 := Lib.hid (G5.out.trans g6)
  have HODa := Lib.hid (HOD.out.kept (g6.trans ga))
  have HOMa := Lib.hid (HOM.out.kept (g6.trans ga))
  have HRWa := Lib.hid (HRW5.out.kept (g6.trans ga))
  have Ga := Lib.hid (G5.out.trans (g6.trans ga))
  have HMd : Hid ((w6.alloc (.cells #[] 35)).ownsRow w6.heap.size 35 5 (.slice (some ⟨w6.heap.size, 0, none⟩) 0 0) 0 []) := Lib.hid (World.ownsRow_made (base := w6.heap.size) (e := 35) (size := 5) w6 #[] 0 (Nat.le_refl _) (by decide) rfl)
  have HBB : Hid (0 + m ≤ 1000000 ∧ 0 + m + p ≤ 1000000 ∧ w6.heap.size ≤ (w6.alloc (.cells #[] 35)).heap.size ∧ 0 + m + p = L.length + (cutV rl).length) := Lib.hid (by
    have h1 := made_len HML.out
    have h2 := HM.out
    have h3 := HPL.out
    have h4 := cut_len rl
    refine ⟨by omega, by omega, by simp, by omega⟩)
  have GA := Lib.hid ga
  clear hk3 hodd3 hsm3 g6 ga HOD HOM HRW5 G5
  go_upto_region 6 with (at_builtin; first
    | (refine wpList_append_vals elt35 rfl (.tmp 29) (.tmp 30) rfl w6.heap.size _ 0 [] rfl HMd.out B m d _ rfl HOMa.out.v HBB.out.1 HBB.out.2.2.1 ?_
       intro v3 w8 ho hg hb hv
       have G8 := Lib.hid (GA.out.andThen hg (fun r e => .inl (by have e : some w6.heap.size = some r := e; injection e with e; omega)))
       have hown : some w6.heap.size = some w6.heap.size := rfl
       have g68 : (w6.alloc (.cells #[] 35)).grownBy w8 (some w6.heap.size) := hg
       have HKP : Hid (∀ (A : Option Addr) (n c : Nat) (vs : List V) (l : List O), Offs w6 A n c vs l → Offs w8 A n c vs l) := Lib.hid (fun A n c vs l h => h.kept G8.out)
       have HRW8 := Lib.hid (HKP.out _ _ _ _ _ HRW6.out)
       have HO8 := Lib.hid ho
       have HB8 : Hid (w6.heap.size ≤ w8.heap.size) := Lib.hid G8.out.size
       clear ho hg hb hv hown g68)
    | (refine wpList_append_vals elt35 rfl (.tmp 31) (.tmp 32) rfl w6.heap.size _ (0 + m) _ rfl HO8.out RB p rd _ rfl HRW8.out.v HBB.out.2.1 HB8.out ?_
       intro v4 w9 ho hg hb hv
       have G9 := Lib.hid (G8.out.andThen hg (fun r e => .inl (World.ownsRow.lt HO8.out r e).1))
       obtain ⟨XA, xc, rfl, hx⟩ := offs_app (vs := vs) (us := rus) HBB.out.2.2.2 ho (HOM6.out.kept G9.out) (HRW6.out.kept G9.out)
       have HX := Lib.hid hx
       clear ho hg hb hv hx))
  obtain ⟨x, hx⟩ : ∃ x, x = m + p := ⟨_, rfl⟩
  rw [Nat.zero_add, ← hx] at HX
  rw [← hx]
  clear hx
  obtain ⟨w10, e10, HX10, g10⟩ := row_of w9 25 #[.slice C k2 d2, .slice C3 k3 d3, .slice RB p rd, .slice XA x xc]
  rw [← e10]
  have G69 := Lib.hid G9.out
  have G10 := Lib.hid (G6.out.trans (G9.out.trans g10))
  have HT : Hid (∀ i : Nat, i < 4 → ∃ (X : Option Addr) (xn xc : Nat) (xvs : List V) (xl : List O), w10.cell? ⟨w9.heap.size, i, none⟩ = some (.slice X xn xc) ∧ Offs w10 X xn xc xvs xl ∧ Small 7 xl) := Lib.hid (fun i hi => by
    have gg := G9.out.trans g10
    rcases (show i = 0 ∨ i = 1 ∨ i = 2 ∨ i = 3 by omega) with rfl | rfl | rfl | rfl
    · exact ⟨C, k2, d2, us, M, HX10.c 0 rfl, HOD6.out.kept gg, HSM.out.up (by omega)⟩
    · exact ⟨C3, k3, d3, us3, M3, HX10.c 1 rfl, HOD36.out.kept gg, HSM3.out⟩
    · exact ⟨RB, p, rd, rus, cutV rl, HX10.c 2 rfl, HRW6.out.kept gg, cut_small rl⟩
    · exact ⟨XA, x, xc, vs ++ rus, L ++ cutV rl, HX10.c 3 rfl, HX.out.kept g10, small_app ((made_small HML.out).up (by omega)) (cut_small rl) (by have := made_len HML.out; have := cut_len rl; omega)⟩)
  have HMD := Lib.hid (HOM6.out.kept (G9.out.trans g10))
  have HCK := Lib.hid (made_check HML.out)
  clear e10 HX10 g10 HX HOD3 HODa HOMa HRWa Ga HMd HBB GA HRW6 HOM6 HOD6 HOD36 G6 HRW8 HKP HO8 HB8 G8 G9 HSM3 HSM G69
  generalize w9.heap.size = Z at *
  go_wp2_with fail
  go_loopw [36] (fun z wr => ∃ i : Nat, i ≤ 4 ∧ z = .int .i64 (i : Int) ∧ Hid (w10.grownBy wr none)) (fun z _ => 4 - (intOf z).toNat)
  case atStart => exact ⟨0, by omega, rfl, Lib.hid (grown_refl _)⟩
  case round =>
    obtain ⟨i, hi, rfl, HG⟩ := hrel
    by_cases hlt : i < 4
    · obtain ⟨X, xn, xc, xvs, xl, cx, hxo, hxs⟩ := HT.out i hlt
      have HXO := Lib.hid (fun W (g : w10.grownBy W none) => hxo.kept g)
      have HCD := Lib.hid (offs_ok hxo)
      have HAN : Hid ((allN xl).length ≤ 427) := Lib.hid hxs.all
      have hxle := hxo.v.le
      have hxcap := hxo.v.cap
      have i1 : (0 : Int) ≤ (i : Int) := by omega
      have i2 : (i : Int) < 4 := by omega
      have i3 : decide ((i : Int) < 4) = true := decide_eq_true i2
      have i5 : IntKind.i64.wrap (i : Int) = (i : Int) := by rw [IntKind.wrap_i64]; omega
      have i6 : IntKind.i64.wrap ((i : Int) + 1) = (i : Int) + 1 := by rw [IntKind.wrap_i64]; omega
      replace cx := gcell HG.out cx
      clear hxo hxs
      go_wp2_with fail
      refine (check_k X xn xc xvs xl _ (HXO.out _ HG.out)).mono ?_
      rintro e w11 ⟨rfl, g11⟩
      clear cx
      have G11 := Lib.hid (HG.out.trans g11)
      clear g11
      go_wp2_with fail
      refine (check_r X xn xc xvs xl (by have := HAN.out; omega) _ (HXO.out _ G11.out)).mono ?_
      rintro e w12 ⟨rfl, g12⟩
      have G12 := Lib.hid (G11.out.trans g12)
      clear g12 G11
      generalize checkV xl = ck at *
      go_wp2_with fail
      go_loopw [47] (fun z wr => ∃ k : Nat, k ≤ xn ∧ z = .int .i64 (k : Int) ∧ Hid (w10.grownBy wr none)) (fun z _ => xn - (intOf z).toNat)
      case atStart => exact ⟨0, Nat.zero_le _, rfl, G12⟩
      case round =>
        clear HG G12
        obtain ⟨k, hk, rfl, HG⟩ := hrel
        by_cases hl2 : k < xn
        · obtain ⟨ad, v, o, ho, _, rfl, _, hv, x0, x1, x2, x3, x4⟩ := (HXO.out _ HG.out).at k hl2
          obtain ⟨vc_, vr, vp, sA, sn, sc, nA, nn, nc⟩ := v
          have hcd := hv.code
          simp only at x0 x1 x2 x3 x4 hcd
          subst hcd
          have HOL := Lib.hid (HCD.out o (List.mem_of_getElem? ho))
          have k1 : (0 : Int) ≤ (k : Int) := by omega
          have k2' : (k : Int) < (xn : Int) := by omega
          have k3' : decide ((k : Int) < (xn : Int)) = true := decide_eq_true k2'
          have k5 : IntKind.i64.wrap (k : Int) = (k : Int) := by rw [IntKind.wrap_i64]; omega
          have k6 : IntKind.i64.wrap ((k : Int) + 1) = (k : Int) + 1 := by rw [IntKind.wrap_i64]; omega
          obtain ⟨w13, e13, HP13, g13⟩ := row_of wr 35 #[.string ⟨o.code.toArray⟩, .int .i64 vr, .int .i64 vp, .slice sA sn sc, .slice nA nn nc]
          have E13 := Lib.hid e13
          have G13 := Lib.hid (HG.out.trans g13)
          clear hv ho e13 g13
          go_upto_region 13 with fail
          rw [← E13.out]
          clear E13 x0 x1 x2 x3 x4
          generalize wr.heap.size = P13 at *
          have c0 := HP13.c 0 rfl
          clear HP13
          have gz : w13.grownBy w13.drew none := grown_dr (grown_refl _)
          refine wp_region_noPanic ?_
          refine wp_region_held_drew (S := (fun w' => w13.grownBy w' none)) (by kernel_rfl) ?_ (fun hHeld => ?_)
          · (try dsimp only); (repeat (first | assumption | exact grown_refl _ | refine grown_dr ?_ | refine grown_dn ?_ | refine grown_al ?_))
          refine wpAnyH_take (i := 0) (oi := _) (v := ?_) rfl (by kernel_rfl) (by kernel_rfl) (by kernel_rfl) (fun _ _ _ h => h) (Or.inl ⟨by rfl, ?_⟩) (by assumption) ?_
          rotate_left 1
          · (intro w hSw; (try dsimp only at hSw); go_simp; first | done | with_reducible rfl)
          try go_simp
          refine wpAnyH_take (i := 1) (oi := _) (v := .string ⟨o.code.toArray⟩) rfl (by kernel_rfl) (by kernel_rfl) (by kernel_rfl) (fun _ _ _ h => h) (Or.inl ⟨by kernel_rfl, ?_⟩) (by assumption) ?_
          · (intro w hSw; (try dsimp only at hSw); go_simp; have y0 := gcell hSw c0; clear hSw; go_simp; first | done | with_reducible rfl)
          try go_simp
          refine wpAnyH_take (i := 3) (oi := _) (v := ?_) rfl (by kernel_rfl) (by kernel_rfl) (by kernel_rfl) (fun _ _ _ h => h) (Or.inl ⟨by rfl, ?_⟩) (by assumption) ?_
          rotate_left 1
          · (intro w hSw; (try dsimp only at hSw); go_simp; first | done | with_reducible rfl)
          try go_simp
          refine wpAnyH_take (i := 4) (oi := _) (v := .string ⟨o.code.toArray⟩) rfl (by kernel_rfl) (by kernel_rfl) (by kernel_rfl) (fun _ _ _ h => h) (Or.inl ⟨by kernel_rfl, ?_⟩) (by assumption) ?_
          · (intro w hSw; (try dsimp only at hSw); go_simp; have y0 := gcell hSw c0; clear hSw; go_simp; first | done | with_reducible rfl)
          try go_simp
          refine wpAnyH_ready (rs := [2]) (by kernel_rfl) (by simp) ?_
          refine AllReadyH.cons (o := _) rfl (fun K hK => ?_) AllReadyH.nil
          go_simp
          refine (code_k o.code HOL.out _).mono ?_
          rintro e w14 ⟨rfl, rfl⟩
          first | (refine hK.out _ _ ?_ (fun hHeld => ?_)) | (go_wp2_with fail; refine hK.out _ _ ?_ (fun hHeld => ?_))
          · (try dsimp only); (repeat (first | assumption | exact grown_refl _ | refine grown_dr ?_ | refine grown_dn ?_ | refine grown_al ?_))
          clear hK K
          refine wpAnyH_ready (rs := [5]) (by kernel_rfl) (by simp) ?_
          refine AllReadyH.cons (o := _) rfl (fun K hK => ?_) AllReadyH.nil
          go_simp
          refine (code_r o.code HOL.out _).mono ?_
          rintro e w15 ⟨rfl, rfl⟩
          generalize codeB o.code = cb at *
          first | (refine hK.out _ _ ?_ (fun hHeld => ?_)) | (go_wp2_with fail; refine hK.out _ _ ?_ (fun hHeld => ?_))
          · (try dsimp only); (repeat (first | assumption | exact grown_refl _ | refine grown_dr ?_ | refine grown_dn ?_ | refine grown_al ?_))
          clear hK K
          refine wpAnyH_take (i := 6) (oi := _) (v := .bool false) rfl (by kernel_rfl) (by kernel_rfl) (by kernel_rfl) (fun _ _ _ h => h) (Or.inl ⟨by kernel_rfl, ?_⟩) (by assumption) ?_
          · (intro w hSw; (try dsimp only at hSw); go_simp; first | done | with_reducible rfl)
          try go_simp
          refine wpAnyH_done (by kernel_rfl) ?_ _
          refine NoPanic.normal ?_
          go_simp
          have GZ := Lib.hid (G13.out.trans gz)
          clear gz
          go_wp2_with fail
          go_roundw
          case rel => exact ⟨k + 1, by omega, by go_num, GZ⟩
          case measure => simp [intOf]; omega
        · obtain rfl : xn = k := by omega
          have k3' : decide ((xn : Int) < (xn : Int)) = false := decide_eq_false (by omega)
          go_wp2_with fail
          go_roundw
          case rel => exact ⟨i + 1, by omega, by go_num, HG⟩
          case measure => simp [intOf]; omega
    · obtain rfl : i = 4 := by omega
      have k3' : decide (((4 : Nat) : Int) < 4) = false := by simp
      go_wp2_with fail
      refine (check_k B m d vs L _ (HMD.out.kept HG.out)).mono ?_
      rintro e w11 ⟨rfl, g11⟩
      have G11 := Lib.hid (G1.out.trans (G10.out.trans (HG.out.trans g11)))
      clear g11
      rw [HCK.out]
      go_wp2_with fail
      go_ret
      exact ⟨rfl, G11.out⟩
end Go.Proofs.Ytnkemoicgadefaa
