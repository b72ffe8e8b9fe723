/-
  CourseNeeds: the law walked.
-/
import Derived.Test.YtnkemoicgadefaaCut
import Derived.Test.YtnkemoicgadefaaLCl
namespace Go.Proofs.Ytnkemoicgadefaa
open Go.RowKit
attribute [local go_sem] get_mk extract_mk
def zO : O := ⟨[], 0, 0, [], []⟩
theorem vis_zero (w : World) : VIs w ⟨[], 0, 0, none, 0, 0, none, 0, 0⟩ zO := ⟨rfl, rfl, rfl, ⟨by simp [zO], ⟨by simp [zO], by simp [zO]⟩, ⟨by simp [zO], by simp [zO]⟩⟩, Ints.nil_ _, Strs.nil_ _, by simp [zO]⟩
theorem findV_k (A : Option Addr) (n c : Nat) (vs : List V) (l : List O) (code : Str) (w : World) (h : Offs w A n c vs l) :
    Calls Try.prog 20 #[.slice A n c, .string ⟨code.toArray⟩] w fun e w' => ∃ v' : V, e = .returned (.tuple #[.agg v'.cells, .bool (fnd l code).isSome]) ∧ w.grownBy w' none ∧ VIs w' v' ((fnd l code).getD zO) := by
  refine (find_k A n c vs l code w h).mono ?_
  rintro e w' ⟨v', b, rfl, g, h⟩
  rcases h with ⟨rfl, hf, rfl⟩ | ⟨o, rfl, hf, hv, _⟩
  · rw [hf]; exact ⟨_, rfl, g, vis_zero _⟩
  · rw [hf]; exact ⟨_, rfl, g, hv⟩
theorem findV_r (A : Option Addr) (n c : Nat) (vs : List V) (l : List O) (code : Str) (w : World) (h : Offs w A n c vs l) :
    Calls Try.prog 21 #[.slice A n c, .string ⟨code.toArray⟩] w fun e w' => ∃ v' : V, e = .returned (.tuple #[.agg v'.cells, .bool (fnd l code).isSome]) ∧ w.grownBy w' none ∧ VIs w' v' ((fnd l code).getD zO) := by
  refine (find_r A n c vs l code w h).mono ?_
  rintro e w' ⟨v', b, rfl, g, h⟩
  rcases h with ⟨rfl, hf, rfl⟩ | ⟨o, rfl, hf, hv, _⟩
  · rw [hf]; exact ⟨_, rfl, g, vis_zero _⟩
  · rw [hf]; exact ⟨_, rfl, g, hv⟩
theorem own_new2 (w : World) (a b : Str) : OwnS (w.alloc (.cells #[.string ⟨a.toArray⟩, .string ⟨b.toArray⟩] 9)) w.heap.size (.slice (some ⟨w.heap.size, 0, none⟩) 2 2) [a, b] :=
  ⟨rfl, .inr ⟨w.heap.size, 2, #[.string ⟨a.toArray⟩, .string ⟨b.toArray⟩], rfl, Nat.le_refl _, World.alloc_heap_new w _, Nat.le_refl _, by decide, rfl, rfl⟩⟩
theorem Strs.part {w : World} {ad a6 : Addr} {n c : Nat} {l : List Str} (h : Strs w (some ad) n c l) (lo hi : Nat) (h1 : lo ≤ hi) (h2 : hi ≤ n) (ha : a6 = if c = lo then ad else ad.add lo) : Strs w (some a6) (hi - lo) (c - lo) ((l.take hi).drop lo) :=
  ⟨by
    have h3 := (h.v.takeV hi h2).dropA lo h1 ha
    rw [← List.map_take, ← List.map_drop] at h3
    exact h3, fun x hx => h.ok x (List.mem_of_mem_take (List.mem_of_mem_drop hx))⟩
theorem offs_ok {w : World} {A : Option Addr} {n c : Nat} {vs : List V} {l : List O} (h : Offs w A n c vs l) : ∀ o ∈ l, o.code.length ≤ 1152921504606846976 := fun o ho => by
  obtain ⟨j, hj⟩ := List.getElem?_of_mem ho
  obtain ⟨v, hv⟩ : ∃ v, vs[j]? = some v := ⟨_, List.getElem?_eq_getElem (by rw [h.vlen]; exact (List.getElem?_eq_some_iff.1 hj).1)⟩
  exact (h.is j v o hv hj).ok.1
/-- the codes that are asked for, with those of the first offers -/
def cdK (l : List O) (k : Nat) : List Str := [[90], []] ++ codesL ++ (l.take k).map (·.code)
theorem cdK_snoc {l : List O} {k : Nat} {o : O} (h : l[k]? = some o) : cdK l (k + 1) = cdK l k ++ [o.code] := by
  unfold cdK
  rw [take_snoc h]
  simp
theorem cdK_len (l : List O) (k : Nat) : (cdK l k).length ≤ 8 + k := by
  unfold cdK
  simp [codesL]
  omega
theorem cd_ok {l : List O} (h : ∀ o ∈ l, o.code.length ≤ 1152921504606846976) (k : Nat) : ∀ x ∈ cdK l k, x.length ≤ 1152921504606846976 := fun x hx => by
  rcases List.mem_append.1 hx with hx | hx
  · rcases List.mem_append.1 hx with hx | hx
    · simp at hx
      rcases hx with rfl | rfl <;> simp
    · exact codes_len x hx
  · obtain ⟨o, ho, rfl⟩ := List.mem_map.1 hx
    exact h o (List.mem_of_mem_take ho)
set_option maxRecDepth 100000 in
set_option maxHeartbeats 16000000 in
theorem needs_walk (A : Option Addr) (n c : Nat) (l : List Int) (q0 q1 q2 q3 q4 q5 : Int) (RA : Option Addr) (rn rc : Nat) (rvs : List V) (rl : List O) (w : World) (h : Ints w A n c l) (hr : Raws w RA rn rc rvs rl) :
    Calls Try.prog 4 #[.slice A n c, .agg #[.int .i64 q0, .int .i64 q1, .int .i64 q2, .int .i64 q3, .int .i64 q4, .int .i64 q5], .slice RA rn rc] w fun e w' => e = .returned (.bool true) ∧ w.grownBy w' none := by
  obtain ⟨w1, e1, HQ, g1⟩ := row_of w 24 #[.int .i64 q0, .int .i64 q1, .int .i64 q2, .int .i64 q3, .int .i64 q4, .int .i64 q5]
  have HH := Lib.hid (fun W (g : w1.grownBy W none) => h.kept (g1.trans g))
  have HR := Lib.hid (fun W (g : w1.grownBy W none) => hr.kept (g1.trans g))
  have E1 := Lib.hid e1
  have G1 := Lib.hid g1
  have HQ1 := Lib.hid HQ
  clear e1 g1 h hr HQ
  go_enter Try.func4, Try.ntmps4
  go_upto_region 1 with fail
  rw [← E1.out]
  clear E1
  generalize w.heap.size = Q at *
  go_wp2_with fail
  refine (sane_k _).mono ?_
  rintro e w2 ⟨rfl, g2⟩
  have G2 := Lib.hid g2
  clear g2
  go_wp2_with fail
  refine (made_r A n c l _ (HH.out _ G2.out)).mono ?_
  rintro e w4 ⟨B, d, vs, L, rfl, hoffs, hml, g4⟩
  have HML := Lib.hid hml
  have HOF := Lib.hid hoffs
  have HQ4 := HQ1.out.kept (G2.out.trans g4)
  have G4 := Lib.hid (G2.out.trans g4)
  clear hoffs hml g4 HH G2
  have hble := HOF.out.v.le
  have hbcap := HOF.out.v.cap
  obtain ⟨m, hm⟩ : ∃ m, m = L.length := ⟨_, rfl⟩
  rw [← hm] at HOF hble ⊢
  clear hm
  have y0 := HQ4.c 0 rfl
  have y1 := HQ4.c 1 rfl
  have y2 := HQ4.c 2 rfl
  clear HQ4
  go_wp2_with fail
  refine (odd_r B m d vs L q0 q1 q2 5 (by omega) (made_small HML.out) _ HOF.out).mono ?_
  rintro e w5 ⟨C, d2, us, M, rfl, hodd, hsm, g5⟩
  clear y0 y1 y2
  have HOM := Lib.hid (HOF.out.kept g5)
  have HOD := Lib.hid hodd
  have HSM := Lib.hid hsm
  have G5 := Lib.hid (G4.out.trans g5)
  obtain ⟨k2, hk2⟩ : ∃ k, k = M.length := ⟨_, rfl⟩
  rw [← hk2] at HOD ⊢
  clear hk2 hodd hsm g5 HOF G4
  have hcle := HOD.out.v.le
  have hccap := HOD.out.v.cap
  have HQ5 := HQ1.out.kept G5.out
  have y3 := HQ5.c 3 rfl
  have y4 := HQ5.c 4 rfl
  have y5 := HQ5.c 5 rfl
  clear HQ5
  go_wp2_with fail
  refine (odd_r C k2 d2 us M q3 q4 q5 6 (by omega) HSM.out _ HOD.out).mono ?_
  rintro e w6 ⟨C3, d3, us3, M3, rfl, hodd3, hsm3, g6⟩
  clear y3 y4 y5
  have HSM3 := Lib.hid hsm3
  obtain ⟨k3, hk3⟩ : ∃ k, k = M3.length := ⟨_, rfl⟩
  rw [← hk3] at hodd3 ⊢
  have HOD3 := Lib.hid hodd3
  have hc3le := hodd3.v.le
  have hc3cap := hodd3.v.cap
  have HOD6 := Lib.hid (HOD.out.kept g6)
  have HOM6 := Lib.hid (HOM.out.kept g6)
  have G6 := Lib.hid (G5.out.trans g6)
  clear hk3 hodd3 hsm3 g6 HOD HOM G5
  go_wp2_with fail
  refine (cut_r RA rn rc rvs rl _ (HR.out _ G6.out)).mono ?_
  rintro e w9 ⟨RB, rd, rus, rfl, hraw, g9⟩
  obtain ⟨p, hp⟩ : ∃ p, p = (cutV rl).length := ⟨_, rfl⟩
  rw [← hp] at hraw ⊢
  clear hp
  have hrle := hraw.v.le
  have hrcap := hraw.v.cap
  obtain ⟨w10, e10, HX10, g10⟩ := row_of w9 25 #[.slice B m d, .slice C k2 d2, .slice C3 k3 d3, .slice RB p rd]
  have HRW := Lib.hid hraw
  have E10 := Lib.hid e10
  have HX := Lib.hid HX10
  have G910 := Lib.hid g10
  have G69 := Lib.hid g9
  clear hraw e10 HX10 g10 g9
  go_upto_region 5 with fail
  rw [← E10.out]
  have G10 := Lib.hid (G6.out.trans (G69.out.trans G910.out))
  have HT : Hid (∀ i : Nat, i < 4 → ∃ (X : Option Addr) (xn xc : Nat) (xvs : List V) (xl : List O), w10.cell? ⟨w9.heap.size, i, none⟩ = some (.slice X xn xc) ∧ Offs w10 X xn xc xvs xl ∧ Small 7 xl) := Lib.hid (fun i hi => by
    have gg := G69.out.trans G910.out
    rcases (show i = 0 ∨ i = 1 ∨ i = 2 ∨ i = 3 by omega) with rfl | rfl | rfl | rfl
    · exact ⟨B, m, d, vs, L, HX.out.c 0 rfl, HOM6.out.kept gg, (made_small HML.out).up (by omega)⟩
    · exact ⟨C, k2, d2, us, M, HX.out.c 1 rfl, HOD6.out.kept gg, HSM.out.up (by omega)⟩
    · exact ⟨C3, k3, d3, us3, M3, HX.out.c 2 rfl, HOD3.out.kept gg, HSM3.out⟩
    · exact ⟨RB, p, rd, rus, cutV rl, HX.out.c 3 rfl, HRW.out.kept G910.out, cut_small rl⟩)
  clear E10 HX HRW HOD3 HOD6 HOM6 G6 HSM3 HSM G69 G910 HML HQ1 HR
  generalize w9.heap.size = Z at *
  go_wp2_with fail
  go_loopw [39] (fun z wr => ∃ i : Nat, i ≤ 4 ∧ z = .int .i64 (i : Int) ∧ Hid (w10.grownBy wr none)) (fun z _ => 4 - (intOf z).toNat)
  case atStart => exact ⟨0, by omega, rfl, Lib.hid (grown_refl _)⟩
  case round =>
    obtain ⟨i, hi, rfl, HG⟩ := hrel
    by_cases hlt : i < 4
    · obtain ⟨X, xn, xc, xvs, xl, cx, hxo, hxs⟩ := HT.out i hlt
      have HXO := Lib.hid (fun W (g : w10.grownBy W none) => hxo.kept g)
      have HCD := Lib.hid (offs_ok hxo)
      have HALL := Lib.hid (offs_all hxo)
      have HLX := Lib.hid hxo.len
      have HAN : Hid ((allN xl).length ≤ 427) := Lib.hid hxs.all
      have hxle := hxo.v.le
      have hxcap := hxo.v.cap
      have i1 : (0 : Int) ≤ (i : Int) := by omega
      have i2 : (i : Int) < 4 := by omega
      have i3 : decide ((i : Int) < 4) = true := decide_eq_true i2
      have i5 : IntKind.i64.wrap (i : Int) = (i : Int) := by rw [IntKind.wrap_i64]; omega
      have i6 : IntKind.i64.wrap ((i : Int) + 1) = (i : Int) + 1 := by rw [IntKind.wrap_i64]; omega
      replace cx := gcell HG.out cx
      clear hxo hxs
      go_wp2_with fail
      refine (order_k X xn xc xvs xl _ (HXO.out _ HG.out)).mono ?_
      rintro e w11 ⟨OA, oc, rfl, hos, g11⟩
      clear cx
      have HOS := Lib.hid hos
      have G11 := Lib.hid (HG.out.trans g11)
      clear g11 hos
      go_wp2_with fail
      refine (order_r X xn xc xvs xl (by have := HAN.out; omega) _ (HXO.out _ G11.out)).mono ?_
      rintro e w12 ⟨PA, pc, rfl, hps, g12⟩
      have HPS := Lib.hid hps
      have HOS2 := Lib.hid (HOS.out.kept g12)
      have G12 := Lib.hid (G11.out.trans g12)
      clear g12 G11 hps HOS
      go_wp2_with fail
      refine (sameT_r OA _ oc (orderV xl) PA _ pc (orderV xl) _ HOS2.out HPS.out).mono ?_
      rintro e w13 ⟨rfl, g13⟩
      rw [decide_eq_true rfl]
      have G13 := Lib.hid (G12.out.trans g13)
      clear g13 G12 HOS2 HPS
      go_wp2_with fail
      refine (codes_r _).mono ?_
      rintro e w14 ⟨rfl, hcs, g14⟩
      have ga := World.grownBy_alloc w13 (.cells #[.string ⟨([90] : Str).toArray⟩, .string ⟨([] : Str).toArray⟩] 9) none
      have HO14 := Lib.hid (own_grow (own_new2 w13 [90] []) g14)
      have HCS := Lib.hid hcs
      have GA := Lib.hid (ga.trans g14)
      have HB14 : Hid (w13.heap.size ≤ w14.heap.size) := Lib.hid GA.out.size
      clear ga g14 hcs
      generalize (w13.alloc (.cells #[.string ⟨#[90]⟩, .string ⟨#[]⟩] 9)).heap.size = CB at *
      go_upto_region 10 with (at_builtin; first
        | (refine wpList_append_vals elt9 rfl (.tmp 49) (.tmp 50) rfl w13.heap.size _ 2 _ rfl HO14.out _ 6 6 _ rfl HCS.out.v (by omega) HB14.out ?_
           intro y2 w15 ho hg hb hv
           have HO15 : Hid (OwnS w15 w13.heap.size y2 (cdK xl 0)) := Lib.hid (by unfold OwnS; exact ho)
           have G15 := Lib.hid (GA.out.andThen hg (fun r e => .inl (World.ownsRow.lt HO14.out r e).1))
           clear ho hg hb hv))
      have G15X := Lib.hid (G13.out.trans G15.out)
      clear HO14 HCS GA HB14
      go_upto_block 2 with fail
      go_cut [12] (fun y wx => ∃ (k : Nat) (w16 : World), k ≤ 8 ∧ Hid (OwnS w16 w13.heap.size y (cdK xl k)) ∧ w13.grownBy w16 none ∧ w16 = wx)
      case first =>
        go_wp2_with fail
        go_loopw [12, 13] (fun y z wr => ∃ k : Nat, k ≤ xn ∧ k ≤ 8 ∧ z = .int .i64 (k : Int) ∧ Hid (OwnS wr w13.heap.size y (cdK xl k)) ∧ Hid (w13.grownBy wr none)) (fun _ z _ => xn - (intOf z).toNat)
        case atStart => exact ⟨0, Nat.zero_le _, by omega, rfl, HO15, G15⟩
        case round =>
          clear HO15 G15 G15X
          obtain ⟨k, hk, hk8, rfl, HO, HGW⟩ := hrel
          generalize u12 = y at *
          by_cases hl2 : k < xn
          · by_cases h8 : k < 8
            · obtain ⟨ad, v, o, ho, _, rfl, _, hv, x0, _, _, _, _⟩ := (HXO.out _ (G13.out.trans HGW.out)).at k hl2
              rw [hv.code] at x0
              have HOO := Lib.hid ho
              have HOL := Lib.hid (HCD.out o (List.mem_of_getElem? ho))
              have k1 : (0 : Int) ≤ (k : Int) := by omega
              have k2' : (k : Int) < (xn : Int) := by omega
              have k3' : decide ((k : Int) < (xn : Int)) = true := decide_eq_true k2'
              have k4' : decide ((k : Int) < 8) = true := decide_eq_true (by omega)
              have k5 : IntKind.i64.wrap (k : Int) = (k : Int) := by rw [IntKind.wrap_i64]; omega
              have k6 : IntKind.i64.wrap ((k : Int) + 1) = (k : Int) + 1 := by rw [IntKind.wrap_i64]; omega
              have ga := World.grownBy_alloc wr (.cells #[.string ⟨o.code.toArray⟩] 9) none
              have HOa := Lib.hid (own_grow HO.out ga)
              have HV2 := Lib.hid (new_vals wr 9 [.string ⟨o.code.toArray⟩] 1 rfl (by omega) (fun u hu => by rw [List.mem_singleton.1 hu]; rfl))
              have Ga := Lib.hid (HGW.out.trans ga)
              have HBL : Hid ((cdK xl k).length + 1 ≤ 1000000) := Lib.hid (by have := cdK_len xl k; omega)
              clear hv ho ga
              go_upto_region 12 with (at_builtin; first
                | (refine wpList_append_vals elt9 rfl (.tmp 62) (.tmp 68) rfl w13.heap.size y _ _ rfl HOa.out _ 1 1 _ rfl HV2.out HBL.out Ga.out.size ?_
                   intro y2 w15 ho hg hb hv
                   have HO15 : Hid (OwnS w15 w13.heap.size y2 (cdK xl (k + 1))) := Lib.hid (by
                     unfold OwnS
                     rw [cdK_snoc HOO.out, List.length_append, List.map_append]
                     exact ho)
                   have G15 := Lib.hid (Ga.out.andThen hg (fun r e => .inl (World.ownsRow.lt HOa.out r e).1))
                   clear ho hg hb hv))
              go_wp2_with fail
              go_roundw
              case rel => exact ⟨k + 1, by omega, by omega, by go_num, HO15, G15⟩
              case measure => simp [intOf]; omega
            · obtain rfl : k = 8 := by omega
              have k3' : decide (((8 : Nat) : Int) < (xn : Int)) = true := decide_eq_true (by omega)
              have k4' : decide (((8 : Nat) : Int) < 8) = false := by simp
              have k7' : ((8 : Nat) : Int) < (xn : Int) := by omega
              go_wp2_with fail
              go_meet
              exact ⟨8, _, by omega, HO, HGW.out, rfl⟩
          · obtain rfl : xn = k := by omega
            have k3' : decide ((xn : Int) < (xn : Int)) = false := decide_eq_false (by omega)
            go_wp2_with fail
            go_meet
            exact ⟨xn, _, hk8, HO, HGW.out, rfl⟩
      clear HO15 G15 G15X
      obtain ⟨kc, w16, hkc, HO16, g16, rfl⟩ := hcut
      have G16 := Lib.hid (G13.out.trans g16)
      obtain ⟨YA, yc, rfl, hys⟩ := strs_own HO16.out (cd_ok HCD.out kc)
      obtain ⟨cn, hcn⟩ : ∃ cn, cn = (cdK xl kc).length := ⟨_, rfl⟩
      rw [← hcn] at hys ⊢
      have HYS := Lib.hid hys
      have hyle := hys.v.le
      have hycap := hys.v.cap
      have hcn16 : cn ≤ 16 := by have := cdK_len xl kc; omega
      generalize cdK xl kc = CC at *
      clear hys hcn g16 HO16 G13
      go_wp2_with fail
      go_loopw [72] (fun z wr => ∃ j : Nat, j ≤ cn ∧ z = .int .i64 (j : Int) ∧ Hid (w16.grownBy wr none)) (fun z _ => cn - (intOf z).toNat)
      case atStart => exact ⟨0, Nat.zero_le _, rfl, Lib.hid (grown_refl _)⟩
      case round =>
        obtain ⟨j, hj, rfl, HGJ⟩ := hrel
        by_cases hl3 : j < cn
        · obtain ⟨ad2, s, hsx, hsl, rfl, _, cx⟩ := (HYS.out.kept HGJ.out).at j hl3
          have j1 : (0 : Int) ≤ (j : Int) := by omega
          have j2 : (j : Int) < (cn : Int) := by omega
          have j3 : decide ((j : Int) < (cn : Int)) = true := decide_eq_true j2
          have j5 : IntKind.i64.wrap (j : Int) = (j : Int) := by rw [IntKind.wrap_i64]; omega
          have j6 : IntKind.i64.wrap ((j : Int) + 1) = (j : Int) + 1 := by rw [IntKind.wrap_i64]; omega
          clear hsx
          go_wp2_with fail
          refine (findV_k X xn xc xvs xl s _ (HXO.out _ (G16.out.trans HGJ.out))).mono ?_
          rintro e w17 ⟨v17, rfl, g17, hv17⟩
          clear cx
          obtain ⟨ac, ar, ap, aA, an, ak, bA, bn, bk⟩ := v17
          simp only [V.cells]
          obtain ⟨w18, e18, HP18, g18⟩ := row_of w17 35 #[.string ⟨ac.toArray⟩, .int .i64 ar, .int .i64 ap, .slice aA an ak, .slice bA bn bk]
          have E18 := Lib.hid e18
          have HR18 := Lib.hid HP18
          have HV18 := Lib.hid (hv17.kept g18)
          have G18 := Lib.hid (HGJ.out.trans (g17.trans g18))
          clear e18 HP18 hv17 g17 g18
          go_upto_region 18 with fail
          rw [← E18.out]
          clear E18
          generalize w17.heap.size = P18 at *
          go_wp2_with fail
          refine (findV_r X xn xc xvs xl s _ (HXO.out _ (G16.out.trans G18.out))).mono ?_
          rintro e w19 ⟨v19, rfl, g19, hv19⟩
          obtain ⟨oc_, or, op, oA, on, ok, pA, pn, pk⟩ := v19
          simp only [V.cells]
          obtain ⟨w20, e20, HP20, g20⟩ := row_of w19 35 #[.string ⟨oc_.toArray⟩, .int .i64 or, .int .i64 op, .slice oA on ok, .slice pA pn pk]
          have E20 := Lib.hid e20
          have HR20 := Lib.hid HP20
          have HV20 := Lib.hid (hv19.kept g20)
          have HR18b := Lib.hid (HR18.out.kept (g19.trans g20))
          have HV18b := Lib.hid (HV18.out.kept (g19.trans g20))
          have G20 := Lib.hid (G18.out.trans (g19.trans g20))
          clear e20 HP20 hv19 g19 g20 HR18 HV18 G18
          go_upto_region 19 with fail
          rw [← E20.out]
          clear E20
          generalize w19.heap.size = P20 at *
          obtain ⟨lo, hlo⟩ : ∃ lo, lo = j % 3 := ⟨_, rfl⟩
          obtain ⟨hi2, hhi⟩ : ∃ hi, hi = min cn (3 + j) := ⟨_, rfl⟩
          have r0 : ((j : Int)).tmod 3 = (lo : Int) := by rw [hlo]; exact Int.tmod_eq_emod_of_nonneg (by omega)
          have r1 : IntKind.i64.wrap (lo : Int) = (lo : Int) := by rw [IntKind.wrap_i64]; omega
          have r2 : IntKind.i64.wrap (3 + (j : Int)) = 3 + (j : Int) := by rw [IntKind.wrap_i64]; omega
          have r3 : min (cn : Int) (3 + (j : Int)) = (hi2 : Int) := by omega
          have r4 : (0 : Int) ≤ (lo : Int) := by omega
          have r5 : (lo : Int) ≤ (hi2 : Int) := by omega
          have r6 : (hi2 : Int) ≤ (yc : Int) := by omega
          have r7 : (0 : Int) ≤ (hi2 : Int) := by omega
          have r8 : lo ≤ hi2 := by omega
          have HLH : Hid (lo ≤ hi2 ∧ hi2 ≤ cn) := Lib.hid ⟨by omega, by omega⟩
          clear hlo hhi
          go_upto_region 20 with fail
          obtain ⟨a6, ha6, hb6⟩ : ∃ a6, (if yc = lo then some ad2 else some (ad2.add lo)) = some a6 ∧ a6 = if yc = lo then ad2 else ad2.add lo := by
            by_cases e : yc = lo
            · exact ⟨ad2, by rw [if_pos e], by rw [if_pos e]⟩
            · exact ⟨ad2.add lo, by rw [if_neg e], by rw [if_neg e]⟩
          rw [ha6]
          have HHS := Lib.hid ((HYS.out.kept G20.out).part lo hi2 HLH.out.1 HLH.out.2 hb6)
          clear ha6 hb6 r0 r1 r2 r3 r4 r5 r6 r7 r8 HLH
          generalize hi2 - lo = hn at *
          generalize yc - lo = hc at *
          generalize (CC.take hi2).drop lo = HAS at *
          have c0 := HR18b.out.c 0 rfl
          have c1 := HR18b.out.c 1 rfl
          have c2 := HR18b.out.c 2 rfl
          have c3 := HR18b.out.c 3 rfl
          have c4 := HR18b.out.c 4 rfl
          have d0 := HR20.out.c 0 rfl
          have d1 := HR20.out.c 1 rfl
          have d2' := HR20.out.c 2 rfl
          have d3' := HR20.out.c 3 rfl
          have d4' := HR20.out.c 4 rfl
          generalize (fnd xl s).isSome = sb at *
          go_wp2_with fail
          refine (same_r ⟨ac, ar, ap, aA, an, ak, bA, bn, bk⟩ ⟨oc_, or, op, oA, on, ok, pA, pn, pk⟩ _ _ HV18b.out HV20.out).mono ?_
          rintro e w21 ⟨rfl, g21⟩
          have G21 := Lib.hid (G20.out.trans g21)
          have HR21 := Lib.hid (HR20.out.kept g21)
          have HV21 := Lib.hid (HV20.out.kept g21)
          have HH21 := Lib.hid (HHS.out.kept g21)
          clear c0 c1 c2 c3 c4 d0 d1 d2' d3' d4' g21 HR18b HV18b HR20 HV20 HHS G20
          go_wp2_with fail
          refine (needs_k X xn xc xvs xl s (by have := HAN.out; omega) HALL.out _ (HXO.out _ (G16.out.trans G21.out))).mono ?_
          rintro e w22 ⟨NA, nd, rfl, hn1, g22⟩
          have HN1 := Lib.hid hn1
          have G22 := Lib.hid (G21.out.trans g22)
          have HR22 := Lib.hid (HR21.out.kept g22)
          have HV22 := Lib.hid (HV21.out.kept g22)
          have HH22 := Lib.hid (HH21.out.kept g22)
          clear hn1 g22 HR21 HV21 HH21 G21
          go_wp2_with fail
          refine (needs_r X xn xc xvs xl s (by have := HAN.out; omega) _ (HXO.out _ (G16.out.trans G22.out))).mono ?_
          rintro e w23 ⟨NB, ne, rfl, hn2, g23⟩
          have HN2 := Lib.hid hn2
          have HN12 := Lib.hid (HN1.out.kept g23)
          have G23 := Lib.hid (G22.out.trans g23)
          have HR23 := Lib.hid (HR22.out.kept g23)
          have HV23 := Lib.hid (HV22.out.kept g23)
          have HH23 := Lib.hid (HH22.out.kept g23)
          clear hn2 g23 HR22 HV22 HH22 G22 HN1
          go_wp2_with fail
          refine (sameT_r NA _ nd (needsV xl s) NB _ ne (needsV xl s) _ HN12.out HN2.out).mono ?_
          rintro e w24 ⟨rfl, g24⟩
          rw [decide_eq_true rfl]
          have G24 := Lib.hid (G23.out.trans g24)
          have HR24 := Lib.hid (HR23.out.kept g24)
          have HV24 := Lib.hid (HV23.out.kept g24)
          have HH24 := Lib.hid (HH23.out.kept g24)
          clear g24 HR23 HV23 HH23 G23 HN12 HN2
          go_wp2_with fail
          refine (met_k X xn xc xvs xl s (some a6) hn hc HAS _ (HXO.out _ (G16.out.trans G24.out)) HH24.out).mono ?_
          rintro e w25 ⟨rfl, g25⟩
          have G25 := Lib.hid (G24.out.trans g25)
          have HR25 := Lib.hid (HR24.out.kept g25)
          have HV25 := Lib.hid (HV24.out.kept g25)
          have HH25 := Lib.hid (HH24.out.kept g25)
          clear g25 HR24 HV24 HH24 G24
          go_wp2_with fail
          refine (met_r X xn xc xvs xl s (some a6) hn hc HAS _ (HXO.out _ (G16.out.trans G25.out)) HH25.out).mono ?_
          rintro e w26 ⟨rfl, g26⟩
          have G26 := Lib.hid (G25.out.trans g26)
          have HR26 := Lib.hid (HR25.out.kept g26)
          have HV26 := Lib.hid (HV25.out.kept g26)
          clear g26 HR25 HV25 HH25 G25
          generalize metV xl s HAS = mb at *
          go_wp2_with fail
          generalize (fnd xl s).getD zO = fo at *
          go_loopw [21] (fun z wr => ∃ t : Nat, t ≤ xn ∧ t ≤ 8 ∧ z = .int .i64 (t : Int) ∧ Hid (w26.grownBy wr none)) (fun z _ => xn - (intOf z).toNat)
          case atStart => exact ⟨0, Nat.zero_le _, by omega, rfl, Lib.hid (grown_refl _)⟩
          case round =>
            obtain ⟨t, ht, ht8, rfl, HGT⟩ := hrel
            by_cases hl4 : t < xn
            · by_cases h8 : t < 8
              · obtain ⟨ad3, v, o, ho, _, rfl, _, hv, x0, x1, x2, x3, x4⟩ := (HXO.out _ (G16.out.trans (G26.out.trans HGT.out))).at t hl4
                obtain ⟨vc_, vr, vp, sA, sn, sc, nA, nn, nc⟩ := v
                simp only at x0 x1 x2 x3 x4
                have HVX := Lib.hid hv.slots
                clear hv ho
                have b1 : (0 : Int) ≤ (t : Int) := by omega
                have b2 : (t : Int) < (xn : Int) := by omega
                have b3 : decide ((t : Int) < (xn : Int)) = true := decide_eq_true b2
                have b4 : decide ((t : Int) < 8) = true := decide_eq_true (by omega)
                have b5 : IntKind.i64.wrap (t : Int) = (t : Int) := by rw [IntKind.wrap_i64]; omega
                have b6 : IntKind.i64.wrap ((t : Int) + 1) = (t : Int) + 1 := by rw [IntKind.wrap_i64]; omega
                have HRT := HR26.out.kept HGT.out
                have c0 := HRT.c 0 rfl
                have c1 := HRT.c 1 rfl
                have c2 := HRT.c 2 rfl
                have c3 := HRT.c 3 rfl
                have c4 := HRT.c 4 rfl
                have HIT := Lib.hid ((HV26.out.slots).kept HGT.out)
                clear HRT
                go_upto_region 25 with fail
                have gz : wr.grownBy wr.drew none := grown_dr (grown_refl _)
                refine wp_region_noPanic ?_
                refine wp_region_held_drew (S := (fun w' => wr.grownBy w' none)) (by kernel_rfl) ?_ (fun hHeld => ?_)
                · (try dsimp only); (repeat (first | assumption | exact grown_refl _ | refine grown_dr ?_ | refine grown_dn ?_ | refine grown_al ?_))
                refine wpAnyH_take (i := 0) (oi := _) (v := .agg #[.string ⟨oc_.toArray⟩, .int .i64 or, .int .i64 op, .slice oA on ok, .slice pA pn pk]) rfl (by kernel_rfl) (by kernel_rfl) (by kernel_rfl) (fun _ _ _ h => h) (Or.inl ⟨by kernel_rfl, ?_⟩) (by assumption) ?_
                · (intro w hSw; (try dsimp only at hSw); go_simp; have y0 := gcell hSw c0; have y1 := gcell hSw c1; have y2 := gcell hSw c2; have y3 := gcell hSw c3; have y4 := gcell hSw c4; clear hSw; go_simp; first | done | with_reducible rfl)
                try go_simp
                refine wpAnyH_take (i := 1) (oi := _) (v := ?_) rfl (by kernel_rfl) (by kernel_rfl) (by kernel_rfl) (fun _ _ _ h => h) (Or.inl ⟨by rfl, ?_⟩) (by assumption) ?_
                rotate_left 1
                · (intro w hSw; (try dsimp only at hSw); go_simp; first | done | with_reducible rfl)
                try go_simp
                refine wpAnyH_take (i := 2) (oi := _) (v := ?_) rfl (by kernel_rfl) (by kernel_rfl) (by kernel_rfl) (fun _ _ _ h => h) (Or.inl ⟨by rfl, ?_⟩) (by assumption) ?_
                rotate_left 1
                · (intro w hSw; (try dsimp only at hSw); go_simp; first | done | with_reducible rfl)
                try go_simp
                refine wpAnyH_take (i := 3) (oi := _) (v := ?_) rfl (by kernel_rfl) (by kernel_rfl) (by kernel_rfl) (fun _ _ _ h => h) (Or.inl ⟨by rfl, ?_⟩) (by assumption) ?_
                rotate_left 1
                · (intro w hSw; (try dsimp only at hSw); go_simp; first | done | with_reducible rfl)
                try go_simp
                refine wpAnyH_take (i := 4) (oi := _) (v := .agg #[.string ⟨vc_.toArray⟩, .int .i64 vr, .int .i64 vp, .slice sA sn sc, .slice nA nn nc]) rfl (by kernel_rfl) (by kernel_rfl) (by kernel_rfl) (fun _ _ _ h => h) (Or.inl ⟨by kernel_rfl, ?_⟩) (by assumption) ?_
                · (intro w hSw; (try dsimp only at hSw); go_simp; have y0 := gcell hSw x0; have y1 := gcell hSw x1; have y2 := gcell hSw x2; have y3 := gcell hSw x3; have y4 := gcell hSw x4; clear hSw; go_simp; first | done | with_reducible rfl)
                try go_simp
                refine wpAnyH_take (i := 6) (oi := _) (v := .agg #[.string ⟨oc_.toArray⟩, .int .i64 or, .int .i64 op, .slice oA on ok, .slice pA pn pk]) rfl (by kernel_rfl) (by kernel_rfl) (by kernel_rfl) (fun _ _ _ h => h) (Or.inl ⟨by kernel_rfl, ?_⟩) (by assumption) ?_
                · (intro w hSw; (try dsimp only at hSw); go_simp; have y0 := gcell hSw c0; have y1 := gcell hSw c1; have y2 := gcell hSw c2; have y3 := gcell hSw c3; have y4 := gcell hSw c4; clear hSw; go_simp; first | done | with_reducible rfl)
                try go_simp
                refine wpAnyH_take (i := 7) (oi := _) (v := ?_) rfl (by kernel_rfl) (by kernel_rfl) (by kernel_rfl) (fun _ _ _ h => h) (Or.inl ⟨by rfl, ?_⟩) (by assumption) ?_
                rotate_left 1
                · (intro w hSw; (try dsimp only at hSw); go_simp; first | done | with_reducible rfl)
                try go_simp
                refine wpAnyH_take (i := 8) (oi := _) (v := ?_) rfl (by kernel_rfl) (by kernel_rfl) (by kernel_rfl) (fun _ _ _ h => h) (Or.inl ⟨by rfl, ?_⟩) (by assumption) ?_
                rotate_left 1
                · (intro w hSw; (try dsimp only at hSw); go_simp; first | done | with_reducible rfl)
                try go_simp
                refine wpAnyH_take (i := 9) (oi := _) (v := ?_) rfl (by kernel_rfl) (by kernel_rfl) (by kernel_rfl) (fun _ _ _ h => h) (Or.inl ⟨by rfl, ?_⟩) (by assumption) ?_
                rotate_left 1
                · (intro w hSw; (try dsimp only at hSw); go_simp; first | done | with_reducible rfl)
                try go_simp
                refine wpAnyH_take (i := 10) (oi := _) (v := .agg #[.string ⟨vc_.toArray⟩, .int .i64 vr, .int .i64 vp, .slice sA sn sc, .slice nA nn nc]) rfl (by kernel_rfl) (by kernel_rfl) (by kernel_rfl) (fun _ _ _ h => h) (Or.inl ⟨by kernel_rfl, ?_⟩) (by assumption) ?_
                · (intro w hSw; (try dsimp only at hSw); go_simp; have y0 := gcell hSw x0; have y1 := gcell hSw x1; have y2 := gcell hSw x2; have y3 := gcell hSw x3; have y4 := gcell hSw x4; clear hSw; go_simp; first | done | with_reducible rfl)
                try go_simp
                refine wpAnyH_ready (rs := [5]) (by kernel_rfl) (by simp) ?_
                refine AllReadyH.cons (o := _) rfl (fun K hK => ?_) AllReadyH.nil
                go_simp
                refine (clash_k ⟨oc_, or, op, oA, on, ok, pA, pn, pk⟩ ⟨vc_, vr, vp, sA, sn, sc, nA, nn, nc⟩ fo.slots o.slots _ (HIT.out.kept gz) (HVX.out.kept gz)).mono ?_
                rintro e w27 ⟨rfl, g27⟩
                replace gz := gz.trans g27
                clear g27
                first | (refine hK.out _ _ ?_ (fun hHeld => ?_)) | (go_wp2_with fail; refine hK.out _ _ ?_ (fun hHeld => ?_))
                · (try dsimp only); (repeat (first | assumption | exact grown_refl _ | refine grown_dr ?_ | refine grown_dn ?_ | refine grown_al ?_))
                clear hK K
                refine wpAnyH_ready (rs := [11]) (by kernel_rfl) (by simp) ?_
                refine AllReadyH.cons (o := _) rfl (fun K hK => ?_) AllReadyH.nil
                go_simp
                refine (clash_r ⟨oc_, or, op, oA, on, ok, pA, pn, pk⟩ ⟨vc_, vr, vp, sA, sn, sc, nA, nn, nc⟩ fo.slots o.slots _ (HIT.out.kept gz) (HVX.out.kept gz)).mono ?_
                rintro e w28 ⟨rfl, g28⟩
                replace gz := gz.trans g28
                clear g28
                generalize (o.slots.any fun n => decide (n ∈ fo.slots)) = cb at *
                first | (refine hK.out _ _ ?_ (fun hHeld => ?_)) | (go_wp2_with fail; refine hK.out _ _ ?_ (fun hHeld => ?_))
                · (try dsimp only); (repeat (first | assumption | exact grown_refl _ | refine grown_dr ?_ | refine grown_dn ?_ | refine grown_al ?_))
                clear hK K
                refine wpAnyH_take (i := 12) (oi := _) (v := .bool false) rfl (by kernel_rfl) (by kernel_rfl) (by kernel_rfl) (fun _ _ _ h => h) (Or.inl ⟨by kernel_rfl, ?_⟩) (by assumption) ?_
                · (intro w hSw; (try dsimp only at hSw); go_simp; first | done | with_reducible rfl)
                try go_simp
                refine wpAnyH_done (by kernel_rfl) ?_ _
                refine NoPanic.normal ?_
                go_simp
                have GZ := Lib.hid (HGT.out.trans gz)
                clear gz
                go_wp2_with fail
                go_roundw
                case rel => exact ⟨t + 1, by omega, by omega, by go_num, GZ⟩
                case measure => simp [intOf]; omega
              · obtain rfl : t = 8 := by omega
                have b3 : decide (((8 : Nat) : Int) < (xn : Int)) = true := decide_eq_true (by omega)
                have b4 : decide (((8 : Nat) : Int) < 8) = false := by simp
                have b7 : ((8 : Nat) : Int) < (xn : Int) := by omega
                go_wp2_with fail
                go_roundw
                case rel => exact ⟨j + 1, by omega, by go_num, Lib.hid (G26.out.trans HGT.out)⟩
                case measure => simp [intOf]; omega
            · obtain rfl : xn = t := by omega
              have b3 : decide ((xn : Int) < (xn : Int)) = false := decide_eq_false (by omega)
              go_wp2_with fail
              go_roundw
              case rel => exact ⟨j + 1, by omega, by go_num, Lib.hid (G26.out.trans HGT.out)⟩
              case measure => simp [intOf]; omega
        · obtain rfl : cn = j := by omega
          have j3 : decide ((cn : Int) < (cn : Int)) = false := decide_eq_false (by omega)
          go_wp2_with fail
          go_roundw
          case rel => exact ⟨i + 1, by omega, by go_num, Lib.hid (G16.out.trans HGJ.out)⟩
          case measure => simp [intOf]; omega
    · obtain rfl : i = 4 := by omega
      have k3' : decide (((4 : Nat) : Int) < 4) = false := by simp
      go_wp2_with fail
      go_ret
      exact ⟨rfl, G1.out.trans (G10.out.trans HG.out)⟩
end Go.Proofs.Ytnkemoicgadefaa
