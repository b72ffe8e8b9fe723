/-
  CourseClosed: the law walked.
-/
import Derived.Test.YtnkemoicgadefaaOdd
import Derived.Test.YtnkemoicgadefaaMde
import Derived.Test.YtnkemoicgadefaaFnk
namespace Go.Proofs.Ytnkemoicgadefaa
open Go.RowKit
attribute [local go_sem] get_mk extract_mk
theorem vc_take : ∀ (vs : List V) (k : Nat), vc (vs.take k) = (vc vs).take (k * 5)
  | [], k => by simp [vc]
  | x :: t, 0 => by simp [vc]
  | x :: t, k + 1 => by
    have ih := vc_take t k
    have e : vc (x :: t) = x.cells.toList ++ vc t := rfl
    have e2 : vc (x :: t.take k) = x.cells.toList ++ vc (t.take k) := rfl
    have h5 : x.cells.toList.length = 5 := rfl
    rw [List.take_succ_cons, e, e2, ih, List.take_append, h5, List.take_of_length_le (show x.cells.toList.length ≤ (k + 1) * 5 by rw [h5]; omega), show (k + 1) * 5 - 5 = k * 5 by omega]
theorem Offs.takeO {w : World} {A : Option Addr} {n c : Nat} {vs : List V} {l : List O} (h : Offs w A n c vs l) (k : Nat) (hk : k ≤ n) : Offs w A k c (vs.take k) (l.take k) := by
  have hl := h.len
  refine ⟨⟨?_, by have := h.v.le; omega, h.v.cap, h.v.nil, fun v hv => vc_one hv, fun h0 => ?_⟩, by rw [List.length_take]; omega, by rw [List.length_take, List.length_take, h.vlen], fun j v o hv ho => ?_⟩
  · rw [vc_take, List.length_take]
    have := h.v.len
    omega
  · obtain ⟨ad, e, hb, hc⟩ := h.v.cell (by omega)
    refine ⟨ad, e, hb, fun j v hj => hc j v ?_⟩
    rw [vc_take, List.getElem?_take] at hj
    split at hj
    · exact hj
    · cases hj
  · rw [List.getElem?_take] at hv ho
    split at hv
    · rename_i h1
      rw [if_pos h1] at ho
      exact h.is j v o hv ho
    · cases hv
theorem findN_k (A : Option Addr) (n c : Nat) (vs : List V) (l : List O) (code : Str) (w : World) (h : Offs w A n c vs l) :
    Calls Try.prog 20 #[.slice A n c, .string ⟨code.toArray⟩] w fun e w' => ∃ (v' : V) (b : Bool), e = .returned (.tuple #[.agg v'.cells, .bool b]) ∧ w.grownBy w' none ∧ Strs w' v'.nA v'.nn v'.nc (nx l code) ∧ (nx l code).length ≤ 1000 := by
  refine (find_k A n c vs l code w h).mono ?_
  rintro e w' ⟨v', b, rfl, g, h⟩
  refine ⟨v', b, rfl, g, ?_⟩
  rcases h with ⟨rfl, hf, rfl⟩ | ⟨o, rfl, hf, hv, _⟩
  · have hx : nx l code = [] := by unfold nx; rw [hf]
    rw [hx]
    exact ⟨Strs.nil_ _, by simp⟩
  · have hx : nx l code = o.needs := by unfold nx; rw [hf]
    rw [hx]
    exact ⟨hv.needs, hv.few.2⟩
/-- what is wanted, as far as the needs are read -/
structure Want (l : List O) (nd : List Str) (i : Nat) (W : List Str) : Prop where
  inc : Inc W
  is : ∀ s, s ∈ W ↔ ∃ c ∈ nd.take i, s = c ∨ Leads (nx l) c s
structure Wan2 (l : List O) (nd : List Str) (i : Nat) (c : Str) (j : Nat) (W : List Str) : Prop where
  inc : Inc W
  is : ∀ s, s ∈ W ↔ (∃ c ∈ nd.take i, s = c ∨ Leads (nx l) c s) ∨ s = c ∨ s ∈ (needsV l c).take j
theorem want_nil (l : List O) (nd : List Str) : Want l nd 0 [] := ⟨List.Pairwise.nil, by simp⟩
theorem Want.put {l : List O} {nd : List Str} {i : Nat} {W W2 : List Str} {c : Str} (h : Want l nd i W) (hi : Inc W2) (hm : ∀ x, x ∈ W2 ↔ x = c ∨ x ∈ W) : Wan2 l nd i c 0 W2 :=
  ⟨hi, fun s => by rw [hm, h.is]; simp [or_comm]⟩
theorem Wan2.put {l : List O} {nd : List Str} {i j : Nat} {W W2 : List Str} {c d : Str} (h : Wan2 l nd i c j W) (hd : (needsV l c)[j]? = some d) (hi : Inc W2) (hm : ∀ x, x ∈ W2 ↔ x = d ∨ x ∈ W) : Wan2 l nd i c (j + 1) W2 :=
  ⟨hi, fun s => by
    rw [hm, h.is, take_snoc hd, List.mem_append, List.mem_singleton]
    constructor
    · rintro (h | h | h | h)
      · exact .inr (.inr (.inr h))
      · exact .inl h
      · exact .inr (.inl h)
      · exact .inr (.inr (.inl h))
    · rintro (h | h | h | h)
      · exact .inr (.inl h)
      · exact .inr (.inr (.inl h))
      · exact .inr (.inr (.inr h))
      · exact .inl h⟩
theorem Wan2.done {l : List O} {nd : List Str} {i j : Nat} {W : List Str} {c : Str} (h : Wan2 l nd i c j W) (hc : nd[i]? = some c) (hj : (needsV l c).length ≤ j) : Want l nd (i + 1) W :=
  ⟨h.inc, fun s => by
    rw [h.is, List.take_of_length_le hj, needs_mem, take_snoc hc]
    constructor
    · rintro (⟨x, hx, h⟩ | h | h)
      · exact ⟨x, List.mem_append_left _ hx, h⟩
      · exact ⟨c, by simp, .inl h⟩
      · exact ⟨c, by simp, .inr h⟩
    · rintro ⟨x, hx, h⟩
      rcases List.mem_append.1 hx with hx | hx
      · exact .inl ⟨x, hx, h⟩
      · rw [List.mem_singleton.1 hx] at h
        rcases h with h | h
        · exact .inr (.inl h)
        · exact .inr (.inr h)⟩
theorem Want.all {l : List O} {code : Str} {i : Nat} {W : List Str} (h : Want l (nx l code) i W) (hi : (nx l code).length ≤ i) : W = needsV l code := by
  refine h.inc.ext (needs_is l code).1 (fun s => ?_)
  rw [h.is, List.take_of_length_le hi, needs_mem]
  constructor
  · rintro ⟨c, hc, rfl | h⟩
    · exact .one hc
    · exact h.head hc
  · intro h
    obtain ⟨c, hc, h⟩ := h.start
    refine ⟨c, hc, ?_⟩
    rcases h with h | h
    · exact .inl h.symm
    · exact .inr h
theorem Want.small {l : List O} {code : Str} {i : Nat} {W : List Str} (h : Want l (nx l code) i W) : W.length ≤ (allN l).length := nodup_le (inc_nodup h.inc) (fun x hx => by
  obtain ⟨c, hc, h⟩ := (h.is x).1 hx
  have hcl := nx_all (List.mem_of_mem_take hc)
  rcases h with rfl | h
  · exact hcl
  · exact leads_all h)
theorem Wan2.small {l : List O} {code : Str} {i j : Nat} {W : List Str} {c : Str} (h : Wan2 l (nx l code) i c j W) (hc : c ∈ allN l) : W.length ≤ (allN l).length := nodup_le (inc_nodup h.inc) (fun x hx => by
  rcases (h.is x).1 hx with ⟨c, hc, h⟩ | rfl | h
  · have hcl := nx_all (List.mem_of_mem_take hc)
    rcases h with rfl | h
    · exact hcl
    · exact leads_all h
  · exact hc
  · exact leads_all ((needs_mem l _ _).1 (List.mem_of_mem_take h)))
theorem offs_all {w : World} {A : Option Addr} {n c : Nat} {vs : List V} {l : List O} (h : Offs w A n c vs l) : ∀ x ∈ allN l, x.length ≤ 1152921504606846976 := fun x hx => by
  obtain ⟨o, ho, hxo⟩ := List.mem_flatMap.1 hx
  obtain ⟨j, hj⟩ := List.getElem?_of_mem ho
  obtain ⟨v, hv⟩ : ∃ v, vs[j]? = some v := ⟨_, List.getElem?_eq_getElem (by rw [h.vlen]; exact (List.getElem?_eq_some_iff.1 hj).1)⟩
  exact (h.is j v o hv hj).needs.ok x hxo
set_option maxRecDepth 100000 in
set_option maxHeartbeats 8000000 in
theorem closed_walk (A : Option Addr) (n c : Nat) (l : List Int) (q0 q1 q2 : Int) (w : World) (h : Ints w A n c l) :
    Calls Try.prog 6 #[.slice A n c, .agg #[.int .i64 q0, .int .i64 q1, .int .i64 q2]] w fun e w' => e = .returned (.bool true) ∧ w.grownBy w' none := by
  obtain ⟨w1, e1, HQ, g1⟩ := row_of w 23 #[.int .i64 q0, .int .i64 q1, .int .i64 q2]
  have HH := Lib.hid (fun W (g : w1.grownBy W none) => h.kept (g1.trans g))
  have E1 := Lib.hid e1
  have G1 := Lib.hid g1
  clear e1 g1 h
  go_enter Try.func6, Try.ntmps6
  go_upto_region 1 with fail
  rw [← E1.out]
  clear E1
  generalize w.heap.size = Q at *
  go_wp2_with fail
  refine (sane_k _).mono ?_
  rintro e w2 ⟨rfl, g2⟩
  go_wp2_with fail
  refine (made_r A n c l _ (HH.out _ g2)).mono ?_
  rintro e w3 ⟨B, d, vs, L, rfl, hoffs, hml, g3⟩
  have HML := Lib.hid hml
  have HOF := Lib.hid hoffs
  have HQ3 := HQ.kept (g2.trans g3)
  have G3 := Lib.hid (G1.out.trans (g2.trans g3))
  clear hoffs hml g2 g3 HH HQ G1
  have hble := HOF.out.v.le
  have hbcap := HOF.out.v.cap
  obtain ⟨m, hm⟩ : ∃ m, m = L.length := ⟨_, rfl⟩
  rw [← hm] at HOF hble ⊢
  have HM := Lib.hid hm
  clear hm
  have y0 := HQ3.c 0 rfl
  have y1 := HQ3.c 1 rfl
  have y2 := HQ3.c 2 rfl
  clear HQ3
  go_wp2_with fail
  refine (odd_r B m d vs L q0 q1 q2 5 (by omega) (made_small HML.out) _ HOF.out).mono ?_
  rintro e w4 ⟨C, d2, us, M, rfl, hodd, hsm, g4⟩
  clear y0 y1 y2
  have HOM := Lib.hid (HOF.out.kept g4)
  have HSM := Lib.hid hsm
  have G4 := Lib.hid (G3.out.trans g4)
  obtain ⟨p, hp⟩ : ∃ p, p = M.length := ⟨_, rfl⟩
  rw [← hp] at hodd ⊢
  obtain ⟨r, hr⟩ : ∃ r, r = min p 8 := ⟨_, rfl⟩
  have HOD := Lib.hid (hodd.takeO r (by omega))
  have hcle := hodd.v.le
  have hccap := hodd.v.cap
  have r1 : min (p : Int) 8 = (r : Int) := by omega
  have r2 : (0 : Int) ≤ (r : Int) := by omega
  have r3 : (r : Int) ≤ (p : Int) := by omega
  have r4 : (r : Int) ≤ (d2 : Int) := by omega
  clear hsm g4 hp hodd hr HOF G3
  obtain ⟨w5, e5, HX, g5⟩ := row_of w4 25 #[.slice B m d, .slice C r d2]
  have E5 := Lib.hid e5
  have HX5 := Lib.hid HX
  have G5 := Lib.hid (G4.out.trans g5)
  have HOM5 := Lib.hid (HOM.out.kept g5)
  have HOD5 := Lib.hid (HOD.out.kept g5)
  clear e5 g5 HX HOM HOD G4
  go_upto_region 5 with fail
  rw [← E5.out]
  clear E5 r1
  generalize w4.heap.size = Z at *
  have HT : Hid (∀ i : Nat, i < 2 → ∃ (X : Option Addr) (xn xc : Nat) (xvs : List V) (xl : List O), w5.cell? ⟨Z, i, none⟩ = some (.slice X xn xc) ∧ Offs w5 X xn xc xvs xl ∧ Small 6 xl) := Lib.hid (fun i hi => by
    rcases (show i = 0 ∨ i = 1 by omega) with rfl | rfl
    · exact ⟨B, m, d, vs, L, HX5.out.c 0 rfl, HOM5.out, (made_small HML.out).up (by omega)⟩
    · exact ⟨C, r, d2, us.take r, M.take r, HX5.out.c 1 rfl, HOD5.out, HSM.out.take r⟩)
  clear HX5 HOM5 HOD5 r2 r3 r4
  go_wp2_with fail
  go_loopw [34] (fun z wr => ∃ i : Nat, i ≤ 2 ∧ z = .int .i64 (i : Int) ∧ Hid (w5.grownBy wr none)) (fun z _ => 2 - (intOf z).toNat)
  case atStart => exact ⟨0, by omega, rfl, Lib.hid (grown_refl _)⟩
  case round =>
    obtain ⟨i, hi, rfl, HG⟩ := hrel
    by_cases hlt : i < 2
    · obtain ⟨X, xn, xc, xvs, xl, cx, hxo, hxs⟩ := HT.out i hlt
      have HXO := Lib.hid (fun W (g : w5.grownBy W none) => hxo.kept g)
      have HXS := Lib.hid hxs
      have HALL := Lib.hid (offs_all hxo)
      have HLX := Lib.hid hxo.len
      have HAN : Hid ((allN xl).length ≤ 366) := Lib.hid hxs.all
      have hxle := hxo.v.le
      have hxcap := hxo.v.cap
      have i1 : (0 : Int) ≤ (i : Int) := by omega
      have i2 : (i : Int) < 2 := by omega
      have i3 : decide ((i : Int) < 2) = true := decide_eq_true i2
      have i5 : IntKind.i64.wrap (i : Int) = (i : Int) := by rw [IntKind.wrap_i64]; omega
      have i6 : IntKind.i64.wrap ((i : Int) + 1) = (i : Int) + 1 := by rw [IntKind.wrap_i64]; omega
      replace cx := gcell HG.out cx
      clear hxo hxs
      go_wp2_with fail
      clear cx
      go_loopw [40] (fun z wr => ∃ k : Nat, k ≤ xn ∧ z = .int .i64 (k : Int) ∧ Hid (w5.grownBy wr none)) (fun z _ => xn - (intOf z).toNat)
      case atStart => exact ⟨0, Nat.zero_le _, rfl, HG⟩
      case round =>
        clear HG
        obtain ⟨k, hk, rfl, HG⟩ := hrel
        by_cases hl2 : k < xn
        · obtain ⟨ad, v, o, ho, _, rfl, _, hv, x0, x1, x2, x3, x4⟩ := (HXO.out _ HG.out).at k hl2
          obtain ⟨vc_, vr, vp, sA, sn, sc, nA, nn, nc⟩ := v
          have hcd := hv.code
          simp only at x0 x1 x2 x3 x4 hcd
          subst hcd
          have HOL := Lib.hid (List.mem_of_getElem? ho)
          have k1 : (0 : Int) ≤ (k : Int) := by omega
          have k2 : (k : Int) < (xn : Int) := by omega
          have k3 : decide ((k : Int) < (xn : Int)) = true := decide_eq_true k2
          have k5 : IntKind.i64.wrap (k : Int) = (k : Int) := by rw [IntKind.wrap_i64]; omega
          have k6 : IntKind.i64.wrap ((k : Int) + 1) = (k : Int) + 1 := by rw [IntKind.wrap_i64]; omega
          obtain ⟨w6, e6, HP6, g6⟩ := row_of wr 35 #[.string ⟨o.code.toArray⟩, .int .i64 vr, .int .i64 vp, .slice sA sn sc, .slice nA nn nc]
          have E6 := Lib.hid e6
          have G6 := Lib.hid (HG.out.trans g6)
          clear hv ho e6 g6
          go_upto_region 10 with fail
          rw [← E6.out]
          clear E6 x0 x1 x2 x3 x4
          generalize wr.heap.size = P6 at *
          have HP := Lib.hid HP6
          have c0 := HP6.c 0 rfl
          clear HP6
          go_wp2_with fail
          refine (needs_k (some ad) xn xc xvs xl o.code (by have := HAN.out; omega) HALL.out _ (HXO.out _ G6.out)).mono ?_
          rintro e w7 ⟨NB, ne, rfl, hns, g7⟩
          have HNS := Lib.hid hns
          have G7 := Lib.hid (G6.out.trans g7)
          have HP7 := Lib.hid (HP.out.kept g7)
          obtain ⟨nl, hnl⟩ : ∃ nl, nl = (needsV xl o.code).length := ⟨_, rfl⟩
          rw [← hnl] at HNS ⊢
          have HNL := Lib.hid hnl
          clear hns g7 c0 hnl HP
          have hnle := HNS.out.v.le
          have hncap := HNS.out.v.cap
          go_upto_region 11 with fail
          go_cut [61] (fun b wx => ∃ w9 : World, b = .bool false ∧ w7.grownBy w9 none ∧ w9 = wx)
          case first =>
            go_wp2_with fail
            refine (incS_r NB nl ne (needsV xl o.code) _ HNS.out).mono ?_
            rintro e w8 ⟨rfl, g8⟩
            rw [incS_inc (needs_is xl o.code).1]
            have G8 := Lib.hid g8
            clear g8
            go_wp2_with fail
            refine (check_k (some ad) xn xc xvs xl _ (HXO.out _ (G7.out.trans G8.out))).mono ?_
            rintro e w9 ⟨rfl, g9⟩
            have G9 := Lib.hid (G8.out.trans g9)
            clear g9
            by_cases hz : checkV xl = 0
            · have HNO : Hid (o.code ∉ needsV xl o.code) := Lib.hid (fun e => (right_of hz).ac o HOL.out ((needs_mem xl _ _).1 e))
              rw [hz]
              clear hz
              have c0 := (HP7.out.kept G9.out).c 0 rfl
              go_wp2_with fail
              refine (has_r NB nl ne (needsV xl o.code) o.code _ (HNS.out.kept G9.out)).mono ?_
              rintro e w10 ⟨rfl, rfl⟩
              rw [decide_eq_false HNO.out]
              go_wp2_with fail
              go_meet
              exact ⟨_, rfl, G9.out, rfl⟩
            · have hz2 : (checkV xl == 0) = false := by simpa using hz
              clear hz
              generalize checkV xl = e9 at *
              go_wp2_with fail
              go_meet
              exact ⟨_, rfl, G9.out, rfl⟩
          obtain ⟨w9, rfl, g9, rfl⟩ := hcut
          have HNS9 := Lib.hid (HNS.out.kept g9)
          have G9 := Lib.hid (G7.out.trans g9)
          have c0 := (HP7.out.kept g9).c 0 rfl
          clear g9 HNS HP7 G7
          go_wp2_with fail
          refine (findN_k (some ad) xn xc xvs xl o.code _ (HXO.out _ G9.out)).mono ?_
          rintro e w10 ⟨v10, b10, rfl, g10, hnd, hndl⟩
          clear c0
          obtain ⟨yc, yr, yp, yA, yn, yd, zA, zn, zd⟩ := v10
          simp only at hnd
          simp only [V.cells]
          obtain ⟨w11, e11, HP11, g11⟩ := row_of w10 35 #[.string ⟨yc.toArray⟩, .int .i64 yr, .int .i64 yp, .slice yA yn yd, .slice zA zn zd]
          have HND := Lib.hid (hnd.kept g11)
          have HNS11 := Lib.hid (HNS9.out.kept (g10.trans g11))
          have G11 := Lib.hid (G9.out.trans (g10.trans g11))
          have E11 := Lib.hid e11
          clear e11 g10 g11 hnd HNS9 G9 hndl
          have c4 := HP11.c 4 rfl
          clear HP11
          go_upto_region 14 with fail
          rw [← E11.out]
          clear E11
          generalize w10.heap.size = P11 at *
          have hzle := HND.out.v.le
          have hzcap := HND.out.v.cap
          go_wp2_with fail
          clear c4
          have HZN := Lib.hid HND.out.len
          go_loopw [15, 72] (fun y z wr => ∃ (i : Nat) (WA : Option Addr) (wn wc : Nat) (W : List Str), i ≤ zn ∧ y = .slice WA wn wc ∧ z = .int .i64 (i : Int) ∧ Hid (Strs wr WA wn wc W ∧ Want xl (nx xl o.code) i W) ∧ Hid (w11.grownBy wr none)) (fun _ z _ => zn - (intOf z).toNat)
          case atStart => exact ⟨0, none, 0, 0, [], Nat.zero_le _, rfl, rfl, Lib.hid ⟨Strs.nil_ _, want_nil _ _⟩, Lib.hid (grown_refl _)⟩
          case round =>
            obtain ⟨i7, WA, wn, wc, W, hi7, rfl, rfl, HW, HG7⟩ := hrel
            have hwle := HW.out.1.v.le
            have hwcap := HW.out.1.v.cap
            by_cases hl3 : i7 < zn
            · obtain ⟨bd, s, hsx, hsl, e8, _, cx⟩ := (HND.out.kept HG7.out).at i7 hl3
              subst e8
              have HSX := Lib.hid hsx
              have HSL := Lib.hid hsl
              have HSA := Lib.hid (nx_all (List.mem_of_getElem? hsx))
              have a1 : (0 : Int) ≤ (i7 : Int) := by omega
              have a2 : (i7 : Int) < (zn : Int) := by omega
              have a3 : decide ((i7 : Int) < (zn : Int)) = true := decide_eq_true a2
              have a5 : IntKind.i64.wrap (i7 : Int) = (i7 : Int) := by rw [IntKind.wrap_i64]; omega
              have a6 : IntKind.i64.wrap ((i7 : Int) + 1) = (i7 : Int) + 1 := by rw [IntKind.wrap_i64]; omega
              clear hsx hsl
              go_wp2_with fail
              refine (put_r WA wn wc W s HSL.out _ HW.out.1 HW.out.2.inc (by have := HW.out.2.small; have := HAN.out; have := HW.out.1.len; omega)).mono ?_
              rintro e w12 ⟨VA, vn, vd, W2, rfl, hw2, hi2, hm2, -, g12, -⟩
              clear cx
              have HV := Lib.hid hw2
              have HWN := Lib.hid (HW.out.2.put hi2 hm2)
              have HG12 := Lib.hid (HG7.out.trans g12)
              clear hw2 hi2 hm2 g12 hwle hwcap
              have hvle := HV.out.v.le
              have hvcap := HV.out.v.cap
              go_wp2_with fail
              refine (needs_k (some ad) xn xc xvs xl s (by have := HAN.out; omega) HALL.out _ (HXO.out _ (G11.out.trans HG12.out))).mono ?_
              rintro e w13 ⟨MB, me, rfl, hms, g13⟩
              have HMS := Lib.hid hms
              have HV13 := Lib.hid (HV.out.kept g13)
              have HG13 := Lib.hid (HG12.out.trans g13)
              obtain ⟨ml, hml2⟩ : ∃ ml, ml = (needsV xl s).length := ⟨_, rfl⟩
              rw [← hml2] at HMS ⊢
              have HML2 := Lib.hid hml2
              clear hms g13 hml2 HV HG12
              have hmle := HMS.out.v.le
              have hmcap := HMS.out.v.cap
              go_wp2_with fail
              generalize wr = wo at *
              go_loopw [15, 83] (fun y z wr => ∃ (j : Nat) (WA : Option Addr) (wn wc : Nat) (W : List Str), j ≤ ml ∧ y = .slice WA wn wc ∧ z = .int .i64 (j : Int) ∧ Hid (Strs wr WA wn wc W ∧ Wan2 xl (nx xl o.code) i7 s j W) ∧ Hid (w13.grownBy wr none)) (fun _ z _ => ml - (intOf z).toNat)
              case atStart => exact ⟨0, VA, vn, vd, W2, Nat.zero_le _, rfl, rfl, Lib.hid ⟨HV13.out, HWN.out⟩, Lib.hid (grown_refl _)⟩
              case round =>
                clear HV13 HWN
                obtain ⟨j7, UA, un, uc, U, hj7, rfl, rfl, HU, HG8⟩ := hrel
                have hule := HU.out.1.v.le
                have hucap := HU.out.1.v.cap
                by_cases hl4 : j7 < ml
                · obtain ⟨cd, t, htx, htl, e8, _, cx⟩ := (HMS.out.kept HG8.out).at j7 hl4
                  subst e8
                  have HTX := Lib.hid htx
                  have HTL := Lib.hid htl
                  have b1 : (0 : Int) ≤ (j7 : Int) := by omega
                  have b2 : (j7 : Int) < (ml : Int) := by omega
                  have b3 : decide ((j7 : Int) < (ml : Int)) = true := decide_eq_true b2
                  have b5 : IntKind.i64.wrap (j7 : Int) = (j7 : Int) := by rw [IntKind.wrap_i64]; omega
                  have b6 : IntKind.i64.wrap ((j7 : Int) + 1) = (j7 : Int) + 1 := by rw [IntKind.wrap_i64]; omega
                  clear htx htl
                  go_wp2_with fail
                  refine (put_r UA un uc U t HTL.out _ HU.out.1 HU.out.2.inc (by have := HU.out.2.small HSA.out; have := HAN.out; have := HU.out.1.len; omega)).mono ?_
                  rintro e w14 ⟨TA, tn, td, W4, rfl, hw4, hi4, hm4, -, g14, -⟩
                  clear cx
                  have HT4 := Lib.hid hw4
                  have HWN4 := Lib.hid (HU.out.2.put HTX.out hi4 hm4)
                  have HG14 := Lib.hid (HG8.out.trans g14)
                  clear hw4 hi4 hm4 g14
                  go_wp2_with fail
                  go_roundw
                  case rel => exact ⟨j7 + 1, TA, tn, td, W4, by omega, rfl, by go_num, Lib.hid ⟨HT4.out, HWN4.out⟩, HG14⟩
                  case measure => simp [intOf]; omega
                · obtain rfl : ml = j7 := by omega
                  have b3 : decide ((ml : Int) < (ml : Int)) = false := decide_eq_false (by omega)
                  have HWD := Lib.hid (HU.out.2.done HSX.out (by have := HML2.out; omega))
                  go_wp2_with fail
                  go_roundw
                  case rel => exact ⟨i7 + 1, UA, un, uc, U, by omega, rfl, by go_num, Lib.hid ⟨HU.out.1, HWD.out⟩, Lib.hid (HG13.out.trans HG8.out)⟩
                  case measure => simp [intOf]; omega
            · obtain rfl : zn = i7 := by omega
              have a3 : decide ((zn : Int) < (zn : Int)) = false := decide_eq_false (by omega)
              have HE := Lib.hid (HW.out.2.all (by have := HZN.out; omega))
              go_wp2_with fail
              refine (sameT_r NB nl ne (needsV xl o.code) WA wn wc W _ (HNS11.out.kept HG7.out) HW.out.1).mono ?_
              rintro e w15 ⟨rfl, g15⟩
              rw [decide_eq_true HE.out.symm]
              have G15 := Lib.hid (G11.out.trans (HG7.out.trans g15))
              clear g15
              go_wp2_with fail
              go_roundw
              case rel => exact ⟨k + 1, by omega, by go_num, G15⟩
              case measure => simp [intOf]; omega
        · obtain rfl : xn = k := by omega
          have k3 : decide ((xn : Int) < (xn : Int)) = false := decide_eq_false (by omega)
          go_wp2_with fail
          go_roundw
          case rel => exact ⟨i + 1, by omega, by go_num, HG⟩
          case measure => simp [intOf]; omega
    · obtain rfl : i = 2 := by omega
      have k3 : decide (((2 : Nat) : Int) < 2) = false := by simp
      go_wp2_with fail
      go_ret
      exact ⟨rfl, G5.out.trans HG.out⟩
end Go.Proofs.Ytnkemoicgadefaa
