/-
  The reference's Decode.
-/
import Derived.Test.YtnkemoicgadefaaGreatDoorCdd
import Derived.Test.YtnkemoicgadefaaGreatDoorWB
namespace Go.Proofs.YtnkemoicgadefaaGreatDoor
open Go.RowKit
attribute [local go_sem] get_mk extract_mk
theorem int_zero {s : Str} (h : Wire.restOf Wire.intP (some s) = none) : Wire.valOf Wire.intP (some s) = 0 := by
  rcases val_cases Wire.intP (some s) with ⟨h1, _⟩ | ⟨_, t, v, _, _, _, h1⟩
  · rw [h1]
    rfl
  · rw [h1] at h
    cases h
set_option maxRecDepth 100000 in
set_option maxHeartbeats 8000000 in
theorem decode_r (s : Str) (hs : s.length ≤ 2000) (w : World) :
    Calls Tryz.prog 12 #[.string ⟨s.toArray⟩] w fun e w' => w.grownBy w' none ∧ DecOut (decV s) e w' := by
  have HV := Lib.hid (decV_eq s)
  have HS := Lib.hid hs
  have HS6 : Hid (s.length ≤ 1000000) := Lib.hid (by omega)
  have k0 : decide ((s.length : Int) > 262144) = false := by simp; omega
  clear hs
  go_enter Tryz.func12, Tryz.ntmps12
  go_wp2_with (first
    | (go_at_call 40; refine (Wire.rNew s _).mono ?_; rintro e w1 ⟨rfl, R1, g1, z1⟩; replace R1 := Lib.hid R1; replace g1 := Lib.hid g1)
    | (go_at_call 41; refine (Wire.rint_k _ _ s HS6.out _ R1.out).mono ?_; rintro e w2 ⟨rfl, R2, g2⟩; replace R2 := Lib.hid R2; replace g2 := Lib.hid g2))
  have L0 : Hid (Lim 2000 (Wire.restOf Wire.intP (some s))) := Lib.hid (lim_rest (fun l e => by injection e with e; subst e; exact HS.out) int_le)
  have HZ : Hid (Wire.restOf Wire.intP (some s) = none → Wire.valOf Wire.intP (some s) = 0) := Lib.hid int_zero
  have hn := int_val (some s)
  generalize Wire.valOf Wire.intP (some s) = n at *
  generalize Wire.restOf Wire.intP (some s) = st0 at *
  have G2 : Hid (w.grownBy w2 none) := Lib.hid (g1.out.andThen g2.out (fun j hj => .inl (by injection hj with hj; omega)))
  have Z2 := Lib.hid (show w.heap.size + 1 ≤ w2.heap.size from Nat.lt_of_lt_of_le z1 g2.out.size)
  clear g1 g2 R1 z1 k0
  go_loopw [6, 7] (fun y z wr => ∃ (L : List O) (vs : List V) (st : Option Str), z = .int .i64 (L.length : Int) ∧ Hid (OutIs wr (w.heap.size + 1) y vs L) ∧ Hid (Wire.Rr wr w.heap.size s st) ∧ Hid (Mid n.toNat st0 L st) ∧ Hid (st = none → n = 0) ∧ Hid (w.grownBy wr none)) (fun _ z _ => n.toNat - (intOf z).toNat)
  case atStart => exact ⟨[], [], st0, rfl, Lib.hid (out_nil _ _), R2, Lib.hid (mid_start L0.out), HZ, G2⟩
  case round =>
    obtain ⟨L, vs, st, rfl, HO, HR, HM, HZ0, HG⟩ := hrel
    generalize u6 = y at *
    have hz : w.heap.size + 1 ≤ wr.heap.size := HR.out.lt
    have hfew := HM.out.few.1
    by_cases hlt : (L.length : Int) < n
    · have k3 : decide ((L.length : Int) < n) = true := decide_eq_true hlt
      obtain ⟨q, rfl⟩ : ∃ q, st = some q := by
        cases st with
        | none => have := HZ0.out rfl; omega
        | some q => exact ⟨q, rfl⟩
      have HN := Lib.hid (HM.out.next (by simp) (by omega))
      have LM0 := HM.out.lim
      have LM3 := Lib.hid (lim3 LM0)
      have LM4 := Lib.hid (lim4 LM0)
      have LMt := Lib.hid (text_val LM0)
      clear LM0
      obtain ⟨wd0, e0, HP0, gA⟩ := row_of wr 41 #[.string ⟨#[]⟩, .int .i64 0, .int .i64 0, .slice none 0 0, .slice none 0 0]
      have E0 := Lib.hid e0
      have GA := Lib.hid gA
      have GW0 := Lib.hid (Wire.grown_any gA (some w.heap.size))
      have HR0 : Hid (Wire.Rr wd0 w.heap.size s (some q)) := Lib.hid (HR.out.grown gA (by simp))
      clear e0 gA
      go_upto_region 10 with fail
      rw [← E0.out]
      clear E0
      obtain ⟨P, hP⟩ : ∃ P, P = wr.heap.size := ⟨_, rfl⟩
      have HPE : Hid (wr.heap.size = P) := Lib.hid hP.symm
      rw [← hP] at HP0 ⊢
      have HBL : Hid (w.heap.size < P) := Lib.hid (by omega)
      have HPB : Hid (some P ≠ some w.heap.size) := Lib.hid (by rintro ⟨⟩; omega)
      have HBP : Hid (some w.heap.size ≠ some P) := Lib.hid (by rintro ⟨⟩; omega)
      clear hP
      replace HP0 := Lib.hid HP0
      go_upto_region 11 with (go_at_call 42; refine (Wire.rtext_k _ _ s HS6.out _ HR0.out).mono ?_; rintro e v0 ⟨rfl, R0, g0⟩; have HQ0 := Lib.hid (HP0.out.keptR g0 HPB.out); have c := HQ0.out.c 0 rfl; have f := HQ0.out.fz 0; have z := HQ0.out.lt; replace R0 := Lib.hid R0; replace g0 := Lib.hid g0)
      clear c f z
      have gs := grown_setCell v0 P 0 (.string ⟨(Wire.valOf Wire.textP (some q)).toArray⟩)
      have HP1 := Lib.hid (HQ0.out.set 0 (.string ⟨(Wire.valOf Wire.textP (some q)).toArray⟩))
      have HR1 : Hid (Wire.Rr (v0.setCell ⟨P, 0, none⟩ (.string ⟨(Wire.valOf Wire.textP (some q)).toArray⟩)) w.heap.size s (rd1 (some q))) := Lib.hid (R0.out.grown gs HBP.out)
      have GW1 := Lib.hid ((GW0.out.andThen g0.out (by rintro j ⟨⟩; exact .inr rfl)).andThen gs (by rintro j ⟨⟩; exact .inl (Nat.le_of_eq HPE.out)))
      clear gs
      generalize v0.setCell ⟨P, 0, none⟩ (.string ⟨(Wire.valOf Wire.textP (some q)).toArray⟩) = wd1 at *
      go_upto_region 12 with (go_at_call 41; refine (Wire.rint_k _ _ s HS6.out _ HR1.out).mono ?_; rintro e v1 ⟨rfl, R1, g1⟩; have HQ1 := Lib.hid (HP1.out.keptR g1 HPB.out); have c := HQ1.out.c 1 rfl; have f := HQ1.out.fz 1; have z := HQ1.out.lt; replace R1 := Lib.hid R1; replace g1 := Lib.hid g1)
      clear c f z
      have gs := grown_setCell v1 P 1 (.int .i64 (Wire.valOf Wire.intP (rd1 (some q))))
      have HP2 := Lib.hid (HQ1.out.set 1 (.int .i64 (Wire.valOf Wire.intP (rd1 (some q)))))
      have HR2 : Hid (Wire.Rr (v1.setCell ⟨P, 1, none⟩ (.int .i64 (Wire.valOf Wire.intP (rd1 (some q))))) w.heap.size s (rd2 (some q))) := Lib.hid (R1.out.grown gs HBP.out)
      have GW2 := Lib.hid ((GW1.out.andThen g1.out (by rintro j ⟨⟩; exact .inr rfl)).andThen gs (by rintro j ⟨⟩; exact .inl (Nat.le_of_eq HPE.out)))
      clear gs
      generalize v1.setCell ⟨P, 1, none⟩ (.int .i64 (Wire.valOf Wire.intP (rd1 (some q)))) = wd2 at *
      go_upto_region 13 with (go_at_call 41; refine (Wire.rint_k _ _ s HS6.out _ HR2.out).mono ?_; rintro e v2 ⟨rfl, R2, g2⟩; have HQ2 := Lib.hid (HP2.out.keptR g2 HPB.out); have c := HQ2.out.c 2 rfl; have f := HQ2.out.fz 2; have z := HQ2.out.lt; replace R2 := Lib.hid R2; replace g2 := Lib.hid g2)
      clear c f z
      have gs := grown_setCell v2 P 2 (.int .i64 (Wire.valOf Wire.intP (rd2 (some q))))
      have HP3 := Lib.hid (HQ2.out.set 2 (.int .i64 (Wire.valOf Wire.intP (rd2 (some q)))))
      have HR3 : Hid (Wire.Rr (v2.setCell ⟨P, 2, none⟩ (.int .i64 (Wire.valOf Wire.intP (rd2 (some q))))) w.heap.size s (rd3 (some q))) := Lib.hid (R2.out.grown gs HBP.out)
      have GW3 := Lib.hid ((GW2.out.andThen g2.out (by rintro j ⟨⟩; exact .inr rfl)).andThen gs (by rintro j ⟨⟩; exact .inl (Nat.le_of_eq HPE.out)))
      clear gs
      generalize v2.setCell ⟨P, 2, none⟩ (.int .i64 (Wire.valOf Wire.intP (rd2 (some q)))) = wd3 at *
      go_upto_region 14 with (go_at_call 43; refine (Wire.rints_k _ _ s HS6.out _ HR3.out).mono ?_; rintro e v3 ⟨vi, rfl, OI, R3, g3⟩; obtain ⟨uA, ud, rfl, _, _⟩ := OwnI.ints (OI : OwnI _ _ _ _) (ints_val LM3.out).2; replace OI := Lib.hid OI; have HQ3 := Lib.hid (HP3.out.keptR g3 HPB.out); have c := HQ3.out.c 3 rfl; have f := HQ3.out.fz 3; have z := HQ3.out.lt; replace R3 := Lib.hid R3; replace g3 := Lib.hid g3)
      clear c f z
      have gs := grown_setCell v3 P 3 (.slice uA (Wire.valOf (Wire.listP Wire.intP) (rd3 (some q))).length ud)
      have HP4 := Lib.hid (HQ3.out.set 3 (.slice uA (Wire.valOf (Wire.listP Wire.intP) (rd3 (some q))).length ud))
      have HR4 : Hid (Wire.Rr (v3.setCell ⟨P, 3, none⟩ (.slice uA (Wire.valOf (Wire.listP Wire.intP) (rd3 (some q))).length ud)) w.heap.size s (rd4 (some q))) := Lib.hid (R3.out.grown gs HBP.out)
      have GW4 := Lib.hid ((GW3.out.andThen g3.out (by rintro j ⟨⟩; exact .inr rfl)).andThen gs (by rintro j ⟨⟩; exact .inl (Nat.le_of_eq HPE.out)))
      have OI4 : Hid (OwnI (v3.setCell ⟨P, 3, none⟩ (.slice uA (Wire.valOf (Wire.listP Wire.intP) (rd3 (some q))).length ud)) (P + 1) (.slice uA (Wire.valOf (Wire.listP Wire.intP) (rd3 (some q))).length ud) (Wire.valOf (Wire.listP Wire.intP) (rd3 (some q)))) := Lib.hid (own_keep (own_base OI.out HP3.out.lt) gs (by rintro j ⟨⟩; omega))
      clear gs
      generalize v3.setCell ⟨P, 3, none⟩ (.slice uA (Wire.valOf (Wire.listP Wire.intP) (rd3 (some q))).length ud) = wd4 at *
      go_upto_region 15 with (go_at_call 44; refine (Wire.rtexts_k _ _ s HS6.out _ HR4.out).mono ?_; rintro e v4 ⟨vi, rfl, OS, R4, g4⟩; obtain ⟨xA, xd, rfl, _, _⟩ := OwnS.strs (OS : OwnS _ _ _ _) (fun x hx => Nat.le_trans ((texts_val LM4.out).2 x hx) (by omega)); replace OS := Lib.hid OS; have HQ4 := Lib.hid (HP4.out.keptR g4 HPB.out); have c := HQ4.out.c 4 rfl; have f := HQ4.out.fz 4; have z := HQ4.out.lt; replace R4 := Lib.hid R4; replace g4 := Lib.hid g4)
      clear c f z
      have gs := grown_setCell v4 P 4 (.slice xA (Wire.valOf (Wire.listP Wire.textP) (rd4 (some q))).length xd)
      have HP5 := Lib.hid (HQ4.out.set 4 (.slice xA (Wire.valOf (Wire.listP Wire.textP) (rd4 (some q))).length xd))
      have HR5 : Hid (Wire.Rr (v4.setCell ⟨P, 4, none⟩ (.slice xA (Wire.valOf (Wire.listP Wire.textP) (rd4 (some q))).length xd)) w.heap.size s (offR (some q))) := Lib.hid (R4.out.grown gs HBP.out)
      have GW5 := Lib.hid ((GW4.out.andThen g4.out (by rintro j ⟨⟩; exact .inr rfl)).andThen gs (by rintro j ⟨⟩; exact .inl (Nat.le_of_eq HPE.out)))
      have OI5 : Hid (OwnI (v4.setCell ⟨P, 4, none⟩ (.slice xA (Wire.valOf (Wire.listP Wire.textP) (rd4 (some q))).length xd)) (P + 1) (.slice uA (Wire.valOf (Wire.listP Wire.intP) (rd3 (some q))).length ud) (Wire.valOf (Wire.listP Wire.intP) (rd3 (some q)))) := Lib.hid (own_keep (own_keep OI4.out g4.out (by rintro j ⟨⟩; have := HBL.out; omega)) gs (by rintro j ⟨⟩; omega))
      have OS5 : Hid (OwnS (v4.setCell ⟨P, 4, none⟩ (.slice xA (Wire.valOf (Wire.listP Wire.textP) (rd4 (some q))).length xd)) (P + 1) (.slice xA (Wire.valOf (Wire.listP Wire.textP) (rd4 (some q))).length xd) (Wire.valOf (Wire.listP Wire.textP) (rd4 (some q)))) := Lib.hid (own_keep (own_base OS.out HP4.out.lt) gs (by rintro j ⟨⟩; omega))
      clear gs
      generalize v4.setCell ⟨P, 4, none⟩ (.slice xA (Wire.valOf (Wire.listP Wire.textP) (rd4 (some q))).length xd) = wd5 at *
      clear HR0 HR1 HR2 HR3 HR4 HP0 HP1 HP2 HP3 HP4 GW0 GW1 GW2 GW3 GW4 R0 R1 R2 R3 R4 g0 g1 g2 g3 g4 HQ0 HQ1 HQ2 HQ3 HQ4 OI OS OI4
      have HPF : Hid (Row wd5 P 41 #[.string ⟨(Wire.valOf Wire.textP (some q)).toArray⟩, .int .i64 (Wire.valOf Wire.intP (rd1 (some q))), .int .i64 (Wire.valOf Wire.intP (rd2 (some q))), .slice uA (Wire.valOf (Wire.listP Wire.intP) (rd3 (some q))).length ud, .slice xA (Wire.valOf (Wire.listP Wire.textP) (rd4 (some q))).length xd]) := HP5
      have HQ := Lib.hid (Wire.rBad _ _ s _ HR5.out)
      have HGF := Lib.hid (HG.out.andThen GW5.out (by rintro j ⟨⟩; exact .inl (Nat.le_refl _)))
      cases hR : offR (some q) with
      | none =>
        rw [hR] at HN HQ
        have HD := Lib.hid HN.out.bad
        have HE : Hid (decV s = none) := Lib.hid (by rw [HV.out, HD.out]; simp)
        clear hn
        go_wp2_with (go_at_call 45; refine HQ.out.mono ?_; rintro e w4 ⟨rfl, rfl⟩)
        go_ret2
        rw [HE.out]
        exact ⟨HGF.out, rfl⟩
      | some t =>
        rw [hR] at HN HQ HR5
        obtain ⟨A', c', e', I1, _⟩ := OwnI.ints OI5.out (ints_val LM3.out).2
        injection e' with ea _ ec
        subst ea ec
        obtain ⟨A', c', e', I2, _⟩ := OwnS.strs OS5.out (fun x hx => Nat.le_trans ((texts_val LM4.out).2 x hx) (by omega))
        injection e' with ea _ ec
        subst ea ec
        obtain ⟨u, hu⟩ : ∃ u : V, u = ⟨Wire.valOf Wire.textP (some q), Wire.valOf Wire.intP (rd1 (some q)), Wire.valOf Wire.intP (rd2 (some q)), uA, (Wire.valOf (Wire.listP Wire.intP) (rd3 (some q))).length, ud, xA, (Wire.valOf (Wire.listP Wire.textP) (rd4 (some q))).length, xd⟩ := ⟨_, rfl⟩
        have HVI : Hid (VIs wd5 u (offV (some q))) := Lib.hid (by
          subst hu
          have a1 := (ints_val LM3.out).1
          have a2 := (texts_val LM4.out).1
          exact ⟨rfl, rfl, rfl, ⟨Nat.le_trans LMt.out (by omega), int_val _, int_val _⟩, I1, I2, ⟨by show (Wire.valOf (Wire.listP Wire.intP) (rd3 (some q))).length ≤ _; omega, by show (Wire.valOf (Wire.listP Wire.textP) (rd4 (some q))).length ≤ _; omega⟩⟩)
        have ga := World.grownBy_alloc wd5 (.cells #[.string ⟨(Wire.valOf Wire.textP (some q)).toArray⟩, .int .i64 (Wire.valOf Wire.intP (rd1 (some q))), .int .i64 (Wire.valOf Wire.intP (rd2 (some q))), .slice uA (Wire.valOf (Wire.listP Wire.intP) (rd3 (some q))).length ud, .slice xA (Wire.valOf (Wire.listP Wire.textP) (rd4 (some q))).length xd] 41) none
        have HVA := Lib.hid (HVI.out.kept ga)
        have HOA : Hid (OwnI (wd5.alloc (.cells #[.string ⟨(Wire.valOf Wire.textP (some q)).toArray⟩, .int .i64 (Wire.valOf Wire.intP (rd1 (some q))), .int .i64 (Wire.valOf Wire.intP (rd2 (some q))), .slice uA (Wire.valOf (Wire.listP Wire.intP) (rd3 (some q))).length ud, .slice xA (Wire.valOf (Wire.listP Wire.textP) (rd4 (some q))).length xd] 41)) (P + 1) (.slice u.sA u.sn u.sc) (offV (some q)).slots) := Lib.hid (by subst hu; exact own_keep OI5.out ga (fun _ e => by cases e))
        have HNA : Hid (OwnS (wd5.alloc (.cells #[.string ⟨(Wire.valOf Wire.textP (some q)).toArray⟩, .int .i64 (Wire.valOf Wire.intP (rd1 (some q))), .int .i64 (Wire.valOf Wire.intP (rd2 (some q))), .slice uA (Wire.valOf (Wire.listP Wire.intP) (rd3 (some q))).length ud, .slice xA (Wire.valOf (Wire.listP Wire.textP) (rd4 (some q))).length xd] 41)) (P + 1) (.slice u.nA u.nn u.nc) (offV (some q)).needs) := Lib.hid (by subst hu; exact own_keep OS5.out ga (fun _ e => by cases e))
        have HOW := Lib.hid ((HO.out.kept GW5.out (by rintro j ⟨⟩; omega)).kept ga (fun _ e => by cases e))
        have HVL : Hid (Vals (wd5.alloc (.cells #[.string ⟨(Wire.valOf Wire.textP (some q)).toArray⟩, .int .i64 (Wire.valOf Wire.intP (rd1 (some q))), .int .i64 (Wire.valOf Wire.intP (rd2 (some q))), .slice uA (Wire.valOf (Wire.listP Wire.intP) (rd3 (some q))).length ud, .slice xA (Wire.valOf (Wire.listP Wire.textP) (rd4 (some q))).length xd] 41)) (some ⟨wd5.heap.size, 0, none⟩) 1 1 5 u.cells.toList) := Lib.hid (by subst hu; exact new_vals5 wd5 ⟨_, _, _, _, _, _, _, _, _⟩)
        have HGa := Lib.hid (HGF.out.trans ga)
        have HRA := Lib.hid (HR5.out.grown ga (by simp))
        have HLT := Lib.hid (fun j (e : y.ownBlock = some j) => World.ownsRow.lt HO.out.own j e)
        have HLB := Lib.hid (show L.length + 1 ≤ 1000000 ∧ w.heap.size + 1 ≤ (wd5.alloc (.cells #[.string ⟨(Wire.valOf Wire.textP (some q)).toArray⟩, .int .i64 (Wire.valOf Wire.intP (rd1 (some q))), .int .i64 (Wire.valOf Wire.intP (rd2 (some q))), .slice uA (Wire.valOf (Wire.listP Wire.intP) (rd3 (some q))).length ud, .slice xA (Wire.valOf (Wire.listP Wire.textP) (rd4 (some q))).length xd] 41)).heap.size from ⟨by omega, by have := ga.size; have := GW5.out.size; omega⟩)
        have c0 := HPF.out.c 0 rfl
        have c1 := HPF.out.c 1 rfl
        have c2 := HPF.out.c 2 rfl
        have c3 := HPF.out.c 3 rfl
        have c4 := HPF.out.c 4 rfl
        clear ga I1 I2 HVI hu hn
        go_wp2_with (first
          | (go_at_call 45; refine HQ.out.mono ?_; rintro e w4 ⟨rfl, rfl⟩)
          | (at_builtin
             refine wpList_append_vals elt35 rfl (.tmp 41) (.tmp 43) rfl (w.heap.size + 1) y L.length (vc vs) rfl HOW.out.own _ 1 1 _ rfl HVL.out HLB.out.1 HLB.out.2 ?_
             intro y2 w8 hown hg hb hv
             have HOX := Lib.hid (HOW.out.snoc hown hg hb HVA.out HOA.out HNA.out (by have := HBL.out; omega) (fun j e => by have := (HLT.out j e).2; have := HPE.out; omega))
             have HRX := Lib.hid (HRA.out.grown hg (fun e => by have := (HLT.out _ e.symm).1; omega))
             have HGX := Lib.hid (HGa.out.andThen hg (fun r e => .inl (by have := (HLT.out r e).1; omega)))
             clear hown hg hb hv))
        exact ⟨⟨L ++ [offV (some q)], _, some t, by simp only [List.length_append, List.length_cons, List.length_nil]; go_num, HOX, HRX, HN, Lib.hid (by simp), HGX⟩, by simp [intOf]; omega⟩
    · have k3 : decide ((L.length : Int) < n) = false := decide_eq_false hlt
      have hN : ¬ L.length < n.toNat := by omega
      obtain ⟨A, c, e, HF, _⟩ := HO.out.offs
      subst e
      have HFF := Lib.hid HF
      clear HF
      have HQ := Lib.hid (Wire.rBad _ _ s _ HR.out)
      cases st with
      | none =>
        have HD := Lib.hid HM.out.bad
        have HE : Hid (decV s = none) := Lib.hid (by rw [HV.out, HD.out]; simp)
        go_wp2_with (go_at_call 45; refine HQ.out.mono ?_; rintro e w4 ⟨rfl, rfl⟩)
        go_ret2
        rw [HE.out]
        exact ⟨HG.out, rfl⟩
      | some q =>
        have HD := Lib.hid (HM.out.done hN)
        have HL : Hid (Calls Tryz.prog 46 #[.pointer (some ⟨w.heap.size, 0, none⟩)] wr fun e w' => e = .returned (.int .i64 (q.length : Int)) ∧ wr.grownBy w' none) := Lib.hid (Wire.rLeft wr _ s HS6.out (some q) HR.out)
        cases q with
        | nil =>
          have k6 : decide ((([] : Str).length : Int) > 0) = false := by simp
          by_cases hn0 : n < 0
          · have k5 : decide (n < 0) = true := decide_eq_true hn0
            have HE : Hid (decV s = none) := Lib.hid (by rw [HV.out, if_pos hn0])
            go_wp2_with (first
              | (go_at_call 45; refine HQ.out.mono ?_; rintro e w4 ⟨rfl, rfl⟩)
              | (go_at_call 46; refine HL.out.mono ?_; rintro e w5 ⟨rfl, g5⟩))
            go_ret2
            rw [HE.out]
            exact ⟨HG.out.trans g5, rfl⟩
          · have k5 : decide (n < 0) = false := decide_eq_false hn0
            have HE : Hid (decV s = some L) := Lib.hid (by rw [HV.out, if_neg hn0, HD.out])
            go_wp2_with (first
              | (go_at_call 45; refine HQ.out.mono ?_; rintro e w4 ⟨rfl, rfl⟩)
              | (go_at_call 46; refine HL.out.mono ?_; rintro e w5 ⟨rfl, g5⟩))
            go_ret2
            rw [HE.out]
            exact ⟨HG.out.trans g5, A, c, vs, rfl, HFF.out.kept g5⟩
        | cons x q =>
          have HE : Hid (decV s = none) := Lib.hid (by
            rw [HV.out, HD.out]
            by_cases hn0 : n < 0
            · rw [if_pos hn0]
            · rw [if_neg hn0])
          have k6 : decide (((x :: q).length : Int) > 0) = true := decide_eq_true (by simp only [List.length_cons]; omega)
          have k7 : decide (0 < (x :: q).length) = true := decide_eq_true (by simp only [List.length_cons]; omega)
          have k8 : 0 < (x :: q).length := by simp only [List.length_cons]; omega
          generalize x :: q = xq at *
          go_wp2_with (first
            | (go_at_call 45; refine HQ.out.mono ?_; rintro e w4 ⟨rfl, rfl⟩)
            | (go_at_call 46; refine HL.out.mono ?_; rintro e w5 ⟨rfl, g5⟩))
          go_ret2
          rw [HE.out]
          exact ⟨HG.out.trans g5, rfl⟩
end Go.Proofs.YtnkemoicgadefaaGreatDoor
