/-
  course.Order.
-/
import Derived.Test.YtnkemoicgadefaaGreatDoorNds
import Derived.BigQuiet
import Derived.Deep.RegionHeld3
namespace Go.Proofs.YtnkemoicgadefaaGreatDoor
open Go.RowKit
attribute [local go_sem] get_mk extract_mk
/-- may be taken next -/
def nextB (S : List Str) (o : O) : Bool := !decide (o.code ∈ S) && o.needs.all fun n => decide (n ∈ S)
theorem pick_eq {l : List O} {S D : List Str} (h : ∀ s, s ∈ S ↔ s ∈ D) : pickV l D = l.find? (nextB S) := by
  unfold pickV
  congr 1
  funext o
  unfold nextB
  rw [all_iff h]
  have : decide (o.code ∈ D) = decide (o.code ∈ S) := by rw [Bool.eq_iff_iff]; simp [h]
  rw [this]
set_option maxRecDepth 100000 in
set_option maxHeartbeats 1000000 in
theorem isNext_k (P bd : Nat) (S : List Str) (v : V) (o : O) (w : World) (hP : w.cell? ⟨P, 0, none⟩ = some (.map (some bd))) (hS : SetD encS w bd S) (hv : VIs w v o) :
    Calls Tryz.prog 54 #[.agg v.cells, .pointer (some ⟨P, 0, none⟩)] w fun e w' => e = .returned (.bool (nextB S o)) ∧ w.grownBy w' none := by
  obtain ⟨vc, vr, vp, sA, sn, sc, nA, nn, nc⟩ := v
  have hcd := hv.code
  have hnd := hv.needs
  simp only at hcd hnd
  subst hcd
  obtain ⟨w1, e1, HB, g1⟩ := row_of w 41 #[.string ⟨o.code.toArray⟩, .int .i64 vr, .int .i64 vp, .slice sA sn sc, .slice nA nn nc]
  have E1 := Lib.hid e1
  replace hP := gcell g1 hP
  have AL := Lib.hid (allIn_k nA nn nc o.needs bd S w1 (hnd.kept g1) (Dict.kept hS g1))
  have L1 := fun v hv => lookS (w := w1) (Dict.kept hS g1) o.code v hv
  clear e1 hv hnd hS
  simp only [V.cells]
  go_enter Tryz.func54, Tryz.ntmps54
  go_upto_region 1 with fail
  rw [← E1.out]
  clear E1
  generalize w.heap.size = B at *
  have b0 := HB.c 0 rfl
  have b4 := HB.c 4 rfl
  clear HB
  by_cases hm : o.code ∈ S
  · have l1 := L1 true (by simpa using hm)
    have HE : Hid (nextB S o = false) := Lib.hid (by unfold nextB; rw [decide_eq_true hm]; rfl)
    clear L1 hm AL
    go_wp2_with fail
    go_ret
    exact ⟨by rw [HE.out]; rfl, g1⟩
  · have l1 := L1 false (by simpa using hm)
    have HE : Hid (nextB S o = o.needs.all fun n => decide (n ∈ S)) := Lib.hid (by unfold nextB; rw [decide_eq_false hm]; rfl)
    clear L1 hm
    go_wp2_with fail
    refine AL.out.mono ?_
    rintro e w2 ⟨rfl, g⟩
    have G := Lib.hid (g1.trans g)
    generalize (o.needs.all fun n => decide (n ∈ S)) = bb at *
    clear AL g g1 l1 b0 b4
    go_wp2_with fail
    go_ret
    exact ⟨by rw [HE.out]; rfl, G.out⟩
theorem find_at {l : List O} {p : O → Bool} {k : Nat} {o : O} (h : l[k]? = some o) (hn : (l.take k).find? p = none) (hp : p o = true) : l.find? p = some o := by
  obtain ⟨hk, hx⟩ := List.getElem?_eq_some_iff.1 h
  have e : l = l.take k ++ o :: l.drop (k + 1) := by rw [← hx, ← List.drop_eq_getElem_cons hk, List.take_append_drop]
  rw [e, List.find?_append, hn, List.find?_cons]
  simp [hp]
theorem find_snoc {l : List O} {p : O → Bool} {k : Nat} {o : O} (h : l[k]? = some o) (hn : (l.take k).find? p = none) (hp : p o = false) : (l.take (k + 1)).find? p = none := by
  rw [take_snoc h, List.find?_append, hn]
  simp [hp]
/-- which offer comes next -/
theorem pickI_k (P bd : Nat) (S : List Str) (A : Option Addr) (n c : Nat) (vs : List V) (l : List O) (w : World) (hP : w.cell? ⟨P, 0, none⟩ = some (.map (some bd))) (hS : SetD encS w bd S) (h : Offs w A n c vs l) (hx : ∃ o, l.find? (nextB S) = some o) :
    Calls Tryz.prog 53 #[.slice A n c, .func (.func 54) #[] #[.pointer (some ⟨P, 0, none⟩)]] w fun e w' => ∃ (k : Nat) (o : O), k < n ∧ e = .returned (.int .i64 k) ∧ l[k]? = some o ∧ l.find? (nextB S) = some o ∧ w.grownBy w' none := by
  refine (idxO45 (.pointer (some ⟨P, 0, none⟩)) A n c vs l (fun k W => w.grownBy W none ∧ (l.take k).find? (nextB S) = none) (fun k W => w.grownBy W none ∧ ∃ o, l[k]? = some o ∧ l.find? (nextB S) = some o) w ⟨grown_refl _, rfl⟩ (fun k W hW => h.kept hW.1) (fun k v x W hv hx hW => ?_)).mono ?_
  · refine (isNext_k P bd S v x W (gcell hW.1 hP) (Dict.kept hS hW.1) ((h.is k v x hv hx).kept hW.1)).mono ?_
    rintro e W' ⟨rfl, g⟩
    exact ⟨_, rfl, fun hb => ⟨hW.1.trans g, find_snoc hx hW.2 hb⟩, fun hb => ⟨hW.1.trans g, x, hx, find_at hx hW.2 hb⟩⟩
  · rintro e W' (⟨rfl, g, ha⟩ | ⟨k, hk, rfl, g, o, ho, hf⟩)
    · obtain ⟨o, ho⟩ := hx
      rw [h.len, List.take_length, ho] at ha
      cases ha
    · exact ⟨k, o, hk, rfl, ho, hf, g⟩
set_option maxRecDepth 100000 in
set_option maxHeartbeats 1000000 in
theorem order_k (A : Option Addr) (n c : Nat) (vs : List V) (l : List O) (w : World) (h : Offs w A n c vs l) :
    Calls Tryz.prog 17 #[.slice A n c] w fun e w' => ∃ B d, e = .returned (.slice B (orderV l).length d) ∧ Strs w' B (orderV l).length d (orderV l) ∧ w.grownBy w' none := by
  have HO := Lib.hid (fun W (g : w.grownBy W none) => h.kept g)
  have HL := Lib.hid h.len
  have CK := Lib.hid (check_k A n c vs l w h)
  have hle := h.v.le
  have hcap := h.v.cap
  have HW := Lib.hid (Nat.le_refl w.heap.size)
  clear h
  go_enter Tryz.func17, Tryz.ntmps17
  go_wp2_with fail
  refine CK.out.mono ?_
  rintro e w1 ⟨rfl, g⟩
  have G1 := Lib.hid g
  clear g CK
  by_cases hz : checkV l = 0
  · have HR := Lib.hid (right_of hz)
    have HE : Hid (orderV l = ordN l n []) := Lib.hid (by unfold orderV; rw [if_pos hz, HL.out])
    rw [hz]
    clear hz
    obtain ⟨w2, e2, HC2, g2⟩ := setd_of w1
    obtain ⟨w3, e3, HP, g3⟩ := row_of w2 78 #[.map (some w1.heap.size)]
    have s2 : w2.heap.size = w1.heap.size + 1 := by rw [e2]; simp
    rw [s2] at HP
    have E2 := Lib.hid e2
    have E3 := Lib.hid e3
    clear e2 e3
    have hmm := @run_makeMap Tryz.prog
    go_upto_region 4 with fail
    go_upto_region 5 with fail
    rw [← E2.out, ← E3.out]
    clear E2 E3 s2 hmm
    have HS := Lib.hid (Dict.kept HC2 g3)
    have HB1 := Lib.hid (Nat.le_trans G1.out.size (Nat.le_refl w1.heap.size))
    have HBP : Hid (w.heap.size ≤ w1.heap.size + 1) := Lib.hid (by have := HB1.out; omega)
    have G3 := Lib.hid ((G1.out.trans g2).trans g3)
    have HPP := Lib.hid HP
    clear HC2 g2 g3 HP
    generalize w1.heap.size + 1 = P at *
    generalize w1.heap.size = bd at *
    go_wp2_with fail
    go_loopw [3, 12] (fun v i wr => ∃ (k : Nat) (D S : List Str), k ≤ n ∧ i = .int .i64 (k : Int) ∧ Hid (OwnS wr (P + 1) v D ∧ SetD encS wr bd S ∧ (∀ s, s ∈ S ↔ s ∈ D) ∧ D.length = k ∧ orderV l = ordN l (n - k) D ∧ ∀ s ∈ D, s.length ≤ 8) ∧ Hid (Row wr P 78 #[.map (some bd)]) ∧ Hid (w.grownBy wr none)) (fun _ i _ => n - (intOf i).toNat)
    case atStart => exact ⟨0, [], [], Nat.zero_le _, rfl, Lib.hid ⟨World.ownsRow_nil _ _ 9 1, HS.out, by simp, rfl, HE.out, by simp⟩, HPP, G3⟩
    case round =>
      clear HS HPP G3 HE
      obtain ⟨k, D, S, hk, rfl, H, HP, HG⟩ := hrel
      generalize u3 = v at *
      by_cases hlt : k < n
      · have HPK : Hid (∃ o, pickV l D = some o) := Lib.hid (pick_some HR.out (left_of HR.out (by rw [H.out.2.2.2.1, ← HL.out]; exact hlt)))
        have HC := Lib.hid (pickI_k P bd S A n c vs l wr (HP.out.c 0 rfl) H.out.2.1 (HO.out _ HG.out) (by rw [← pick_eq H.out.2.2.1]; exact HPK.out))
        clear HPK
        go_wp2_with fail
        refine HC.out.mono ?_
        rintro e w4 ⟨i, o, hi, rfl, ho, hf, g4⟩
        obtain ⟨ad, u, o', ho', _, rfl, hbl, hu, x0, x1, x2, x3, x4⟩ := (HO.out _ (HG.out.trans g4)).at i hi
        rw [ho] at ho'
        obtain rfl := Option.some.inj ho'
        have HF : Hid (pickV l D = some o) := Lib.hid (by rw [pick_eq H.out.2.2.1]; exact hf)
        have HM := Lib.hid (List.mem_of_getElem? ho)
        have hcd := hu.code
        rw [hcd] at x0
        obtain ⟨w5, r5, hd5, g5, hz5⟩ := SetD.put (w := w4.drew) keyS und46 (Dict.kept H.out.2.1 (grown_dr g4)) o.code
        unfold encS at r5
        have p0 := (HP.out.kept g4).c 0 rfl
        have k1 : (0 : Int) ≤ (i : Int) := by omega
        have k2 : (i : Int) < (n : Int) := by omega
        have k5 : IntKind.i64.wrap (i : Int) = (i : Int) := by rw [IntKind.wrap_i64]; omega
        have hmap : MapAt w4.drew bd := Dict.map (Dict.kept H.out.2.1 (grown_dr g4))
        have HS5 := Lib.hid hd5
        have HP5 := Lib.hid (((HP.out.kept g4).kept (grown_dr (grown_refl _))).keptm hmap g5)
        have HG5 := Lib.hid ((HG.out.trans (grown_dr g4)).andThen g5 (by rintro j ⟨⟩; exact .inl HB1.out))
        have y0 := gcellm hmap g5 (show w4.drew.cell? (ad.add (i * 5)) = _ from x0)
        have HO5 := Lib.hid (World.ownsRow.kept (World.ownsRow.kept H.out.1 (grown_dr g4) (by cases v.ownBlock with | none => exact .inl rfl | some k => exact .inr (by simp))) g5 (by
          have := own_off (World.ownsRow.kept H.out.1 (grown_dr g4) (by cases v.ownBlock with | none => exact .inl rfl | some k => exact .inr (by simp))) hmap
          cases hv : v.ownBlock with
          | none => exact .inl rfl
          | some k => exact .inr (fun e => this (by rw [hv, e]))))
        have HC8 : Hid (o.code.length ≤ 8) := Lib.hid (by
          have := HR.out.code o HM.out
          unfold codeB at this
          simp at this
          omega)
        clear ho ho' hf g4 hd5 g5 hz5 hu hcd hmap HC HP x1 x2 x3 x4 hbl
        go_upto_region 8 with fail
        go_region
        have ga := World.grownBy_alloc w5 (.cells #[.string ⟨o.code.toArray⟩] 9) none
        have HO7 := Lib.hid (World.ownsRow.kept HO5.out ga (by cases v.ownBlock with | none => exact .inl rfl | some k => exact .inr (by simp)))
        have HG7 := Lib.hid (HG5.out.trans ga)
        have HS7 := Lib.hid (Dict.kept HS5.out ga)
        have HP7 := Lib.hid (HP5.out.kept ga)
        have HV7 := Lib.hid (new_vals w5 9 [.string ⟨o.code.toArray⟩] 1 rfl (by omega) (fun u hu => by rw [List.mem_singleton.1 hu]; rfl))
        have hbase : P + 1 ≤ (w5.alloc (.cells #[.string ⟨o.code.toArray⟩] 9)).heap.size := HP7.out.lt
        have HDL : Hid (D.length ≤ 60) := Lib.hid (by have := HR.out.few; have h2 := HL.out; have h3 := H.out.2.2.2.1; omega)
        clear ga p0
        go_upto_region 9 with fail
        go_wp2_with (at_builtin; refine wpList_append_vals elt9 rfl _ _ rfl (P + 1) v D.length _ rfl HO7.out _ 1 1 _ rfl HV7.out (by have := HDL.out; omega) hbase ?_; intro v' w8 ho hg hb hv)
        have hbd : some bd ≠ v.ownBlock := own_off HO7.out (Dict.map HS7.out)
        have hpp : some P ≠ v.ownBlock := by
          intro e
          have := (World.ownsRow.lt HO7.out P e.symm).1
          omega
        have HS8 : Hid (SetD encS w8 bd (addS S o.code)) := Lib.hid (Dict.keptR HS7.out hg hbd)
        have HP8 := Lib.hid (HP7.out.keptR hg hpp)
        have HO8 : Hid (OwnS w8 (P + 1) v' (D ++ [o.code])) := Lib.hid (by unfold OwnS; simpa using ho)
        have HG8 := Lib.hid (HG7.out.andThen hg (fun r e => .inl (by have := (World.ownsRow.lt HO7.out r e).1; have := HBP.out; omega)))
        refine ⟨⟨k + 1, D ++ [o.code], addS S o.code, by omega, by go_num, Lib.hid ⟨HO8.out, HS8.out, fun s => ?_, ?_, ?_, fun s hs => ?_⟩, HP8, HG8⟩, by simp [intOf]; omega⟩
        · rw [addS_mem, H.out.2.2.1]
          simp [or_comm]
        · rw [List.length_append, H.out.2.2.2.1]
          rfl
        · obtain ⟨m, hm⟩ : ∃ m, n - k = m + 1 := ⟨n - k - 1, by omega⟩
          have h1 := H.out.2.2.2.2.1
          rw [hm] at h1
          unfold ordN at h1
          rw [HF.out] at h1
          rw [show n - (k + 1) = m by omega]
          exact h1
        · rcases List.mem_append.1 hs with hs | hs
          · exact H.out.2.2.2.2.2 s hs
          · rw [List.mem_singleton.1 hs]; exact HC8.out
      · obtain rfl : n = k := by omega
        have HE2 : Hid (orderV l = D ∧ D.length = (orderV l).length) := Lib.hid (by
          have := H.out.2.2.2.2.1
          rw [Nat.sub_self] at this
          have h2 : orderV l = D := this
          exact ⟨h2, by rw [h2]⟩)
        obtain ⟨B, d, hv, hst, _⟩ := OwnS.strs H.out.1 (fun x hx => Nat.le_trans (H.out.2.2.2.2.2 x hx) (by omega))
        rw [HE2.out.2] at hv hst
        have HST : Hid (Strs wr B (orderV l).length d (orderV l)) := Lib.hid (by rw [← HE2.out.1] at hst; exact hst)
        subst hv
        clear H hst HP
        go_wp2_with fail
        go_ret
        exact ⟨B, d, rfl, HST.out, HG.out⟩
  · have HE : Hid (orderV l = []) := Lib.hid (by unfold orderV; rw [if_neg hz])
    have hz2 : (checkV l != 0) = true := by simpa using hz
    generalize checkV l = e9 at *
    clear hz
    go_wp2_with fail
    go_ret
    exact ⟨none, 0, by rw [HE.out]; rfl, by rw [HE.out]; exact Strs.nil_ _, G1.out⟩
end Go.Proofs.YtnkemoicgadefaaGreatDoor
