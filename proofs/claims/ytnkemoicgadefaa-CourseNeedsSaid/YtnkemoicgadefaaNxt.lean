/-
  The program's checkNext.
-/
import Derived.Test.YtnkemoicgadefaaOne
namespace Go.Proofs.Ytnkemoicgadefaa
open Go.RowKit
attribute [local go_sem] get_mk extract_mk
theorem hasSlot {l : List Int} {A : Option Addr} {n c : Nat} {w : World} (h : Ints w A n c l) : Calls Try.prog 55 #[.slice A n c, .func (.func 58) #[] #[]] w fun e w' => e = .returned (.bool (!l.all slotB)) ∧ w.grownBy w' none := by
  have hn := h.len
  refine (hasI58 A n c l (fun k W => w.grownBy W none ∧ (l.take k).all slotB = true) (fun k W => w.grownBy W none ∧ l.all slotB = false) w ⟨grown_refl _, rfl⟩ (fun k W hW => h.kept hW.1) (fun k x W hx hW => ?_)).mono ?_
  · refine (noSlot_k x W).mono ?_
    rintro e W' ⟨rfl, rfl⟩
    exact ⟨_, rfl, fun hb => ⟨hW.1, by rw [all_slot hx, hW.2]; simpa using hb⟩, fun hb => ⟨hW.1, all_no hx (by simpa using hb)⟩⟩
  · rintro e W' (⟨rfl, g, ha⟩ | ⟨k, hk, rfl, g, ha⟩)
    · rw [hn, List.take_length] at ha
      exact ⟨by rw [ha]; rfl, g⟩
    · exact ⟨by rw [ha]; rfl, g⟩
set_option maxRecDepth 100000 in
set_option maxHeartbeats 2000000 in
theorem next_k (u v : V) (p o : O) (w : World) (hp : u.code = p.code ∧ p.code.length ≤ 1152921504606846976) (h : VIs w v o) : Calls Try.prog 38 #[.agg u.cells, .agg v.cells] w fun e w' => e = .returned (.int .i64 (nextV p.code o)) ∧ w.grownBy w' none := by
  obtain ⟨vc, vr, vp, sA, sn, sc, nA, nn, nc⟩ := v
  have hcode := h.code
  have hcr := h.cr
  have hpl := h.pl
  simp only at hcode hcr hpl
  subst hcode hcr hpl
  have hol := h.ok.1
  obtain ⟨i1, i2⟩ := h.ok.2.1
  obtain ⟨i3, i4⟩ := h.ok.2.2
  have HSL := Lib.hid (fun W (g : w.grownBy W none) => h.slots.kept g)
  have HND := Lib.hid (fun W (g : w.grownBy W none) => h.needs.kept g)
  have HL2 := Lib.hid h.needs.len
  have hle2 := h.needs.v.le
  have hcap2 := h.needs.v.cap
  clear h
  obtain ⟨oc, cr, pl, sl, nd⟩ := o
  simp only at i1 i2 i3 i4 HL2 HSL HND hol
  obtain ⟨uc, ur, up, uA, un, uc2, xA, xn, xc⟩ := u
  obtain ⟨hp1, hpl⟩ := hp
  simp only at hp1
  obtain ⟨pc, pcr, ppl, psl, pnd⟩ := p
  simp only at hp1 hpl ⊢
  subst hp1
  obtain ⟨w1, e1, HB, gg⟩ := row_of w 35 #[.string ⟨uc.toArray⟩, .int .i64 ur, .int .i64 up, .slice uA un uc2, .slice xA xn xc]
  obtain ⟨w2, e2, HC, g2⟩ := row_of w1 35 #[.string ⟨oc.toArray⟩, .int .i64 cr, .int .i64 pl, .slice sA sn sc, .slice nA nn nc]
  have hs1 : w1.heap.size = w.heap.size + 1 := by rw [e1]; simp
  have E1 := Lib.hid e1
  have E2 := Lib.hid e2
  rw [hs1] at HC
  replace HB := HB.kept g2
  replace gg := gg.trans g2
  clear e1 e2 g2
  simp only [V.cells]
  go_enter Try.func38, Try.ntmps38
  go_upto_region 1 with fail
  rw [← E1.out, ← E2.out]
  clear E1 E2 hs1
  generalize w.heap.size = B at *
  have b0 := HB.c 0 rfl
  have c0 := HC.c 0 rfl
  have c1 := HC.c 1 rfl
  have c2 := HC.c 2 rfl
  have c3 := HC.c 3 rfl
  have c4 := HC.c 4 rfl
  clear HB HC
  go_wp2_with fail
  refine (code_k oc hol _).mono ?_
  rintro e w3 ⟨rfl, rfl⟩
  cases hcb : codeB oc with
  | false =>
    have HE : Hid (nextV uc ⟨oc, cr, pl, sl, nd⟩ = 12) := Lib.hid (by unfold nextV; rw [if_pos hcb])
    clear hcb
    go_wp2_with fail
    go_ret
    exact ⟨by rw [HE.out]; rfl, gg⟩
  | true =>
  have HV : Hid (nextV uc ⟨oc, cr, pl, sl, nd⟩ = if oc = uc then 6 else if oc < uc then 7 else oneV ⟨oc, cr, pl, sl, nd⟩) := Lib.hid (by unfold nextV; rw [if_neg (by simp [hcb])])
  clear hcb
  by_cases he : oc = uc
  · have HE : Hid (nextV uc ⟨oc, cr, pl, sl, nd⟩ = 6) := Lib.hid (by rw [HV.out, if_pos he])
    have q1 : (oc == uc) = true := by simpa using he
    clear HV he
    go_wp2_with fail
    go_ret
    exact ⟨by rw [HE.out]; rfl, gg⟩
  have q1 : (oc == uc) = false := by simpa using he
  by_cases hlt : oc < uc
  · have HE : Hid (nextV uc ⟨oc, cr, pl, sl, nd⟩ = 7) := Lib.hid (by rw [HV.out, if_neg he, if_pos hlt])
    have q2 : Op.bytesLess oc uc = true := by rw [bytesLess_eq, decide_eq_true_eq]; exact hlt
    clear HV he hlt
    go_wp2_with fail
    go_ret
    exact ⟨by rw [HE.out]; rfl, gg⟩
  have q2 : Op.bytesLess oc uc = false := by rw [bytesLess_eq, decide_eq_false_iff_not]; exact hlt
  have HV2 : Hid (nextV uc ⟨oc, cr, pl, sl, nd⟩ = oneV ⟨oc, cr, pl, sl, nd⟩) := Lib.hid (by rw [HV.out, if_neg he, if_neg hlt])
  clear HV he hlt
  have HV3 : Hid (nextV uc ⟨oc, cr, pl, sl, nd⟩ = if ((decide (1 ≤ cr) && decide (cr ≤ 60)) && (decide (0 ≤ pl) && decide (pl ≤ 200)) && sl.all slotB) = false then 3 else if incI sl = false then 7 else if 5 < nd.length then 2 else if incS nd = false then 7 else 0) := Lib.hid (by
    rw [HV2.out]
    unfold oneV
    simp only [Bool.and_assoc])
  clear HV2
  go_wp2_with fail
  refine (withinI_k cr 1 60 _).mono ?_
  rintro e w4 ⟨rfl, rfl⟩
  generalize (decide (1 ≤ cr) && decide (cr ≤ 60)) = d1 at *
  clear i1 i2
  cases d1 with
  | false =>
    have HE : Hid (nextV uc ⟨oc, cr, pl, sl, nd⟩ = 3) := Lib.hid (by rw [HV3.out, if_pos (by simp)])
    clear HV3
    go_wp2_with fail
    go_ret
    exact ⟨by rw [HE.out]; rfl, gg⟩
  | true =>
  rw [Bool.true_and] at HV3
  go_wp2_with fail
  refine (withinI_k pl 0 200 _).mono ?_
  rintro e w5 ⟨rfl, rfl⟩
  generalize (decide (0 ≤ pl) && decide (pl ≤ 200)) = d2 at *
  clear i3 i4
  cases d2 with
  | false =>
    have HE : Hid (nextV uc ⟨oc, cr, pl, sl, nd⟩ = 3) := Lib.hid (by rw [HV3.out, if_pos (by simp)])
    clear HV3
    go_wp2_with fail
    go_ret
    exact ⟨by rw [HE.out]; rfl, gg⟩
  | true =>
  rw [Bool.true_and] at HV3
  go_wp2_with fail
  refine (hasSlot (HSL.out _ gg)).mono ?_
  rintro e w6 ⟨rfl, g⟩
  replace gg := gg.trans g
  replace c3 := gcell g c3
  replace c4 := gcell g c4
  clear g b0 c0 c1 c2
  generalize sl.all slotB = d3 at *
  cases d3 with
  | false =>
    have HE : Hid (nextV uc ⟨oc, cr, pl, sl, nd⟩ = 3) := Lib.hid (by rw [HV3.out, if_pos (by simp)])
    clear HV3
    go_wp2_with fail
    go_ret
    exact ⟨by rw [HE.out]; rfl, gg⟩
  | true =>
  rw [if_neg (by decide)] at HV3
  go_wp2_with fail
  refine (incI_k sA sn sc sl _ (HSL.out _ gg)).mono ?_
  rintro e w7 ⟨rfl, g⟩
  replace gg := gg.trans g
  replace c4 := gcell g c4
  clear g c3
  generalize incI sl = d4 at *
  cases d4 with
  | false =>
    have HE : Hid (nextV uc ⟨oc, cr, pl, sl, nd⟩ = 7) := Lib.hid (by rw [HV3.out, if_pos (by simp)])
    clear HV3
    go_wp2_with fail
    go_ret
    exact ⟨by rw [HE.out]; rfl, gg⟩
  | true =>
  rw [if_neg (by decide)] at HV3
  by_cases hn : (nn : Int) > 5
  · have HE : Hid (nextV uc ⟨oc, cr, pl, sl, nd⟩ = 2) := Lib.hid (by rw [HV3.out, if_pos (by have := HL2.out; omega)])
    clear HV3
    go_wp2_with fail
    go_ret
    exact ⟨by rw [HE.out]; rfl, gg⟩
  have HV4 : Hid (nextV uc ⟨oc, cr, pl, sl, nd⟩ = if incS nd = false then 7 else 0) := Lib.hid (by rw [HV3.out, if_neg (by have := HL2.out; omega)])
  clear HV3
  go_wp2_with fail
  refine (incS_k nA nn nc nd _ (HND.out _ gg)).mono ?_
  rintro e w8 ⟨rfl, g⟩
  replace gg := gg.trans g
  clear g c4
  generalize incS nd = bi at *
  cases bi <;> (go_wp2_with fail; go_ret; exact ⟨by rw [HV4.out]; rfl, gg⟩)
end Go.Proofs.Ytnkemoicgadefaa
