/-
  An offer alone: the reference's single; the program's checkNext.
-/
import Derived.Test.YtnkemoicgadefaaInc
namespace Go.Proofs.Ytnkemoicgadefaa
open Go.RowKit
attribute [local go_sem] get_mk extract_mk
theorem all_slot {l : List Int} {k : Nat} {z : Int} (h : l[k]? = some z) : (l.take (k + 1)).all slotB = ((l.take k).all slotB && slotB z) := by
  rw [List.take_add_one, h, List.all_append]
  simp
theorem all_no {l : List Int} {k : Nat} {z : Int} (h : l[k]? = some z) (hz : slotB z = false) : l.all slotB = false := by
  rw [List.all_eq_false]
  exact ⟨z, List.mem_of_getElem? h, by simp [hz]⟩
set_option maxRecDepth 100000 in
set_option maxHeartbeats 1000000 in
theorem single_r (v : V) (o : O) (w : World) (h : VIs w v o) : Calls Try.prog 42 #[.agg v.cells] w fun e w' => e = .returned (.int .i64 (oneV o)) ∧ w.grownBy w' none := by
  obtain ⟨vc, vr, vp, sA, sn, sc, nA, nn, nc⟩ := v
  have hcode := h.code
  have hcr := h.cr
  have hpl := h.pl
  simp only at hcode hcr hpl
  subst hcode hcr hpl
  obtain ⟨i1, i2⟩ := h.ok.2.1
  obtain ⟨i3, i4⟩ := h.ok.2.2
  have HSL := Lib.hid (fun W (g : w.grownBy W none) => h.slots.kept g)
  have HND := Lib.hid (fun W (g : w.grownBy W none) => h.needs.kept g)
  have HL1 := Lib.hid h.slots.len
  have HL2 := Lib.hid h.needs.len
  have hle := h.slots.v.le
  have hcap := h.slots.v.cap
  have hle2 := h.needs.v.le
  have hcap2 := h.needs.v.cap
  clear h
  obtain ⟨oc, cr, pl, sl, nd⟩ := o
  simp only at i1 i2 i3 i4 HL1 HL2 HSL HND
  obtain ⟨w1, e1, HB, gg⟩ := row_of w 35 #[.string ⟨oc.toArray⟩, .int .i64 cr, .int .i64 pl, .slice sA sn sc, .slice nA nn nc]
  have E1 := Lib.hid e1
  clear e1
  simp only [V.cells]
  go_enter Try.func42, Try.ntmps42
  go_upto_region 1 with fail
  rw [← E1.out]
  clear E1
  generalize w.heap.size = B at *
  have b1 := HB.c 1 rfl
  have b2 := HB.c 2 rfl
  have b3 := HB.c 3 rfl
  have b4 := HB.c 4 rfl
  clear HB
  by_cases a1 : cr < 1
  · have HE : Hid (oneV ⟨oc, cr, pl, sl, nd⟩ = 3) := Lib.hid (by unfold oneV; rw [if_pos]; simp; omega)
    go_wp2_with fail
    go_ret
    exact ⟨by rw [HE.out]; rfl, gg⟩
  by_cases a2 : cr > 60
  · have HE : Hid (oneV ⟨oc, cr, pl, sl, nd⟩ = 3) := Lib.hid (by unfold oneV; rw [if_pos]; simp; omega)
    go_wp2_with fail
    go_ret
    exact ⟨by rw [HE.out]; rfl, gg⟩
  by_cases a3 : pl < 0
  · have HE : Hid (oneV ⟨oc, cr, pl, sl, nd⟩ = 3) := Lib.hid (by unfold oneV; rw [if_pos]; simp; omega)
    go_wp2_with fail
    go_ret
    exact ⟨by rw [HE.out]; rfl, gg⟩
  by_cases a4 : pl > 200
  · have HE : Hid (oneV ⟨oc, cr, pl, sl, nd⟩ = 3) := Lib.hid (by unfold oneV; rw [if_pos]; simp; omega)
    go_wp2_with fail
    go_ret
    exact ⟨by rw [HE.out]; rfl, gg⟩
  have HV : Hid (oneV ⟨oc, cr, pl, sl, nd⟩ = if sl.all slotB = false then 3 else if incI sl = false then 7 else if 5 < nd.length then 2 else if incS nd = false then 7 else 0) := Lib.hid (by
    unfold oneV
    simp only
    rw [decide_eq_true (show 1 ≤ cr by omega), decide_eq_true (show cr ≤ 60 by omega), decide_eq_true (show 0 ≤ pl by omega), decide_eq_true (show pl ≤ 200 by omega)]
    simp only [Bool.true_and])
  go_wp2_with fail
  clear a1 a2 a3 a4 b1 b2 i1 i2 i3 i4
  go_loopw [3] (fun z wr => ∃ k : Nat, k ≤ sn ∧ z = .int .i64 (k : Int) ∧ Hid ((sl.take k).all slotB = true) ∧ w1.grownBy wr none) (fun z _ => sn - (intOf z).toNat)
  case atStart => exact ⟨0, Nat.zero_le _, rfl, Lib.hid rfl, grown_refl _⟩
  case round =>
    obtain ⟨k, hk, rfl, HA, hg⟩ := hrel
    have c3 := gcell hg b3
    by_cases hlt : k < sn
    · obtain ⟨ad, z, hz, ⟨z1, z2⟩, rfl, hb, cz⟩ := (HSL.out _ (gg.trans hg)).at k hlt
      have HZ := Lib.hid hz
      clear hz
      by_cases d1 : z < 1
      · have HE : Hid (oneV ⟨oc, cr, pl, sl, nd⟩ = 3) := Lib.hid (by rw [HV.out, if_pos (all_no HZ.out (by unfold slotB; simp; omega))])
        clear HV HA HZ
        go_wp2_with fail
        go_ret
        exact ⟨by rw [HE.out]; rfl, gg.trans hg⟩
      by_cases d2 : z > 40
      · have HE : Hid (oneV ⟨oc, cr, pl, sl, nd⟩ = 3) := Lib.hid (by rw [HV.out, if_pos (all_no HZ.out (by unfold slotB; simp; omega))])
        clear HV HA HZ
        go_wp2_with fail
        go_ret
        exact ⟨by rw [HE.out]; rfl, gg.trans hg⟩
      have HA2 : Hid ((sl.take (k + 1)).all slotB = true) := Lib.hid (by rw [all_slot HZ.out, HA.out]; unfold slotB; simp; omega)
      clear HA HZ HV
      go_wp2_with fail
      go_roundw
      case rel => exact ⟨k + 1, by omega, by go_num, HA2, hg⟩
      case measure => simp [intOf]; omega
    · obtain rfl : sn = k := by omega
      have HV2 : Hid (oneV ⟨oc, cr, pl, sl, nd⟩ = if incI sl = false then 7 else if 5 < nd.length then 2 else if incS nd = false then 7 else 0) := Lib.hid (by
        have := HA.out
        rw [HL1.out, List.take_length] at this
        rw [HV.out, this]
        simp)
      have G2 := Lib.hid hg
      have GG := Lib.hid gg
      have B3 := Lib.hid b3
      have B4 := Lib.hid b4
      clear HV HA b3 b4 gg hg hlt
      go_wp2_with fail
      go_loopw [4] (fun z wr => ∃ k : Nat, k ≤ sn ∧ z = .int .i64 ((k : Int) + 1) ∧ Hid (∀ (j : Nat) (x y : Int), j < k → sl[j]? = some x → sl[j + 1]? = some y → x < y) ∧ w1.grownBy wr none) (fun z _ => sn + 1 - (intOf z).toNat)
      case atStart => exact ⟨0, Nat.zero_le _, rfl, Lib.hid (fun _ _ _ h => by omega), G2.out⟩
      case round =>
        obtain ⟨k, hk, rfl, HA, hg⟩ := hrel
        have d3 := gcell hg B3.out
        have d4 := gcell hg B4.out
        by_cases hlt : k + 1 < sn
        · obtain ⟨ad, x, hx, _, rfl, hb, cx⟩ := (HSL.out _ (GG.out.trans hg)).at k (by omega)
          obtain ⟨ad2, y, hy, _, e2, _, cy⟩ := (HSL.out _ (GG.out.trans hg)).at (k + 1) hlt
          obtain rfl := Option.some.inj e2
          rw [add_at _ (k + 1) (by omega)] at cy
          have r1 : (0 : Int) ≤ (k : Int) := by omega
          have r2 : (k : Int) < (sn : Int) := by omega
          have r3 : (k : Int) + 1 < (sn : Int) := by omega
          have r4 : (0 : Int) ≤ (k : Int) + 1 := by omega
          have r5 : IntKind.i64.wrap (k : Int) = (k : Int) := by rw [IntKind.wrap_i64]; omega
          have r6 : IntKind.i64.wrap ((k : Int) + 1 + 1) = (k : Int) + 1 + 1 := by rw [IntKind.wrap_i64]; omega
          have r7 : ((k : Int) + 1).toNat = k + 1 := by omega
          have HX := Lib.hid hx
          have HY := Lib.hid hy
          clear hx hy e2 hb
          by_cases hxy : x < y
          · have HA2 : Hid (∀ (j : Nat) (a b : Int), j < k + 1 → sl[j]? = some a → sl[j + 1]? = some b → a < b) := Lib.hid (fun j a b hj ha hb => by
              by_cases e : j = k
              · subst e
                rw [HX.out] at ha
                rw [HY.out] at hb
                injection ha with ha
                injection hb with hb
                subst ha hb
                exact hxy
              · exact HA.out j a b (by omega) ha hb)
            clear HA HX HY HV2 d4
            go_upto_region 11 with fail
            go_region
            go_wp2_with fail
            go_roundw
            case rel => exact ⟨k + 1, by omega, by go_num, HA2, grown_dr hg⟩
            case measure => simp [intOf]; omega
          · have HE : Hid (oneV ⟨oc, cr, pl, sl, nd⟩ = 7) := Lib.hid (by
              rw [HV2.out, if_pos]
              rw [Bool.eq_false_iff]
              intro h
              exact hxy ((incI_iff sl).1 h k x y HX.out HY.out))
            clear HA HX HY HV2 d4
            go_upto_region 11 with fail
            go_region
            go_wp2_with fail
            go_ret
            exact ⟨by rw [HE.out]; rfl, grown_dr (GG.out.trans hg)⟩
        · have HV3 : Hid (oneV ⟨oc, cr, pl, sl, nd⟩ = if 5 < nd.length then 2 else if incS nd = false then 7 else 0) := Lib.hid (by
            have hI : incI sl = true := (incI_iff sl).2 (fun j x y hx hy => by
              have := (List.getElem?_eq_some_iff.1 hy).1
              have hn := HL1.out
              exact HA.out j x y (by omega) hx hy)
            rw [HV2.out, hI]
            simp)
          have g3 := GG.out.trans hg
          clear HA HV2
          by_cases hn : (nn : Int) > 5
          · have HE : Hid (oneV ⟨oc, cr, pl, sl, nd⟩ = 2) := Lib.hid (by rw [HV3.out, if_pos (by have := HL2.out; omega)])
            clear HV3
            go_wp2_with fail
            go_ret
            exact ⟨by rw [HE.out]; rfl, g3⟩
          have HV4 : Hid (oneV ⟨oc, cr, pl, sl, nd⟩ = if incS nd = false then 7 else 0) := Lib.hid (by rw [HV3.out, if_neg (by have := HL2.out; omega)])
          clear HV3
          go_wp2_with fail
          refine (incS_r nA nn nc nd _ (HND.out _ g3)).mono ?_
          rintro e w5 ⟨rfl, g⟩
          replace g3 := g3.trans g
          clear g d3 d4
          generalize incS nd = bi at *
          cases bi <;> (go_wp2_with fail; go_ret; exact ⟨by rw [HV4.out]; rfl, g3⟩)
end Go.Proofs.Ytnkemoicgadefaa
