/-
  Codes, of the program and of the reference.
-/
import Derived.Test.YtnkemoicgadefaaGreatDoorFew
namespace Go.Proofs.YtnkemoicgadefaaGreatDoor
open Go.RowKit
attribute [local go_sem] get_mk extract_mk
theorem byteI (c : UInt8) : (c.toNat : Int) < 256 := by have := c.toNat_lt; omega
theorem codeC_eq (c : UInt8) : codeC c = ((decide ((65 : Int) ≤ c.toNat) && decide ((c.toNat : Int) ≤ 90)) || (decide ((48 : Int) ≤ c.toNat) && decide ((c.toNat : Int) ≤ 57))) := by
  unfold codeC
  rw [Bool.eq_iff_iff]
  simp
  omega
theorem all_take {s : Str} {k : Nat} (h : k < s.length) : (s.take (k + 1)).all codeC = ((s.take k).all codeC && codeC s[k]) := by
  rw [List.take_add_one, List.getElem?_eq_getElem h, List.all_append]
  simp
theorem all_bad {s : Str} {k : Nat} (h : k < s.length) (hc : codeC s[k] = false) : s.all codeC = false := by
  rw [List.all_eq_false]
  exact ⟨s[k], List.getElem_mem h, by simp [hc]⟩
set_option maxRecDepth 100000 in
theorem code_k (s : Str) (hs : s.length ≤ 1152921504606846976) (w : World) : Calls Tryz.prog 20 #[.string ⟨s.toArray⟩] w fun e w' => e = .returned (.bool (codeB s)) ∧ w' = w := by
  by_cases h0 : s = []
  · subst h0
    go_enter Tryz.func20, Tryz.ntmps20
    go_wp2_with fail
    go_ret
    exact ⟨rfl, rfl⟩
  have hl : 1 ≤ s.length := by
    rcases s with _ | ⟨c, t⟩
    · exact absurd rfl h0
    · simp
  have hie : List.isEmpty s = false := by simpa using h0
  clear h0
  by_cases h8 : (s.length : Int) > 8
  · have hB : Hid (codeB s = false) := Lib.hid (by unfold codeB; rw [decide_eq_false (show ¬ s.length ≤ 8 by omega)]; simp)
    go_enter Tryz.func20, Tryz.ntmps20
    go_wp2_with fail
    go_ret
    exact ⟨by rw [hB.out]; rfl, rfl⟩
  have HL := Lib.hid hl
  have H8 := Lib.hid h8
  go_enter Tryz.func20, Tryz.ntmps20
  go_wp2_with fail
  go_loopw [13] (fun i wr => ∃ k : Nat, k ≤ s.length ∧ i = .int .i64 k ∧ Hid ((s.take k).all codeC = true) ∧ wr = w) (fun i _ => s.length - (intOf i).toNat)
  case atStart => exact ⟨0, by omega, rfl, Lib.hid rfl, rfl⟩
  case round =>
    obtain ⟨k, hkn, rfl, HA, rfl⟩ := hrel
    by_cases hlt : k < s.length
    · have HT := Lib.hid (all_take hlt)
      have HE := Lib.hid (codeC_eq s[k])
      have HB := Lib.hid (all_bad hlt)
      have hb := byteI s[k]
      have hg : (⟨s.toArray⟩ : ByteArray)[k]'(by simpa [ByteArray.size] using hlt) = s[k] := rfl
      generalize codeC s[k] = cc at *
      go_wp2_with fail
      refine (withinB_k _ 65 90 wr).mono ?_
      rintro e w2 ⟨rfl, rfl⟩
      generalize (decide ((65 : Int) ≤ s[k].toNat) && decide ((s[k].toNat : Int) ≤ 90)) = b1 at *
      cases b1 with
      | true =>
        have hcc : cc = true := by rw [HE.out]; rfl
        subst hcc
        clear HE HB
        go_wp2_with fail
        go_roundw
        case rel => exact ⟨k + 1, by omega, by go_num, Lib.hid (by rw [HT.out, HA.out]; rfl), trivial⟩
        case measure => simp [intOf]; omega
      | false =>
        rw [Bool.false_or] at HE
        go_wp2_with fail
        refine (withinB_k _ 48 57 _).mono ?_
        rintro e w2 ⟨rfl, rfl⟩
        generalize (decide ((48 : Int) ≤ s[k].toNat) && decide ((s[k].toNat : Int) ≤ 57)) = b2 at *
        cases b2 with
        | true =>
          have hcc : cc = true := HE.out
          subst hcc
          clear HE HB
          go_wp2_with fail
          go_roundw
          case rel => exact ⟨k + 1, by omega, by go_num, Lib.hid (by rw [HT.out, HA.out]; rfl), trivial⟩
          case measure => simp [intOf]; omega
        | false =>
          have hcc : Hid (codeB s = false) := Lib.hid (by unfold codeB; rw [HB.out HE.out]; simp)
          clear HE HB
          go_wp2_with fail
          go_ret
          exact ⟨by rw [hcc.out]; rfl, rfl⟩
    · obtain rfl : k = s.length := by omega
      have HB : Hid (codeB s = true) := Lib.hid (by
        have := HA.out
        rw [List.take_length] at this
        unfold codeB
        rw [this, decide_eq_true HL.out, decide_eq_true (show s.length ≤ 8 by have := H8.out; omega)]
        rfl)
      go_wp2_with fail
      go_ret
      exact ⟨by rw [HB.out]; rfl, rfl⟩
theorem five (c : Int) : (65 ≤ c ∧ c ≤ 90) ∨ (48 ≤ c ∧ c ≤ 57) ∨ c < 48 ∨ (57 < c ∧ c < 65) ∨ 90 < c := by omega
end Go.Proofs.YtnkemoicgadefaaGreatDoor
