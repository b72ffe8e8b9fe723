/-
  The reference's first, by its contract.
-/
import Derived.Test.YtljjmoeplfcblaaLeast
namespace Go.Proofs.Ytljjmoeplfcblaa
open Go.RowKit Go.Shelf
attribute [local go_sem] get_mk extract_mk
set_option maxHeartbeats 1000000 in
/-- the reference's first -/
theorem first_r (A : Option Addr) (n c : Nat) (l : List Str) (s : Str) (w : World) (hl : Strs w A n c l) :
    Calls Try.prog 55 #[.slice A n c, .string ⟨s.toArray⟩] w fun e w' => e = .returned (.int .i64 (leastD l s : Nat)) ∧ w.grownBy w' none := by
  have hlen := Lib.hid hl.len
  have HL := Lib.hid (fun w' (g : w.grownBy w' none) => hl.kept g)
  have hcap := hl.cap
  have hle := hl.le
  clear hl
  go_enter Try.func55, Try.ntmps55
  go_wp2_with fail
  go_loopw [5] (fun z wr => ∃ k : Nat, k ≤ n ∧ z = .int .i64 k ∧ (∀ y ∈ l.take k, Op.bytesLess y s = true) ∧ w.grownBy wr none) (fun z _ => n - (intOf z).toNat)
  case atStart => exact ⟨0, Nat.zero_le _, rfl, (fun y hy => by simp at hy), World.grownBy.refl _ _⟩
  case round =>
    obtain ⟨k, hk, rfl, ha, hg⟩ := hrel
    by_cases hlt : k < n
    · obtain ⟨x, hx⟩ : ∃ x, l[k]? = some x := ⟨_, List.getElem?_eq_getElem (by have := hlen.out; omega)⟩
      obtain ⟨ad, rfl, _, hc⟩ := (HL.out _ hg).cell (by omega)
      have hcx := hc k x hx
      have r1 : (0 : Int) ≤ (k : Int) := by omega
      have r2 : (k : Int) < (n : Int) := by omega
      have r3 : IntKind.i64.wrap ((k : Int) + 1) = (k : Int) + 1 := by rw [IntKind.wrap_i64]; omega
      clear hc
      cases hb : Op.bytesLess x s with
      | true =>
        have HA : Hid (∀ y ∈ l.take (k + 1), Op.bytesLess y s = true) := Lib.hid (fun y hy => by
          rw [take_one l k x hx] at hy
          rcases List.mem_append.1 hy with h | h
          · exact ha y h
          · rw [List.mem_singleton] at h; rw [h, hb])
        clear ha hx
        go_wp2_with fail
        exact ⟨⟨k + 1, by omega, by go_num, HA.out, hg⟩, by simp [intOf]; omega⟩
      | false =>
        have HE := Lib.hid (tw_at l k x ha hx hb)
        clear ha hx
        go_wp2_with fail
        go_ret
        exact ⟨by rw [leastD, HE.out]; rfl, hg⟩
    · have HE : Hid (leastD l s = n) := Lib.hid (by
        have := hlen.out
        rw [List.take_of_length_le (by omega)] at ha
        rw [leastD, tw_all l ha, ← this])
      obtain rfl : k = n := by omega
      clear ha
      go_wp2_with fail
      go_ret
      exact ⟨by rw [HE.out]; rfl, hg⟩
end Go.Proofs.Ytljjmoeplfcblaa
