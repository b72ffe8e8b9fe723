/-
  The reference's whole, by its contract.
-/
import Derived.Test.YtljjmoeplfcblaaLeast
namespace Go.Proofs.Ytljjmoeplfcblaa
open Go.RowKit Go.Shelf
attribute [local go_sem] get_mk extract_mk
def all8 (l : List Str) : Bool := l.all fun s => s.length == 8
theorem all8_snoc (l : List Str) (k : Nat) (x : Str) (h : l[k]? = some x) (ha : all8 (l.take k) = true) (h8 : x.length = 8) : all8 (l.take (k + 1)) = true := by
  rw [take_one l k x h, all8, List.all_append]
  rw [show (l.take k).all (fun s => s.length == 8) = true from ha]
  simp [h8]
theorem all8_no (l : List Str) (k : Nat) (x : Str) (h : l[k]? = some x) (h8 : ¬ x.length = 8) : all8 l = false := by
  rw [all8, List.all_eq_false]
  exact ⟨x, List.mem_of_getElem? h, by simpa using h8⟩
set_option maxHeartbeats 1000000 in
/-- the reference's whole -/
theorem whole_r (A : Option Addr) (n c : Nat) (l : List Str) (w : World) (hl : Strs w A n c l) :
    Calls Try.prog 59 #[.slice A n c] w fun e w' => e = .returned (.bool (all8 l)) ∧ w.grownBy w' none := by
  have hlen := Lib.hid hl.len
  have HL := Lib.hid (fun w' (g : w.grownBy w' none) => hl.kept g)
  have hcap := hl.cap
  have hle := hl.le
  clear hl
  go_enter Try.func59, Try.ntmps59
  go_wp2_with fail
  go_loopw [3] (fun z wr => ∃ k : Nat, k ≤ n ∧ z = .int .i64 k ∧ all8 (l.take k) = true ∧ w.grownBy wr none) (fun z _ => n - (intOf z).toNat)
  case atStart => exact ⟨0, Nat.zero_le _, rfl, rfl, World.grownBy.refl _ _⟩
  case round =>
    obtain ⟨k, hk, rfl, ha, hg⟩ := hrel
    by_cases hlt : k < n
    · obtain ⟨x, hx⟩ : ∃ x, l[k]? = some x := ⟨_, List.getElem?_eq_getElem (by have := hlen.out; omega)⟩
      obtain ⟨ad, rfl, _, hc⟩ := (HL.out _ hg).cell (by omega)
      have hcx := hc k x hx
      have r1 : (0 : Int) ≤ (k : Int) := by omega
      have r2 : (k : Int) < (n : Int) := by omega
      have r3 : IntKind.i64.wrap ((k : Int) + 1) = (k : Int) + 1 := by rw [IntKind.wrap_i64]; omega
      clear hc
      by_cases h8 : x.length = 8
      · have HA := Lib.hid (all8_snoc l k x hx ha h8)
        have hb : ((x.length : Int) != 8) = false := by rw [h8]; rfl
        clear ha hx
        have H8 := Lib.hid h8
        clear h8
        go_wp2_with fail
        exact ⟨⟨k + 1, by omega, by go_num, HA.out, hg⟩, by simp [intOf]; omega⟩
      · have HE := Lib.hid (all8_no l k x hx h8)
        have hb : ((x.length : Int) != 8) = true := by simp; omega
        clear ha hx
        go_wp2_with fail
        go_ret
        exact ⟨by rw [HE.out]; rfl, hg⟩
    · have HE : Hid (all8 l = true) := Lib.hid (by
        have := hlen.out
        rw [List.take_of_length_le (by omega)] at ha
        exact ha)
      obtain rfl : k = n := by omega
      clear ha
      go_wp2_with fail
      go_ret
      exact ⟨by rw [HE.out]; rfl, hg⟩
end Go.Proofs.Ytljjmoeplfcblaa
