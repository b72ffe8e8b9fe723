/-
  The reference's Needs.
-/
import Derived.Test.YtnkemoicgadefaaGreatDoorRcd
namespace Go.Proofs.YtnkemoicgadefaaGreatDoor
open Go.RowKit
attribute [local go_sem] get_mk extract_mk
def lenS : Value → Nat
  | .slice _ n _ => n
  | _ => 0
theorem strs_own {w : World} {b : Nat} {v : Value} {D : List Str} (h : OwnS w b v D) (hl : ∀ x ∈ D, x.length ≤ 1152921504606846976) : ∃ A c, v = .slice A D.length c ∧ Strs w A D.length c D := by
  obtain ⟨A, c, e, hs, _⟩ := OwnS.strs h hl
  exact ⟨A, c, e, hs⟩
end Go.Proofs.YtnkemoicgadefaaGreatDoor
