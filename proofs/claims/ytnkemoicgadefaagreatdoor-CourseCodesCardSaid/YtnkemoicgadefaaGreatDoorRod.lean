/-
  The reference's Order.
-/
import Derived.Test.YtnkemoicgadefaaGreatDoorRnd
namespace Go.Proofs.YtnkemoicgadefaaGreatDoor
open Go.RowKit
attribute [local go_sem] get_mk extract_mk
theorem own_grow {w w' : World} {b : Nat} {v : Value} {D : List Str} (h : OwnS w b v D) (g : w.grownBy w' none) : OwnS w' b v D := World.ownsRow.kept h g (by cases v.ownBlock with | none => exact .inl rfl | some k => exact .inr (by simp))
theorem ok_snoc {D : List Str} {s : Str} (h : ∀ x ∈ D, x.length ≤ 1152921504606846976) (hs : s.length ≤ 1152921504606846976) : ∀ x ∈ D ++ [s], x.length ≤ 1152921504606846976 := fun x hx => by
  rcases List.mem_append.1 hx with hx | hx
  · exact h x hx
  · rw [List.mem_singleton.1 hx]; exact hs
end Go.Proofs.YtnkemoicgadefaaGreatDoor
