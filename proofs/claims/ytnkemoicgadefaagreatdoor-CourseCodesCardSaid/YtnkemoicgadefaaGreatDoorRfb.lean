/-
  The reference's Copy.
-/
import Derived.Test.YtnkemoicgadefaaGreatDoorRfa
namespace Go.Proofs.YtnkemoicgadefaaGreatDoor
open Go.RowKit
attribute [local go_sem] get_mk extract_mk
theorem vals_own {w : World} {b e sz n m c : Nat} {A : Option Addr} {vs : List Value} (h : w.ownsRow b e sz (.slice A n c) m vs) (hm : n = m) (h1 : ∀ v ∈ vs, v.oneCell' = true) : Vals w A n c sz vs := by
  obtain ⟨A', c', e', hv, _⟩ := own_vals h h1
  injection e' with e1 e2 e3
  subst e1 e2 e3
  exact hv
end Go.Proofs.YtnkemoicgadefaaGreatDoor
