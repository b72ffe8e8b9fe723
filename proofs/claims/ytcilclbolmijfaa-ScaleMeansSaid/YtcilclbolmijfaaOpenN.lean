/-
  What a slice of integers reads as: a nil slice has no room.
-/
import Derived.Test.YtcilclbolmijfaaOpen
namespace Go.Proofs.Ytcilclbolmijfaa
open Go.ChangeShapes Go.WideShapes Go.RowKit Go.Deep
section
variable {H : Type} {enc : TypeId × Value → H} {w : World} {base : Nat} {sp : Nat → Bool} {held : Bool}
theorem open_room {α : Type} {P : Program} {t e : TypeId} {f : α → Value} {G : α → Prop} {fuel : Nat} {cs : List Value} {x : DataW H × List MemPlace} (ht : P.underlying t = some (.slice e)) (hce : P.cellsOf e = 1)
    (hel : ∀ n cs x, DataW.trod enc P w base sp held n e cs = some x → ∃ z, cs = [f z] ∧ G z) (h : DataW.trod enc P w base sp held fuel t cs = some x) :
    ∃ (A : Option Addr) (n c : Nat) (l : List α), cs = [.slice A n c] ∧ n = l.length ∧ n ≤ c ∧ c ≤ maxLen ∧ (∀ z ∈ l, G z) ∧ (0 < n → ∃ ad, A = some ad ∧ ad.block < w.heap.size ∧ ∀ j z, l[j]? = some z → w.cell? (ad.add j) = some (f z)) ∧ (A = none → c = 0) := by
  rcases open_slice ht h with ⟨rfl, rfl⟩ | ⟨a, len, cap, m, n, D, Pl, rfl, hb, hl, hm, hmm, rfl, hi⟩
  · exact ⟨none, 0, 0, [], rfl, rfl, Nat.le_refl _, by simp [maxLen], (by intro z hz; cases hz), fun h => by omega, fun _ => rfl⟩
  · obtain ⟨A, n', c', l, e, h1, h2, h3, h4, h5⟩ := open_list ht hce hel h
    injection e with e _
    injection e with e1 e2 e3
    subst e1 e2 e3
    exact ⟨_, _, _, l, rfl, h1, h2, h3, h4, h5, fun h => by cases h⟩
theorem open_intsN {r : Reach} {b0 : Nat} {v : Value} {d : DataW H} {ps : List MemPlace} (hv : Value.okWide Try.prog w r b0 22 v) (h : DataW.Trod enc Try.prog w base sp held 22 v d ps) :
    ∃ (A : Option Addr) (n c : Nat) (l : List Int), v = .slice A n c ∧ n = l.length ∧ n ≤ c ∧ c ≤ maxLen ∧ Nums w A l ∧ (A = none → c = 0) := by
  obtain ⟨a, len, cap, rfl⟩ := okWide_slice Try.underlying22 hv
  obtain ⟨fuel, hf⟩ := h
  obtain ⟨A, n, c, l, e, h1, h2, h3, h4, h5, h6⟩ := open_room Try.underlying22 cells3 elem_int hf
  injection e with e _
  exact ⟨A, n, c, l, e, h1, h2, h3, ⟨h4, fun h0 => h5 (by omega)⟩, h6⟩
end
end Go.Proofs.Ytcilclbolmijfaa
