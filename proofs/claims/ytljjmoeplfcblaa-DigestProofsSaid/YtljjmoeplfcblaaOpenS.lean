/-
  What the laws' list arguments read as, opened to cells.
-/
import Derived.Test.YtljjmoeplfcblaaLaid
import Derived.Test.YtljjmoeplfcblaaSum
import Derived.Deep.Slices
import Derived.DataShut
namespace Go.Proofs.Ytljjmoeplfcblaa
open Go.ChangeShapes Go.WideShapes Go.RowKit Go.Deep
theorem list_of {α : Type} {Q : Nat → α → Prop} : ∀ n, (∀ i, i < n → ∃ x, Q i x) → ∃ l : List α, n = l.length ∧ ∀ j x, l[j]? = some x → Q j x := by
  intro n
  induction n with
  | zero => intro _; exact ⟨[], rfl, fun j x h => by simp at h⟩
  | succ n ih =>
    intro h
    obtain ⟨l, hl, hq⟩ := ih (fun i hi => h i (by omega))
    obtain ⟨x, hx⟩ := h n (by omega)
    refine ⟨l ++ [x], by simp; omega, fun j y hy => ?_⟩
    rcases Nat.lt_or_ge j l.length with hj | hj
    · rw [List.getElem?_append_left hj] at hy
      exact hq j y hy
    · rw [List.getElem?_append_right hj] at hy
      obtain ⟨k, hk⟩ : ∃ k, j - l.length = k := ⟨_, rfl⟩
      rw [hk] at hy
      match k, hk with
      | 0, hk =>
        simp at hy
        subst hy
        obtain rfl : j = n := by omega
        exact hx
      | k + 1, _ => simp at hy
section
variable {H : Type} {enc : TypeId × Value → H} {w : World} {base : Nat} {sp : Nat → Bool} {held : Bool}
/-- a slice of strings of whatever lengths -/
structure Raw (w : World) (A : Option Addr) (n c : Nat) (l : List (List UInt8)) : Prop where
  len : n = l.length
  le : n ≤ c
  cap : c ≤ maxLen
  sl : ∀ s ∈ l, s.length ≤ 9223372036854775807
  cell : 0 < n → ∃ ad, A = some ad ∧ ad.block < w.heap.size ∧ ∀ j s, l[j]? = some s → w.cell? (ad.add j) = some (.string ⟨s.toArray⟩)
theorem cells9 : Try.prog.cellsOf 9 = 1 := by kernel_rfl
theorem open_rawl {fuel : Nat} {cs : List Value} {x : DataW H × List MemPlace} (h : DataW.trod enc Try.prog w base sp held fuel 29 cs = some x) :
    ∃ (A : Option Addr) (n c : Nat) (l : List (List UInt8)), cs = [.slice A n c] ∧ Raw w A n c l := by
  rcases open_slice Try.underlying29 h with ⟨rfl, rfl⟩ | ⟨a, len, cap, m, n, D, Pl, rfl, hb, hl, hm, hmm, rfl, hi⟩
  · exact ⟨none, 0, 0, [], rfl, rfl, Nat.le_refl _, by decide, (by intro z hz; cases hz), fun h => by omega⟩
  · have hlm : len ≤ m := by rw [hmm]; split <;> omega
    obtain ⟨l, hll, hq⟩ := list_of (Q := fun i (z : List UInt8) => w.cell? (a.add i) = some (.string ⟨z.toArray⟩) ∧ z.length ≤ 9223372036854775807) len (fun i hil => by
      obtain ⟨cs', hc, htr⟩ := hi i (by omega)
      obtain ⟨⟨⟨z⟩⟩, rfl, _, hw⟩ := DataW.trod_string Try.underlying9 htr
      rw [cells9, Nat.mul_one] at hc
      obtain ⟨_, hcl, hat⟩ := World.cells?_some hc
      have h0 := hat 0 (by omega)
      have e0 : (a.add i).add 0 = a.add i := by simp [Addr.add]
      rw [e0] at h0
      exact ⟨z, by simpa using h0, by simpa [ByteArray.size, maxLen] using hw⟩)
    refine ⟨some a, len, cap, l, rfl, hll, hl, hm, fun z hz => ?_, fun h0 => ⟨a, rfl, ?_, fun j z hz => (hq j z hz).1⟩⟩
    · obtain ⟨j, hj⟩ := List.getElem?_of_mem hz
      exact (hq j z hj).2
    · have h1 : 0 < l.length := by omega
      have h2 := (hq 0 l[0] (List.getElem?_eq_getElem h1)).1
      have h3 := World.block_lt_of_cell? w _ h2
      rwa [add_block] at h3
theorem open_raw {r : Reach} {b0 : Nat} {v : Value} {d : DataW H} {ps : List MemPlace} (hv : Value.okWide Try.prog w r b0 29 v) (h : DataW.Trod enc Try.prog w base sp held 29 v d ps) :
    ∃ (A : Option Addr) (n c : Nat) (l : List (List UInt8)), v = .slice A n c ∧ Raw w A n c l := by
  obtain ⟨a, len, cap, rfl⟩ := okWide_slice Try.underlying29 hv
  obtain ⟨fuel, hf⟩ := h
  obtain ⟨A, n, c, l, hx, ho⟩ := open_rawl hf
  refine ⟨A, n, c, l, ?_, ho⟩
  simpa [Value.cells] using hx
end
end Go.Proofs.Ytljjmoeplfcblaa
