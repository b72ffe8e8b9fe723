/-
  What the laws' argument that is a list of Values reads as.
-/
import Derived.Test.YtmohcanfkcopiaaDoorOpen
import Derived.Test.YtmohcanfkcopiaaDoorInv
namespace Go.Proofs.YtmohcanfkcopiaaDoor
open Go.ChangeShapes Go.WideShapes Go.RowKit Go.Deep
section
variable {H : Type} {enc : TypeId × Value → H} {w : World} {base : Nat} {sp : Nat → Bool} {held : Bool}

theorem row_of {w : World} {b : Nat} {p : Addr} {v : Val} (hc : w.cells? b p 5 = some v.cells.toList) : RowAt w p v := by
  obtain ⟨_, _, hat⟩ := World.cells?_some hc
  exact ⟨hat 0 (by decide), hat 1 (by decide), hat 2 (by decide), hat 3 (by decide), hat 4 (by decide)⟩
set_option maxRecDepth 100000 in
theorem open_vals {r : Reach} {b0 : Nat} {v : Value} {d : DataW H} {ps : List MemPlace} (hv : Value.okWide Tryd.prog w r b0 43 v) (h : DataW.Trod enc Tryd.prog w base sp held 43 v d ps) :
    ∃ (A : Option Addr) (n c : Nat) (l : List Val), v = .slice A n c ∧ n = l.length ∧ n ≤ c ∧ c ≤ 9223372036854775807 ∧ (∀ z ∈ l, z.ok w) ∧
      (0 < n → ∃ ad, A = some ad ∧ ad.block < w.heap.size ∧ ∀ j z, l[j]? = some z → RowAt w (ad.add (j * 5)) z) := by
  obtain ⟨a, len, cap, rfl⟩ := okWide_slice Tryd.underlying43 hv
  obtain ⟨fuel, hf⟩ := h
  rcases open_slice Tryd.underlying43 hf with ⟨e, _⟩ | ⟨a, len, cap, m, n, D, Pl, e, hb, hl, hm, hmm, _, hi⟩
  · refine ⟨none, 0, 0, [], ?_, rfl, Nat.le_refl _, by decide, (by intro z hz; cases hz), fun h => by omega⟩
    injection e
  · have hlm : len ≤ m := by rw [hmm]; split <;> omega
    obtain ⟨l, hll, hq⟩ := list_of (Q := fun i z => RowAt w (a.add (i * 5)) z ∧ z.ok w) len (fun i hil => by
      obtain ⟨cs', hc, htr⟩ := hi i (by omega)
      obtain ⟨z, rfl, hz⟩ := open_cells htr
      rw [cells45] at hc
      exact ⟨z, row_of hc, hz⟩)
    refine ⟨some a, len, cap, l, ?_, hll, hl, hm, fun z hz => ?_, fun h0 => ⟨a, rfl, ?_, fun j z hz => (hq j z hz).1⟩⟩
    · injection e
    · obtain ⟨j, hj⟩ := List.getElem?_of_mem hz
      exact (hq j z hj).2
    · have h1 : 0 < l.length := by omega
      have h2 := (hq 0 l[0] (List.getElem?_eq_getElem h1)).1.c0
      have h3 := World.block_lt_of_cell? w _ h2
      rwa [add_block] at h3
end
end Go.Proofs.YtmohcanfkcopiaaDoor
