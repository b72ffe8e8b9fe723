/-
  Nodes in a slice that the program owns.
-/
import Derived.Test.YtljjmoeplfcblaaAdd
namespace Go.Proofs.Ytljjmoeplfcblaa
open Go.RowKit Go.Shelf

def ndc (n : Nd) : List Value := [.int .i64 n.b, .int .i64 n.s, .string ⟨n.d.toArray⟩]
def ndcs (l : List Nd) : List Value := l.flatMap ndc
theorem ndcs_len (l : List Nd) : (ndcs l).length = l.length * 3 := by
  induction l with
  | nil => rfl
  | cons a l ih => simp only [ndcs, List.flatMap_cons, List.length_append, List.length_cons] at ih ⊢; rw [ih]; simp [ndc]; omega
theorem ndcs_snoc (l : List Nd) (a : Nd) : ndcs (l ++ [a]) = ndcs l ++ ndc a := by simp [ndcs]
/-- a node at the place k of a row -/
structure NdAt (w : World) (g k : Nat) (a : Nd) : Prop where
  c0 : w.cell? ⟨g, k * 3, none⟩ = some (.int .i64 a.b)
  c1 : w.cell? ⟨g, k * 3 + 1, none⟩ = some (.int .i64 a.s)
  c2 : w.cell? ⟨g, k * 3 + 2, none⟩ = some (.string ⟨a.d.toArray⟩)
theorem own_last {w : World} {base : Nat} {v : Value} {r : List Nd} {a : Nd} (h : w.ownsRow base 77 3 v (r.length + 1) (ndcs (r.reverse ++ [a]))) :
    ∃ g cap, v = .slice (some ⟨g, 0, none⟩) (r.length + 1) cap ∧ base ≤ g ∧ g < w.heap.size ∧ r.length + 1 ≤ cap ∧ cap ≤ maxLen ∧ NdAt w g r.length a ∧ (∃ cs, w.heap[g]? = some (.cells cs 77 (0, 0))) ∧
      w.ownsRow base 77 3 (.slice (some ⟨g, 0, none⟩) r.length cap) r.length (ndcs r.reverse) := by
  rcases h.2 with ⟨_, h0⟩ | ⟨g, cap, cur, rfl, hb, hg, h1, h2, h3, h4⟩
  · omega
  · have hl : (ndcs r.reverse).length = r.length * 3 := by rw [ndcs_len, List.length_reverse]
    rw [ndcs_snoc] at h4
    have hc : ∀ q x, (ndc a)[q]? = some x → w.cell? ⟨g, r.length * 3 + q, none⟩ = some x := fun q x hx => by
      have : (ndcs r.reverse ++ ndc a)[r.length * 3 + q]? = some x := by
        rw [List.getElem?_append_right (by omega), hl, Nat.add_sub_cancel_left]
        exact hx
      rw [← h4, List.getElem?_take] at this
      split at this
      · simpa [World.cell?, hg] using this
      · cases this
    refine ⟨g, cap, rfl, hb, (Array.getElem?_eq_some_iff.1 hg).1, h1, h2, ⟨hc 0 _ rfl, hc 1 _ rfl, hc 2 _ rfl⟩, ⟨cur, hg⟩, hl, .inr ⟨g, cap, cur, rfl, hb, hg, by omega, h2, h3, ?_⟩⟩
    have := congrArg (List.take (r.length * 3)) h4
    rw [List.take_take, Nat.min_eq_left (by omega), List.take_append_of_le_length (Nat.le_of_eq hl.symm), List.take_of_length_le (Nat.le_of_eq hl)] at this
    exact this
end Go.Proofs.Ytljjmoeplfcblaa
