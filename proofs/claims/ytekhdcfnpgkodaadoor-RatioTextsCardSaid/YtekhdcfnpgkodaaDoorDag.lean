/-
  Words for regions that draw their order, and for arrays.
-/
import Derived.Test.YtekhdcfnpgkodaaDoorSane
import Derived.Test.YtekhdcfnpgkodaaDoorRndG
import Derived.Deep.RegionHeld3
namespace Go.Proofs.YtekhdcfnpgkodaaDoor
open Go.RowKit
theorem name_them {P : Program} {md : Region.Mode} {ops : Array Oper} {Q : Exit → Act → World → Prop} {S : World → Prop} {fuel : Nat} {listed : Array Bool} {a : Act} {w : World}
    (h : ∀ (ops' : Array Oper) (Q' : Exit → Act → World → Prop) (a' : Act), ops' = ops → Q' = Q → a' = a → wpAnyH P md ops' Q' S fuel listed a' w) : wpAnyH P md ops Q S fuel listed a w := h _ _ _ rfl rfl rfl
/-- an array of five numbers at block b -/
def A5 (w : World) (b : Nat) (f : Nat → Int) : Prop := w.heap[b]? = some (.cells #[.int .i64 (f 0), .int .i64 (f 1), .int .i64 (f 2), .int .i64 (f 3), .int .i64 (f 4)] 52 (0, 0))
theorem A5.c {w : World} {b : Nat} {f : Nat → Int} (h : A5 w b f) (j : Nat) (hj : j < 5) : w.cell? ⟨b, j, none⟩ = some (.int .i64 (f j)) := by
  unfold A5 at h
  rcases (show j = 0 ∨ j = 1 ∨ j = 2 ∨ j = 3 ∨ j = 4 by omega) with rfl | rfl | rfl | rfl | rfl <;> simp [World.cell?, h]
theorem A5.f {w : World} {b : Nat} {f : Nat → Int} (h : A5 w b f) (j : Nat) : w.frozen? ⟨b, j, none⟩ = false := by unfold A5 at h; simp [World.frozen?, h]
theorem A5.lt {w : World} {b : Nat} {f : Nat → Int} (h : A5 w b f) : b < w.heap.size := by
  rcases Nat.lt_or_ge b w.heap.size with hlt | hge
  · exact hlt
  · unfold A5 at h; rw [Array.getElem?_eq_none hge] at h; cases h
theorem A5.kept {w w' : World} {b : Nat} {f : Nat → Int} (h : A5 w b f) (hg : w.grownBy w' none) : A5 w' b f := (hg.block b h.lt (by simp)).trans h
theorem A5.far {w : World} {b o i : Nat} {v : Value} {f : Nat → Int} (h : A5 w b f) (hne : b ≠ o) : A5 (w.setCell ⟨o, i, none⟩ v) b f :=
  ((grown_setCell w o i v).block b h.lt (by simpa using hne)).trans h
theorem A5.new (w : World) : A5 (w.alloc (.cells #[.int .i64 0, .int .i64 0, .int .i64 0, .int .i64 0, .int .i64 0] 52)) w.heap.size (fun _ => 0) := World.alloc_heap_new w _
theorem A5.set {w : World} {b : Nat} {f : Nat → Int} (h : A5 w b f) (k : Nat) (hk : k < 5) (v : Int) : A5 (w.setCell ⟨b, k, none⟩ (.int .i64 v)) b (fun j => if j = k then v else f j) := by
  unfold A5 at h ⊢
  rcases (show k = 0 ∨ k = 1 ∨ k = 2 ∨ k = 3 ∨ k = 4 by omega) with rfl | rfl | rfl | rfl | rfl <;> simp [World.setCell, Array.getElem?_modify, h]
end Go.Proofs.YtekhdcfnpgkodaaDoor
