/-
  A block whose cells are known.
-/
import Derived.Test.YtcilclbolmijfaaOrder
import Derived.Deep.CutBlock
namespace Go.Proofs.Ytcilclbolmijfaa
open Go.RowKit
def Row (w : World) (B : Nat) (t : TypeId) (vs : Array Value) : Prop := w.heap[B]? = some (.cells vs t (0, 0))
theorem Row.c {w : World} {B : Nat} {t : TypeId} {vs : Array Value} (h : Row w B t vs) (i : Nat) {v : Value} (e : vs[i]? = some v) : w.cell? ⟨B, i, none⟩ = some v := by unfold Row at h; simp [World.cell?, h, e]
theorem Row.fz {w : World} {B : Nat} {t : TypeId} {vs : Array Value} (h : Row w B t vs) (i : Nat) : w.frozen? ⟨B, i, none⟩ = false := by unfold Row at h; simp [World.frozen?, h]
theorem Row.lt {w : World} {B : Nat} {t : TypeId} {vs : Array Value} (h : Row w B t vs) : B < w.heap.size := by
  rcases Nat.lt_or_ge B w.heap.size with hlt | hge
  · exact hlt
  · unfold Row at h; rw [Array.getElem?_eq_none hge] at h; cases h
theorem Row.kept {w w' : World} {B : Nat} {t : TypeId} {vs : Array Value} (h : Row w B t vs) (hg : w.grownBy w' none) : Row w' B t vs := (hg.block B h.lt (by simp)).trans h
theorem Row.new (w : World) (t : TypeId) (vs : Array Value) : Row (w.alloc (.cells vs t)) w.heap.size t vs := World.alloc_heap_new w _
theorem Row.far {w : World} {b o i : Nat} {v : Value} {t : TypeId} {vs : Array Value} (h : Row w b t vs) (hne : b ≠ o) : Row (w.setCell ⟨o, i, none⟩ v) b t vs :=
  ((grown_setCell w o i v).block b h.lt (by simpa using hne)).trans h
theorem row_of (w : World) (t : TypeId) (vs : Array Value) : ∃ w1, w1 = w.alloc (.cells vs t) ∧ Row w1 w.heap.size t vs ∧ w.grownBy w1 none := ⟨_, rfl, Row.new w t vs, World.grownBy_alloc _ _ none⟩
theorem Row.set {w : World} {B : Nat} {t : TypeId} {vs : Array Value} (h : Row w B t vs) (i : Nat) (v : Value) : Row (w.setCell ⟨B, i, none⟩ v) B t (vs.setIfInBounds i v) := by
  unfold Row at h ⊢
  simp [World.setCell, Array.getElem?_modify, h]
end Go.Proofs.Ytcilclbolmijfaa
