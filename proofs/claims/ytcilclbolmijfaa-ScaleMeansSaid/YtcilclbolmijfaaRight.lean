/-
  Right ratios, of the program and of the reference, by their contracts; words for worlds.
-/
import Derived.Test.YtcilclbolmijfaaNum
import Derived.Laws.Tables
import Derived.Laws.Rows
import Derived.Maps.RangeWalk
import Derived.Maps.AppendAt
import Derived.Maps.Range
namespace Go.Proofs.Ytcilclbolmijfaa
open Go.RowKit
theorem grown_al {a w : World} {o : Obj} (h : a.grownBy w none) : a.grownBy (w.alloc o) none := h.trans (World.grownBy_alloc w o none)
theorem grown_dr {a w : World} (h : a.grownBy w none) : a.grownBy w.drew none := ⟨h.os, h.tape, h.output, h.size, h.block⟩
theorem grown_drewN (w : World) (k : Nat) (row : Option Nat) : w.grownBy (w.drewN k) row := ⟨rfl, rfl, rfl, Nat.le_refl _, fun _ _ _ => rfl⟩
theorem grown_dn {a w : World} {k : Nat} (h : a.grownBy w none) : a.grownBy (w.drewN k) none := h.trans (grown_drewN _ _ _)
theorem gcell {w w' : World} {a : Addr} {v : Value} (h : w.grownBy w' none) (c : w.cell? a = some v) : w'.cell? a = some v := h.cell c (by simp)
theorem cell_at {w : World} {b i : Nat} {cs : Array Value} {t : TypeId} (h : b = w.heap.size) : (w.alloc (.cells cs t)).cell? ⟨b, i, none⟩ = cs[i]? := by
  subst h; exact World.cell?_alloc_new ..
theorem grown_refl (w : World) : w.grownBy w none := ⟨rfl, rfl, rfl, Nat.le_refl _, fun _ _ _ => rfl⟩
theorem grown_setCell (w : World) (b i : Nat) (v : Value) : w.grownBy (w.setCell ⟨b, i, none⟩ v) (some b) :=
  ⟨rfl, rfl, rfl, by simp [World.setCell], fun k _ hne => Below.heap_setCell w _ v k (by rintro rfl; exact hne rfl)⟩
theorem grown_set {a x : World} {row : Option Nat} {o i : Nat} {v : Value} (h : a.grownBy x row) (ho : a.heap.size ≤ o ∨ row = some o) : a.grownBy (x.setCell ⟨o, i, none⟩ v) row :=
  h.andThen (grown_setCell x o i v) (by rintro j ⟨⟩; exact ho)
end Go.Proofs.Ytcilclbolmijfaa
