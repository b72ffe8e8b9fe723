/-
  Numbers, three numbers, twice three numbers, opened to cells.
-/
import Derived.Test.YtnkemoicgadefaaGreatDoorOpn
namespace Go.Proofs.YtnkemoicgadefaaGreatDoor
open Go.RowKit
open Go.ChangeShapes Go.WideShapes Go.Deep
theorem wf64 {z : Int} (h : (Lit.int .i64 z).wf = true) : i64 z := (Lit.wf_int_iff _ _).1 h
section
variable {H : Type} {enc : TypeId × Value → H} {w : World} {base : Nat} {sp : Nat → Bool} {held : Bool}
theorem elem_int : ∀ n cs x, DataW.trod enc Tryz.prog w base sp held n 3 cs = some x → ∃ z : Int, cs = [.int .i64 z] ∧ i64 z := by
  intro n cs x h
  obtain ⟨z, rfl, _, hw⟩ := DataW.trod_int Tryz.underlying3 h
  exact ⟨z, rfl, wf64 hw⟩
theorem cells3 : Tryz.prog.cellsOf 3 = 1 := by kernel_rfl
theorem open_il {fuel : Nat} {cs : List Value} {x : DataW H × List MemPlace} (h : DataW.trod enc Tryz.prog w base sp held fuel 22 cs = some x) :
    ∃ (A : Option Addr) (n c : Nat) (l : List Int), cs = [.slice A n c] ∧ Ints w A n c l := by
  obtain ⟨A, n, c, l, e, h1, h2⟩ := open_list (f := Value.int .i64) Tryz.underlying22 cells3 (fun _ => rfl) elem_int h
  exact ⟨A, n, c, l, e, ⟨h2, h1⟩⟩
set_option maxRecDepth 100000 in
theorem open_ints {r : Reach} {b0 : Nat} {v : Value} {d : DataW H} {ps : List MemPlace} (hv : Value.okWide Tryz.prog w r b0 22 v) (h : DataW.Trod enc Tryz.prog w base sp held 22 v d ps) :
    ∃ (A : Option Addr) (n c : Nat) (l : List Int), v = .slice A n c ∧ Ints w A n c l := by
  obtain ⟨a, len, cap, rfl⟩ := okWide_slice Tryz.underlying22 hv
  obtain ⟨fuel, hf⟩ := h
  obtain ⟨A, n, c, l, e, h1⟩ := open_il hf
  injection e with e _
  exact ⟨A, n, c, l, e, h1⟩
end
end Go.Proofs.YtnkemoicgadefaaGreatDoor
