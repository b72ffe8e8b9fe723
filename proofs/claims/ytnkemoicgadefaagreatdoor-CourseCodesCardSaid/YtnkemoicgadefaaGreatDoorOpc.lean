/-
  A change of a text, as it comes, opened to cells.
-/
import Derived.Test.YtnkemoicgadefaaGreatDoorOpo
namespace Go.Proofs.YtnkemoicgadefaaGreatDoor
open Go.RowKit
open Go.ChangeShapes Go.WideShapes Go.Deep
section
variable {H : Type} {enc : TypeId × Value → H} {w : World} {base : Nat} {sp : Nat → Bool} {held : Bool}
theorem elem_u16 : ∀ n cs x, DataW.trod enc Tryz.prog w base sp held n 24 cs = some x → ∃ z : Int, cs = [.int .u16 z] ∧ 0 ≤ z ∧ z < 65536 := by
  intro n cs x h
  obtain ⟨z, rfl, _, hw⟩ := DataW.trod_int Tryz.underlying24 h
  have hb : 0 ≤ z ∧ z ≤ 65535 := (Lit.wf_int_iff _ _).1 hw
  exact ⟨z, rfl, hb.1, by omega⟩
theorem cells26 : Tryz.prog.cellsOf 26 = 3 := by kernel_rfl
set_option maxRecDepth 100000 in
theorem open_change {r : Reach} {b0 : Nat} {v : Value} {d : DataW H} {ps : List MemPlace} (hv : Value.okWide Tryz.prog w r b0 26 v) (h : DataW.Trod enc Tryz.prog w base sp held 26 v d ps) :
    ∃ (a x : Int) (t : Str), v = .agg #[.int .u16 a, .int .u8 x, .string ⟨t.toArray⟩] ∧ 0 ≤ a ∧ a < 65536 ∧ 0 ≤ x ∧ x < 256 ∧ t.length ≤ 9223372036854775807 := by
  obtain ⟨cs, rfl, _⟩ := okWide_struct Tryz.underlying26 hv
  obtain ⟨fuel, hf⟩ := h
  obtain ⟨cs⟩ := cs
  have hcl : (Value.agg ⟨cs⟩).cells.toList = cs := by simp [Value.cells]
  rw [hcl] at hf
  obtain ⟨xs, n, _, _, hlen, hxl, hg⟩ := DataW.trod_struct Tryz.underlying26 hf
  rw [cells26] at hlen
  match cs, hlen with
  | [c0, c1, c2], _ =>
    simp only [List.size_toArray, List.length_cons, List.length_nil] at hxl
    match xs, hxl with
    | [y0, y1, y2], _ =>
      obtain ⟨a, e0, h0, h1⟩ := elem_u16 _ _ _ (hg 0 _ rfl)
      obtain ⟨x, e1, h2, h3⟩ := elem_u8 _ _ _ (hg 1 _ rfl)
      obtain ⟨t, e2, h4⟩ := elem_str _ _ _ (hg 2 _ rfl)
      have f0 : [c0] = [Value.int .u16 a] := e0
      have f1 : [c1] = [Value.int .u8 x] := e1
      have f2 : [c2] = [Value.string ⟨t.toArray⟩] := e2
      injection f0 with f0
      injection f1 with f1
      injection f2 with f2
      subst f0 f1 f2
      exact ⟨a, x, t, rfl, h0, h1, h2, h3, h4⟩
end
end Go.Proofs.YtnkemoicgadefaaGreatDoor
