/-
  A seal, opened to cells.
-/
import Derived.Test.YtecobgjkodmaiaaDoorOpen
namespace Go.Proofs.YtecobgjkodmaiaaDoor
open Go.ChangeShapes Go.WideShapes Go.RowKit Go.Deep
section
variable {H : Type} {enc : TypeId × Value → H} {w : World} {base : Nat} {sp : Nat → Bool} {held : Bool}
theorem elem_str : ∀ n cs x, DataW.trod enc Tryd.prog w base sp held n 9 cs = some x → ∃ z : List UInt8, cs = [.string ⟨z.toArray⟩] := by
  intro n cs x h
  obtain ⟨⟨⟨z⟩⟩, rfl, _, hw⟩ := DataW.trod_string Tryd.underlying9 h
  exact ⟨z, rfl⟩
theorem cells47 : Tryd.prog.cellsOf 47 = 5 := by kernel_rfl
set_option maxRecDepth 100000 in
theorem open_seal {r : Reach} {b0 : Nat} {v : Value} {d : DataW H} {ps : List MemPlace} (hv : Value.okWide Tryd.prog w r b0 47 v) (h : DataW.Trod enc Tryd.prog w base sp held 47 v d ps) :
    ∃ (tx mk : List UInt8) (id day seen : Int), v = .agg #[.string ⟨tx.toArray⟩, .string ⟨mk.toArray⟩, .int .i64 id, .int .i64 day, .int .i64 seen] ∧ i64 id ∧ i64 day ∧ i64 seen := by
  obtain ⟨cs, rfl, hsz⟩ := okWide_struct Tryd.underlying47 hv
  obtain ⟨fuel, hf⟩ := h
  obtain ⟨xs, n, _, _, hlen, hxl, hf⟩ := DataW.trod_struct Tryd.underlying47 hf
  rw [cells47] at hlen
  obtain ⟨cs⟩ := cs
  have hcl : (Value.agg ⟨cs⟩).cells.toList = cs := by simp [Value.cells]
  rw [hcl] at hlen hf
  match cs, hlen with
  | [c0, c1, c2, c3, c4], _ =>
    simp only [List.size_toArray, List.length_cons, List.length_nil] at hxl
    match xs, hxl with
    | [y0, y1, y2, y3, y4], _ =>
      obtain ⟨tx, e0⟩ := elem_str _ _ _ (hf 0 _ rfl)
      obtain ⟨mk, e1⟩ := elem_str _ _ _ (hf 1 _ rfl)
      obtain ⟨id, e2, h2⟩ := elem_int _ _ _ (hf 2 _ rfl)
      obtain ⟨day, e3, h3⟩ := elem_int _ _ _ (hf 3 _ rfl)
      obtain ⟨seen, e4, h4⟩ := elem_int _ _ _ (hf 4 _ rfl)
      have f0 : [c0] = [Value.string ⟨tx.toArray⟩] := e0
      have f1 : [c1] = [Value.string ⟨mk.toArray⟩] := e1
      have f2 : [c2] = [Value.int .i64 id] := e2
      have f3 : [c3] = [Value.int .i64 day] := e3
      have f4 : [c4] = [Value.int .i64 seen] := e4
      injection f0 with g0
      injection f1 with g1
      injection f2 with g2
      injection f3 with g3
      injection f4 with g4
      subst g0 g1 g2 g3 g4
      exact ⟨tx, mk, id, day, seen, rfl, h2, h3, h4⟩
end
end Go.Proofs.YtecobgjkodmaiaaDoor
