/-
  A key, two numbers, three small numbers, opened to cells.
-/
import Derived.Test.YtecobgjkodmaiaaDoorOpenS
namespace Go.Proofs.YtecobgjkodmaiaaDoor
open Go.ChangeShapes Go.WideShapes Go.RowKit Go.Deep
theorem okWide_array2 {P : Program} {w : World} {r : Reach} {b0 : Nat} {t e : TypeId} {n : Nat} {v : Value} (ht : P.underlying t = some (.array n e)) (h : Value.okWide P w r b0 t v) : ∃ cs : Array Value, v = .agg cs := by
  unfold Value.okWide at h
  rw [ht] at h
  obtain ⟨cs, e, _⟩ := h
  exact ⟨cs, e⟩
section
variable {H : Type} {enc : TypeId × Value → H} {w : World} {base : Nat} {sp : Nat → Bool} {held : Bool}
theorem cells29 : Tryd.prog.cellsOf 29 = 2 := by kernel_rfl
set_option maxRecDepth 100000 in
theorem open_arr29 {r : Reach} {b0 : Nat} {v : Value} {d : DataW H} {ps : List MemPlace} (hv : Value.okWide Tryd.prog w r b0 29 v) (h : DataW.Trod enc Tryd.prog w base sp held 29 v d ps) :
    ∃ a b : Int, v = .agg #[.int .i64 a, .int .i64 b] ∧ i64 a ∧ i64 b := by
  obtain ⟨cs, rfl⟩ := okWide_array2 Tryd.underlying29 hv
  obtain ⟨fuel, hf⟩ := h
  obtain ⟨xs, n, _, _, hlen, hxl, hf⟩ := DataW.trod_array Tryd.underlying29 hf
  rw [cells29] at hlen
  obtain ⟨cs⟩ := cs
  have hcl : (Value.agg ⟨cs⟩).cells.toList = cs := by simp [Value.cells]
  rw [hcl] at hlen hf
  match cs, hlen with
  | [c0, c1], _ =>
    match xs, hxl with
    | [y0, y1], _ =>
      have h0 := hf 0 (by omega)
      have h1 := hf 1 (by omega)
      simp only [List.getElem?_cons_zero, List.getElem?_cons_succ] at h0 h1
      obtain ⟨a, e0, _, k0⟩ := DataW.trod_int Tryd.underlying3 h0
      obtain ⟨b, e1, _, k1⟩ := DataW.trod_int Tryd.underlying3 h1
      injection e0 with e0
      injection e1 with e1
      subst e0 e1
      exact ⟨a, b, rfl, wf64 k0, wf64 k1⟩
theorem cells59 : Tryd.prog.cellsOf 59 = 3 := by kernel_rfl
set_option maxRecDepth 100000 in
theorem open_arr59 {r : Reach} {b0 : Nat} {v : Value} {d : DataW H} {ps : List MemPlace} (hv : Value.okWide Tryd.prog w r b0 59 v) (h : DataW.Trod enc Tryd.prog w base sp held 59 v d ps) :
    ∃ a b c : Int, v = .agg #[.int .u16 a, .int .u16 b, .int .u16 c] ∧ (Lit.int .u16 a).wf = true ∧ (Lit.int .u16 b).wf = true ∧ (Lit.int .u16 c).wf = true := by
  obtain ⟨cs, rfl⟩ := okWide_array2 Tryd.underlying59 hv
  obtain ⟨fuel, hf⟩ := h
  obtain ⟨xs, n, _, _, hlen, hxl, hf⟩ := DataW.trod_array Tryd.underlying59 hf
  rw [cells59] at hlen
  obtain ⟨cs⟩ := cs
  have hcl : (Value.agg ⟨cs⟩).cells.toList = cs := by simp [Value.cells]
  rw [hcl] at hlen hf
  match cs, hlen with
  | [c0, c1, c2], _ =>
    match xs, hxl with
    | [y0, y1, y2], _ =>
      have h0 := hf 0 (by omega)
      have h1 := hf 1 (by omega)
      have h2 := hf 2 (by omega)
      simp only [List.getElem?_cons_zero, List.getElem?_cons_succ] at h0 h1 h2
      obtain ⟨a, e0, _, k0⟩ := DataW.trod_int Tryd.underlying54 h0
      obtain ⟨b, e1, _, k1⟩ := DataW.trod_int Tryd.underlying54 h1
      obtain ⟨c, e2, _, k2⟩ := DataW.trod_int Tryd.underlying54 h2
      injection e0 with e0
      injection e1 with e1
      injection e2 with e2
      subst e0 e1 e2
      exact ⟨a, b, c, rfl, k0, k1, k2⟩
theorem cells28 : Tryd.prog.cellsOf 28 = 4 := by kernel_rfl
set_option maxRecDepth 100000 in
theorem open_key {r : Reach} {b0 : Nat} {v : Value} {d : DataW H} {ps : List MemPlace} (hv : Value.okWide Tryd.prog w r b0 28 v) (h : DataW.Trod enc Tryd.prog w base sp held 28 v d ps) :
    ∃ (id frm stl : Int) (sec : List UInt8), v = .agg #[.int .i64 id, .string ⟨sec.toArray⟩, .int .i64 frm, .int .i64 stl] ∧ i64 id ∧ i64 frm ∧ i64 stl := by
  obtain ⟨cs, rfl, hsz⟩ := okWide_struct Tryd.underlying28 hv
  obtain ⟨fuel, hf⟩ := h
  obtain ⟨xs, n, _, _, hlen, hxl, hf⟩ := DataW.trod_struct Tryd.underlying28 hf
  rw [cells28] at hlen
  obtain ⟨cs⟩ := cs
  have hcl : (Value.agg ⟨cs⟩).cells.toList = cs := by simp [Value.cells]
  rw [hcl] at hlen hf
  match cs, hlen with
  | [c0, c1, c2, c3], _ =>
    simp only [List.size_toArray, List.length_cons, List.length_nil] at hxl
    match xs, hxl with
    | [y0, y1, y2, y3], _ =>
      obtain ⟨id, e0, h0⟩ := elem_int _ _ _ (hf 0 _ rfl)
      obtain ⟨sec, e1⟩ := elem_str _ _ _ (hf 1 _ rfl)
      obtain ⟨frm, e2, h2⟩ := elem_int _ _ _ (hf 2 _ rfl)
      obtain ⟨stl, e3, h3⟩ := elem_int _ _ _ (hf 3 _ rfl)
      have f0 : [c0] = [Value.int .i64 id] := e0
      have f1 : [c1] = [Value.string ⟨sec.toArray⟩] := e1
      have f2 : [c2] = [Value.int .i64 frm] := e2
      have f3 : [c3] = [Value.int .i64 stl] := e3
      injection f0 with g0
      injection f1 with g1
      injection f2 with g2
      injection f3 with g3
      subst g0 g1 g2 g3
      exact ⟨id, frm, stl, sec, rfl, h0, h2, h3⟩
end
end Go.Proofs.YtecobgjkodmaiaaDoor
