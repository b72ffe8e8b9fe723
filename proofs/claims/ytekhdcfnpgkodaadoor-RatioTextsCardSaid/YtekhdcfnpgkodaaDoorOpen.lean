/-
  What the laws' arguments read as, opened to cells.
-/
import Derived.Test.YtekhdcfnpgkodaaDoorLaid
import Derived.Deep.Slices
import Derived.DataShut
namespace Go.Proofs.YtekhdcfnpgkodaaDoor
open Go.ChangeShapes Go.WideShapes Go.RowKit Go.Deep
section
variable {H : Type} {enc : TypeId × Value → H} {w : World} {base : Nat} {sp : Nat → Bool} {held : Bool}
theorem elem_int : ∀ n cs x, DataW.trod enc Tryd.prog w base sp held n 3 cs = some x → ∃ z : Int, cs = [.int .i64 z] ∧ i64 z := by
  intro n cs x h
  obtain ⟨z, rfl, _, hw⟩ := DataW.trod_int Tryd.underlying3 h
  exact ⟨z, rfl, (Lit.wf_int_iff _ _).1 hw⟩
theorem cells3 : Tryd.prog.cellsOf 3 = 1 := by kernel_rfl
theorem cells48 : Tryd.prog.cellsOf 48 = 2 := by kernel_rfl
theorem cells51 : Tryd.prog.cellsOf 51 = 4 := by kernel_rfl
theorem cells49 : Tryd.prog.cellsOf 49 = 6 := by kernel_rfl
theorem cells24 : Tryd.prog.cellsOf 24 = 2 := by kernel_rfl
theorem cells22 : Tryd.prog.cellsOf 22 = 4 := by kernel_rfl
theorem cells26 : Tryd.prog.cellsOf 26 = 8 := by kernel_rfl
theorem open_pair {fuel : Nat} {cs : List Value} {x : DataW H × List MemPlace} (h : DataW.trod enc Tryd.prog w base sp held fuel 48 cs = some x) : ∃ a b : Int, cs = [.int .i64 a, .int .i64 b] ∧ i64 a ∧ i64 b := by
  obtain ⟨xs, n, _, _, hlen, hxl, hf⟩ := DataW.trod_array Tryd.underlying48 h
  rw [cells48] at hlen
  rw [cells3] at hf
  match cs, hlen with
  | [c0, c1], _ =>
    match xs, hxl with
    | [y0, y1], _ =>
      obtain ⟨a, e0, ha⟩ := elem_int _ _ _ (hf 0 (by omega))
      obtain ⟨b, e1, hb⟩ := elem_int _ _ _ (hf 1 (by omega))
      have f0 : [c0] = [Value.int .i64 a] := e0
      have f1 : [c1] = [Value.int .i64 b] := e1
      injection f0 with f0
      injection f1 with f1
      subst f0 f1
      exact ⟨a, b, rfl, ha, hb⟩
set_option maxRecDepth 100000 in
theorem open_four {fuel : Nat} {cs : List Value} {x : DataW H × List MemPlace} (h : DataW.trod enc Tryd.prog w base sp held fuel 22 cs = some x) : ∃ a b c d : Int, cs = [.int .i64 a, .int .i64 b, .int .i64 c, .int .i64 d] ∧ i64 a ∧ i64 b ∧ i64 c ∧ i64 d := by
  obtain ⟨xs, n, _, _, hlen, hxl, hf⟩ := DataW.trod_array Tryd.underlying22 h
  rw [cells22] at hlen
  rw [cells3] at hf
  match cs, hlen with
  | [c0, c1, c2, c3], _ =>
    match xs, hxl with
    | [y0, y1, y2, y3], _ =>
      obtain ⟨a, e0, ha⟩ := elem_int _ _ _ (hf 0 (by omega))
      obtain ⟨b, e1, hb⟩ := elem_int _ _ _ (hf 1 (by omega))
      obtain ⟨c, e2, hc⟩ := elem_int _ _ _ (hf 2 (by omega))
      obtain ⟨d, e3, hd⟩ := elem_int _ _ _ (hf 3 (by omega))
      have f0 : [c0] = [Value.int .i64 a] := e0
      have f1 : [c1] = [Value.int .i64 b] := e1
      have f2 : [c2] = [Value.int .i64 c] := e2
      have f3 : [c3] = [Value.int .i64 d] := e3
      injection f0 with f0
      injection f1 with f1
      injection f2 with f2
      injection f3 with f3
      subst f0 f1 f2 f3
      exact ⟨a, b, c, d, rfl, ha, hb, hc, hd⟩
set_option maxRecDepth 100000 in
theorem open_ratio {fuel : Nat} {cs : List Value} {x : DataW H × List MemPlace} (h : DataW.trod enc Tryd.prog w base sp held fuel 24 cs = some x) : ∃ a b : Int, cs = [.int .i64 a, .int .i64 b] ∧ i64 a ∧ i64 b := by
  obtain ⟨xs, n, _, _, hlen, hxl, hf⟩ := DataW.trod_struct Tryd.underlying24 h
  rw [cells24] at hlen
  match cs, hlen with
  | [c0, c1], _ =>
    simp only [List.size_toArray, List.length_cons, List.length_nil] at hxl
    match xs, hxl with
    | [y0, y1], _ =>
      obtain ⟨a, e0, ha⟩ := elem_int _ _ _ (hf 0 _ rfl)
      obtain ⟨b, e1, hb⟩ := elem_int _ _ _ (hf 1 _ rfl)
      have f0 : [c0] = [Value.int .i64 a] := e0
      have f1 : [c1] = [Value.int .i64 b] := e1
      injection f0 with f0
      injection f1 with f1
      subst f0 f1
      exact ⟨a, b, rfl, ha, hb⟩
set_option maxRecDepth 100000 in
theorem okWide_51 {r : Reach} {b0 : Nat} {v : Value} (h : Value.okWide Tryd.prog w r b0 51 v) : ∃ cs : Array Value, v = .agg cs := by
  simp only [Value.okWide, Tryd.underlying51] at h
  obtain ⟨cs, h1, _⟩ := h
  exact ⟨cs, h1⟩
set_option maxRecDepth 100000 in
theorem okWide_49 {r : Reach} {b0 : Nat} {v : Value} (h : Value.okWide Tryd.prog w r b0 49 v) : ∃ cs : Array Value, v = .agg cs := by
  simp only [Value.okWide, Tryd.underlying49] at h
  obtain ⟨cs, h1, _⟩ := h
  exact ⟨cs, h1⟩
set_option maxRecDepth 100000 in
theorem open_two {r : Reach} {b0 : Nat} {v : Value} {d : DataW H} {ps : List MemPlace} (hv : Value.okWide Tryd.prog w r b0 51 v) (h : DataW.Trod enc Tryd.prog w base sp held 51 v d ps) :
    ∃ a b c d : Int, v = .agg #[.int .i64 a, .int .i64 b, .int .i64 c, .int .i64 d] := by
  obtain ⟨cs, rfl⟩ := okWide_51 hv
  obtain ⟨fuel, hf⟩ := h
  obtain ⟨xs, n, _, _, hlen, hxl, hf⟩ := DataW.trod_array Tryd.underlying51 hf
  rw [cells51] at hlen
  rw [cells48] at hf
  obtain ⟨cs⟩ := cs
  have hcl : (Value.agg ⟨cs⟩).cells.toList = cs := by simp [Value.cells]
  rw [hcl] at hlen hf
  match cs, hlen with
  | [c0, c1, c2, c3], _ =>
    match xs, hxl with
    | [y0, y1], _ =>
      obtain ⟨a, b, e0, _⟩ := open_pair (hf 0 (by omega))
      obtain ⟨c, d, e1, _⟩ := open_pair (hf 1 (by omega))
      have f0 : [c0, c1] = [Value.int .i64 a, .int .i64 b] := e0
      have f1 : [c2, c3] = [Value.int .i64 c, .int .i64 d] := e1
      injection f0 with g0 f0
      injection f0 with g1 f0
      injection f1 with g2 f1
      injection f1 with g3 f1
      subst g0 g1 g2 g3
      exact ⟨a, b, c, d, rfl⟩
set_option maxRecDepth 100000 in
theorem open_three {r : Reach} {b0 : Nat} {v : Value} {d : DataW H} {ps : List MemPlace} (hv : Value.okWide Tryd.prog w r b0 49 v) (h : DataW.Trod enc Tryd.prog w base sp held 49 v d ps) :
    ∃ a b c d e f : Int, v = .agg #[.int .i64 a, .int .i64 b, .int .i64 c, .int .i64 d, .int .i64 e, .int .i64 f] := by
  obtain ⟨cs, rfl⟩ := okWide_49 hv
  obtain ⟨fuel, hf⟩ := h
  obtain ⟨xs, n, _, _, hlen, hxl, hf⟩ := DataW.trod_array Tryd.underlying49 hf
  rw [cells49] at hlen
  rw [cells48] at hf
  obtain ⟨cs⟩ := cs
  have hcl : (Value.agg ⟨cs⟩).cells.toList = cs := by simp [Value.cells]
  rw [hcl] at hlen hf
  match cs, hlen with
  | [c0, c1, c2, c3, c4, c5], _ =>
    match xs, hxl with
    | [y0, y1, y2], _ =>
      obtain ⟨a, b, e0, _⟩ := open_pair (hf 0 (by omega))
      obtain ⟨c, d, e1, _⟩ := open_pair (hf 1 (by omega))
      obtain ⟨e, f, e2, _⟩ := open_pair (hf 2 (by omega))
      have f0 : [c0, c1] = [Value.int .i64 a, .int .i64 b] := e0
      have f1 : [c2, c3] = [Value.int .i64 c, .int .i64 d] := e1
      have f2 : [c4, c5] = [Value.int .i64 e, .int .i64 f] := e2
      injection f0 with g0 f0
      injection f0 with g1 f0
      injection f1 with g2 f1
      injection f1 with g3 f1
      injection f2 with g4 f2
      injection f2 with g5 f2
      subst g0 g1 g2 g3 g4 g5
      exact ⟨a, b, c, d, e, f, rfl⟩
set_option maxRecDepth 100000 in
theorem open_Four {r : Reach} {b0 : Nat} {v : Value} {d : DataW H} {ps : List MemPlace} (hv : Value.okWide Tryd.prog w r b0 26 v) (h : DataW.Trod enc Tryd.prog w base sp held 26 v d ps) :
    ∃ n0 n1 n2 n3 a1 a2 b1 b2 : Int, v = .agg #[.int .i64 n0, .int .i64 n1, .int .i64 n2, .int .i64 n3, .int .i64 a1, .int .i64 a2, .int .i64 b1, .int .i64 b2] ∧ i64 n0 ∧ i64 n1 ∧ i64 n2 ∧ i64 n3 ∧ i64 a1 ∧ i64 a2 ∧ i64 b1 ∧ i64 b2 := by
  obtain ⟨cs, rfl, hsz⟩ := okWide_struct Tryd.underlying26 hv
  obtain ⟨fuel, hf⟩ := h
  obtain ⟨xs, n, _, _, hlen, hxl, hf⟩ := DataW.trod_struct Tryd.underlying26 hf
  rw [cells26] at hlen
  obtain ⟨cs⟩ := cs
  have hcl : (Value.agg ⟨cs⟩).cells.toList = cs := by simp [Value.cells]
  rw [hcl] at hlen hf
  match cs, hlen with
  | [c0, c1, c2, c3, c4, c5, c6, c7], _ =>
    simp only [List.size_toArray, List.length_cons, List.length_nil] at hxl
    match xs, hxl with
    | [y0, y1, y2], _ =>
      obtain ⟨n0, n1, n2, n3, e0, h0, h1, h2, h3⟩ := open_four (hf 0 _ rfl)
      obtain ⟨a1, a2, e1, h4, h5⟩ := open_ratio (hf 1 _ rfl)
      obtain ⟨b1, b2, e2, h6, h7⟩ := open_ratio (hf 2 _ rfl)
      have f0 : [c0, c1, c2, c3] = [Value.int .i64 n0, .int .i64 n1, .int .i64 n2, .int .i64 n3] := e0
      have f1 : [c4, c5] = [Value.int .i64 a1, .int .i64 a2] := e1
      have f2 : [c6, c7] = [Value.int .i64 b1, .int .i64 b2] := e2
      injection f0 with g0 f0
      injection f0 with g1 f0
      injection f0 with g2 f0
      injection f0 with g3 f0
      injection f1 with g4 f1
      injection f1 with g5 f1
      injection f2 with g6 f2
      injection f2 with g7 f2
      subst g0 g1 g2 g3 g4 g5 g6 g7
      exact ⟨n0, n1, n2, n3, a1, a2, b1, b2, rfl, h0, h1, h2, h3, h4, h5, h6, h7⟩
end
end Go.Proofs.YtekhdcfnpgkodaaDoor
