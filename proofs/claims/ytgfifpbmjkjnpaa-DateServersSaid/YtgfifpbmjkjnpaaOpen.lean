/-
  What the laws' arguments read as, opened to cells.
-/
import Derived.Test.YtgfifpbmjkjnpaaNum
import Derived.Test.YtgfifpbmjkjnpaaLaid
import Derived.Deep.Slices
import Derived.DataShut
namespace Go.Proofs.Ytgfifpbmjkjnpaa
open Go.ChangeShapes Go.WideShapes Go.RowKit Go.Deep
section
variable {H : Type} {enc : TypeId × Value → H} {w : World} {base : Nat} {sp : Nat → Bool} {held : Bool}
theorem elem_int : ∀ n cs x, DataW.trod enc Try.prog w base sp held n 3 cs = some x → ∃ z : Int, cs = [.int .i64 z] ∧ i64 z := by
  intro n cs x h
  obtain ⟨z, rfl, _, hw⟩ := DataW.trod_int Try.underlying3 h
  exact ⟨z, rfl, (Lit.wf_int_iff _ _).1 hw⟩
theorem cells39 : Try.prog.cellsOf 39 = 3 := by kernel_rfl
theorem cells41 : Try.prog.cellsOf 41 = 5 := by kernel_rfl
theorem open_st {fuel : Nat} {cs : List Value} {x : DataW H × List MemPlace} (h : DataW.trod enc Try.prog w base sp held fuel 39 cs = some x) : ∃ p q r : Int, cs = [.int .i64 p, .int .i64 q, .int .i64 r] ∧ i64 p ∧ i64 q ∧ i64 r := by
  obtain ⟨xs, n, _, _, hlen, hxl, hf⟩ := DataW.trod_struct Try.underlying39 h
  rw [cells39] at hlen
  match cs, hlen with
  | [c0, c1, c2], _ =>
    simp only [List.size_toArray, List.length_cons, List.length_nil] at hxl
    match xs, hxl with
    | [y0, y1, y2], _ =>
      have h0 := hf 0 _ rfl
      have h1 := hf 1 _ rfl
      have h2 := hf 2 _ rfl
      simp only [List.getElem?_cons_zero, List.getElem?_cons_succ] at h0 h1 h2
      obtain ⟨p, e0, hp⟩ := elem_int _ _ _ h0
      obtain ⟨q, e1, hq⟩ := elem_int _ _ _ h1
      obtain ⟨r, e2, hr⟩ := elem_int _ _ _ h2
      injection e0 with e0
      injection e1 with e1
      injection e2 with e2
      subst e0 e1 e2
      exact ⟨p, q, r, rfl, hp, hq, hr⟩
theorem open_ops {fuel : Nat} {cs : List Value} {x : DataW H × List MemPlace} (h : DataW.trod enc Try.prog w base sp held fuel 41 cs = some x) : ∃ (b : Bool) (o p q r : Int), cs = [.bool b, .int .i64 o, .int .i64 p, .int .i64 q, .int .i64 r] ∧ i64 o ∧ i64 p ∧ i64 q ∧ i64 r := by
  obtain ⟨xs, n, _, _, hlen, hxl, hf⟩ := DataW.trod_struct Try.underlying41 h
  rw [cells41] at hlen
  match cs, hlen with
  | [c0, c1, c2, c3, c4], _ =>
    simp only [List.size_toArray, List.length_cons, List.length_nil] at hxl
    match xs, hxl with
    | [y0, y1, y2], _ =>
      have h0 := hf 0 _ rfl
      have h1 := hf 1 _ rfl
      have h2 := hf 2 _ rfl
      simp only [List.getElem?_cons_zero, List.getElem?_cons_succ] at h0 h1 h2
      obtain ⟨b, e0, hb⟩ := DataW.trod_bool Try.underlying4 h0
      obtain ⟨o, e1, ho⟩ := elem_int _ _ _ h1
      obtain ⟨p, q, r, e2, hp, hq, hr⟩ := open_st h2
      injection e0 with e0
      injection e1 with e1
      have f2 : [c2, c3, c4] = [.int .i64 p, .int .i64 q, .int .i64 r] := e2
      clear e2
      injection f2 with g2 f3
      injection f3 with g3 f4
      injection f4 with g4
      subst e0 e1 g2 g3 g4
      exact ⟨b, o, p, q, r, rfl, ho, hp, hq, hr⟩
theorem open_op {r : Reach} {b0 : Nat} {v : Value} {d : DataW H} {ps : List MemPlace} (hv : Value.okWide Try.prog w r b0 41 v) (h : DataW.Trod enc Try.prog w base sp held 41 v d ps) :
    ∃ (b : Bool) (o p q r : Int), v = .agg #[.bool b, .int .i64 o, .int .i64 p, .int .i64 q, .int .i64 r] ∧ i64 o ∧ i64 p ∧ i64 q ∧ i64 r := by
  obtain ⟨cs, rfl, hsz⟩ := okWide_struct Try.underlying41 hv
  obtain ⟨fuel, hf⟩ := h
  obtain ⟨b, o, p, q, r, hx, hok⟩ := open_ops hf
  refine ⟨b, o, p, q, r, ?_, hok⟩
  congr 1
  apply Array.ext'
  simpa [Value.cells] using hx
theorem cells22 : Try.prog.cellsOf 22 = 4 := by kernel_rfl
theorem okWide_arr22 {r : Reach} {b0 : Nat} {v : Value} (h : Value.okWide Try.prog w r b0 22 v) : ∃ cs : Array Value, v = .agg cs := by
  simp only [Value.okWide, Try.underlying22] at h
  obtain ⟨cs, h1, _⟩ := h
  exact ⟨cs, h1⟩
theorem open_arr22 {r : Reach} {b0 : Nat} {v : Value} {d : DataW H} {ps : List MemPlace} (hv : Value.okWide Try.prog w r b0 22 v) (h : DataW.Trod enc Try.prog w base sp held 22 v d ps) :
    ∃ (a b c d : Int), v = .agg #[.int .i64 a, .int .i64 b, .int .i64 c, .int .i64 d] ∧ (-9223372036854775808 ≤ a ∧ a ≤ 9223372036854775807) ∧ (-9223372036854775808 ≤ b ∧ b ≤ 9223372036854775807) ∧ (-9223372036854775808 ≤ c ∧ c ≤ 9223372036854775807) ∧ (-9223372036854775808 ≤ d ∧ d ≤ 9223372036854775807) := by
  obtain ⟨cs, rfl⟩ := okWide_arr22 hv
  obtain ⟨fuel, hf⟩ := h
  obtain ⟨xs, n, _, _, hlen, hxl, hf⟩ := DataW.trod_array Try.underlying22 hf
  rw [cells22] at hlen
  obtain ⟨cs⟩ := cs
  have hcl : (Value.agg ⟨cs⟩).cells.toList = cs := by simp [Value.cells]
  rw [hcl] at hlen hf
  match cs, hlen with
  | [c0, c1, c2, c3], _ =>
    match xs, hxl with
    | [y0, y1, y2, y3], _ =>
      have h0 := hf 0 (by omega)
      have h1 := hf 1 (by omega)
      have h2 := hf 2 (by omega)
      have h3 := hf 3 (by omega)
      simp only [List.getElem?_cons_zero, List.getElem?_cons_succ] at h0 h1 h2 h3
      obtain ⟨a, e0, _, ha⟩ := DataW.trod_int Try.underlying3 h0
      obtain ⟨b, e1, _, hb⟩ := DataW.trod_int Try.underlying3 h1
      obtain ⟨c, e2, _, hc⟩ := DataW.trod_int Try.underlying3 h2
      obtain ⟨d, e3, _, hd⟩ := DataW.trod_int Try.underlying3 h3
      injection e0 with e0
      injection e1 with e1
      injection e2 with e2
      injection e3 with e3
      subst e0 e1 e2 e3
      exact ⟨a, b, c, d, rfl, (Lit.wf_int_iff _ _).1 ha, (Lit.wf_int_iff _ _).1 hb, (Lit.wf_int_iff _ _).1 hc, (Lit.wf_int_iff _ _).1 hd⟩
theorem cells30 : Try.prog.cellsOf 30 = 4 := by kernel_rfl
theorem okWide_arr30 {r : Reach} {b0 : Nat} {v : Value} (h : Value.okWide Try.prog w r b0 30 v) : ∃ cs : Array Value, v = .agg cs := by
  simp only [Value.okWide, Try.underlying30] at h
  obtain ⟨cs, h1, _⟩ := h
  exact ⟨cs, h1⟩
theorem open_arr30 {r : Reach} {b0 : Nat} {v : Value} {d : DataW H} {ps : List MemPlace} (hv : Value.okWide Try.prog w r b0 30 v) (h : DataW.Trod enc Try.prog w base sp held 30 v d ps) :
    ∃ (a b c d : Int), v = .agg #[.int .i8 a, .int .i8 b, .int .i8 c, .int .i8 d] ∧ (-128 ≤ a ∧ a ≤ 127) ∧ (-128 ≤ b ∧ b ≤ 127) ∧ (-128 ≤ c ∧ c ≤ 127) ∧ (-128 ≤ d ∧ d ≤ 127) := by
  obtain ⟨cs, rfl⟩ := okWide_arr30 hv
  obtain ⟨fuel, hf⟩ := h
  obtain ⟨xs, n, _, _, hlen, hxl, hf⟩ := DataW.trod_array Try.underlying30 hf
  rw [cells30] at hlen
  obtain ⟨cs⟩ := cs
  have hcl : (Value.agg ⟨cs⟩).cells.toList = cs := by simp [Value.cells]
  rw [hcl] at hlen hf
  match cs, hlen with
  | [c0, c1, c2, c3], _ =>
    match xs, hxl with
    | [y0, y1, y2, y3], _ =>
      have h0 := hf 0 (by omega)
      have h1 := hf 1 (by omega)
      have h2 := hf 2 (by omega)
      have h3 := hf 3 (by omega)
      simp only [List.getElem?_cons_zero, List.getElem?_cons_succ] at h0 h1 h2 h3
      obtain ⟨a, e0, _, ha⟩ := DataW.trod_int Try.underlying29 h0
      obtain ⟨b, e1, _, hb⟩ := DataW.trod_int Try.underlying29 h1
      obtain ⟨c, e2, _, hc⟩ := DataW.trod_int Try.underlying29 h2
      obtain ⟨d, e3, _, hd⟩ := DataW.trod_int Try.underlying29 h3
      injection e0 with e0
      injection e1 with e1
      injection e2 with e2
      injection e3 with e3
      subst e0 e1 e2 e3
      exact ⟨a, b, c, d, rfl, (Lit.wf_int_iff _ _).1 ha, (Lit.wf_int_iff _ _).1 hb, (Lit.wf_int_iff _ _).1 hc, (Lit.wf_int_iff _ _).1 hd⟩
end
end Go.Proofs.Ytgfifpbmjkjnpaa
