/-
  What the laws' arrays of two read as, opened to cells.
-/
import Derived.Test.YtljjmoeplfcblaaOpenS
namespace Go.Proofs.Ytljjmoeplfcblaa
open Go.ChangeShapes Go.WideShapes Go.RowKit Go.Deep
section
variable {H : Type} {enc : TypeId × Value → H} {w : World} {base : Nat} {sp : Nat → Bool} {held : Bool}
theorem cells30 : Try.prog.cellsOf 30 = 2 := by kernel_rfl
theorem cells31 : Try.prog.cellsOf 31 = 2 := by kernel_rfl
theorem okWide_arr30 {r : Reach} {b0 : Nat} {v : Value} (h : Value.okWide Try.prog w r b0 30 v) : ∃ cs : Array Value, v = .agg cs := by
  simp only [Value.okWide, Try.underlying30] at h
  obtain ⟨cs, h1, _⟩ := h
  exact ⟨cs, h1⟩
theorem okWide_arr31 {r : Reach} {b0 : Nat} {v : Value} (h : Value.okWide Try.prog w r b0 31 v) : ∃ cs : Array Value, v = .agg cs := by
  simp only [Value.okWide, Try.underlying31] at h
  obtain ⟨cs, h1, _⟩ := h
  exact ⟨cs, h1⟩
theorem open_arr30 {r : Reach} {b0 : Nat} {v : Value} {d : DataW H} {ps : List MemPlace} (hv : Value.okWide Try.prog w r b0 30 v) (h : DataW.Trod enc Try.prog w base sp held 30 v d ps) :
    ∃ (a b : Int), v = .agg #[.int .i64 a, .int .i64 b] ∧ (-9223372036854775808 ≤ a ∧ a ≤ 9223372036854775807) ∧ (-9223372036854775808 ≤ b ∧ b ≤ 9223372036854775807) := by
  obtain ⟨cs, rfl⟩ := okWide_arr30 hv
  obtain ⟨fuel, hf⟩ := h
  obtain ⟨xs, n, _, _, hlen, hxl, hf⟩ := DataW.trod_array Try.underlying30 hf
  rw [cells30] at hlen
  obtain ⟨cs⟩ := cs
  have hcl : (Value.agg ⟨cs⟩).cells.toList = cs := by simp [Value.cells]
  rw [hcl] at hlen hf
  match cs, hlen with
  | [c0, c1], _ =>
    match xs, hxl with
    | [y0, y1], _ =>
      have h0 := hf 0 (by omega)
      have h1 := hf 1 (by omega)
      simp only [List.getElem?_cons_zero, List.getElem?_cons_succ] at h0 h1
      obtain ⟨a, e0, _, ha⟩ := DataW.trod_int Try.underlying3 h0
      obtain ⟨b, e1, _, hb⟩ := DataW.trod_int Try.underlying3 h1
      injection e0 with e0
      injection e1 with e1
      subst e0 e1
      exact ⟨a, b, rfl, (Lit.wf_int_iff _ _).1 ha, (Lit.wf_int_iff _ _).1 hb⟩
theorem open_arr31 {r : Reach} {b0 : Nat} {v : Value} {d : DataW H} {ps : List MemPlace} (hv : Value.okWide Try.prog w r b0 31 v) (h : DataW.Trod enc Try.prog w base sp held 31 v d ps) :
    ∃ (a b : List UInt8), v = .agg #[.string ⟨a.toArray⟩, .string ⟨b.toArray⟩] ∧ a.length ≤ 9223372036854775807 ∧ b.length ≤ 9223372036854775807 := by
  obtain ⟨cs, rfl⟩ := okWide_arr31 hv
  obtain ⟨fuel, hf⟩ := h
  obtain ⟨xs, n, _, _, hlen, hxl, hf⟩ := DataW.trod_array Try.underlying31 hf
  rw [cells31] at hlen
  obtain ⟨cs⟩ := cs
  have hcl : (Value.agg ⟨cs⟩).cells.toList = cs := by simp [Value.cells]
  rw [hcl] at hlen hf
  match cs, hlen with
  | [c0, c1], _ =>
    match xs, hxl with
    | [y0, y1], _ =>
      have h0 := hf 0 (by omega)
      have h1 := hf 1 (by omega)
      simp only [List.getElem?_cons_zero, List.getElem?_cons_succ] at h0 h1
      obtain ⟨⟨⟨a⟩⟩, e0, _, ha⟩ := DataW.trod_string Try.underlying9 h0
      obtain ⟨⟨⟨b⟩⟩, e1, _, hb⟩ := DataW.trod_string Try.underlying9 h1
      injection e0 with e0
      injection e1 with e1
      subst e0 e1
      exact ⟨a, b, rfl, by simpa [ByteArray.size, maxLen] using ha, by simpa [ByteArray.size, maxLen] using hb⟩
end
end Go.Proofs.Ytljjmoeplfcblaa
