/-
  What the laws' arrays of numbers read as, opened to cells.
-/
import Derived.Test.YtljjmoeplfcblaaOpenS
namespace Go.Proofs.Ytljjmoeplfcblaa
open Go.ChangeShapes Go.WideShapes Go.RowKit Go.Deep
section
variable {H : Type} {enc : TypeId × Value → H} {w : World} {base : Nat} {sp : Nat → Bool} {held : Bool}
theorem cells44 : Try.prog.cellsOf 44 = 4 := by kernel_rfl
theorem okWide_arr44 {r : Reach} {b0 : Nat} {v : Value} (h : Value.okWide Try.prog w r b0 44 v) : ∃ cs : Array Value, v = .agg cs := by
  simp only [Value.okWide, Try.underlying44] at h
  obtain ⟨cs, h1, _⟩ := h
  exact ⟨cs, h1⟩
theorem nat255 {z : Int} (h : 0 ≤ z ∧ z ≤ 255) : ∃ k : Nat, z = k ∧ k ≤ 255 := by
  obtain ⟨k, rfl⟩ := Int.eq_ofNat_of_zero_le h.1
  exact ⟨k, rfl, by omega⟩
theorem open_arr44 {r : Reach} {b0 : Nat} {v : Value} {d : DataW H} {ps : List MemPlace} (hv : Value.okWide Try.prog w r b0 44 v) (h : DataW.Trod enc Try.prog w base sp held 44 v d ps) :
    ∃ (a b c d : Nat), v = .agg #[.int .u8 a, .int .u8 b, .int .u8 c, .int .u8 d] ∧ a ≤ 255 ∧ b ≤ 255 ∧ c ≤ 255 ∧ d ≤ 255 := by
  obtain ⟨cs, rfl⟩ := okWide_arr44 hv
  obtain ⟨fuel, hf⟩ := h
  obtain ⟨xs, n, _, _, hlen, hxl, hf⟩ := DataW.trod_array Try.underlying44 hf
  rw [cells44] at hlen
  obtain ⟨cs⟩ := cs
  have hcl : (Value.agg ⟨cs⟩).cells.toList = cs := by simp [Value.cells]
  rw [hcl] at hlen hf
  match cs, hlen with
  | [c0, c1, c2, c3], _ =>
    match xs, hxl with
    | [y0, y1, y2, y3], _ =>
      have h0 := hf 0 (by omega)
      have h1 := hf 1 (by omega)
      have h2 := hf 2 (by omega)
      have h3 := hf 3 (by omega)
      simp only [List.getElem?_cons_zero, List.getElem?_cons_succ] at h0 h1 h2 h3
      obtain ⟨a, e0, _, ha⟩ := DataW.trod_int Try.underlying5 h0
      obtain ⟨b, e1, _, hb⟩ := DataW.trod_int Try.underlying5 h1
      obtain ⟨c, e2, _, hc⟩ := DataW.trod_int Try.underlying5 h2
      obtain ⟨d, e3, _, hd⟩ := DataW.trod_int Try.underlying5 h3
      injection e0 with e0
      injection e1 with e1
      injection e2 with e2
      injection e3 with e3
      subst e0 e1 e2 e3
      obtain ⟨a, rfl, ka⟩ := nat255 ((Lit.wf_int_iff _ _).1 ha)
      obtain ⟨b, rfl, kb⟩ := nat255 ((Lit.wf_int_iff _ _).1 hb)
      obtain ⟨c, rfl, kc⟩ := nat255 ((Lit.wf_int_iff _ _).1 hc)
      obtain ⟨d, rfl, kd⟩ := nat255 ((Lit.wf_int_iff _ _).1 hd)
      exact ⟨a, b, c, d, rfl, ka, kb, kc, kd⟩
end
end Go.Proofs.Ytljjmoeplfcblaa
