/-
  Numbers, three numbers, twice three numbers, opened to cells.
-/
import Derived.Test.YtnkemoicgadefaaOpn
namespace Go.Proofs.Ytnkemoicgadefaa
open Go.RowKit
open Go.ChangeShapes Go.WideShapes Go.Deep
theorem okWide_array2 {P : Program} {w : World} {r : Reach} {b0 : Nat} {t e : TypeId} {n : Nat} {v : Value} (ht : P.underlying t = some (.array n e)) (h : Value.okWide P w r b0 t v) : ∃ cs : Array Value, v = .agg cs := by
  unfold Value.okWide at h
  rw [ht] at h
  obtain ⟨cs, e, _⟩ := h
  exact ⟨cs, e⟩
theorem wf64 {z : Int} (h : (Lit.int .i64 z).wf = true) : i64 z := (Lit.wf_int_iff _ _).1 h
section
variable {H : Type} {enc : TypeId × Value → H} {w : World} {base : Nat} {sp : Nat → Bool} {held : Bool}
theorem elem_int : ∀ n cs x, DataW.trod enc Try.prog w base sp held n 3 cs = some x → ∃ z : Int, cs = [.int .i64 z] ∧ i64 z := by
  intro n cs x h
  obtain ⟨z, rfl, _, hw⟩ := DataW.trod_int Try.underlying3 h
  exact ⟨z, rfl, wf64 hw⟩
theorem cells3 : Try.prog.cellsOf 3 = 1 := by kernel_rfl
theorem cells23 : Try.prog.cellsOf 23 = 3 := by kernel_rfl
theorem cells24 : Try.prog.cellsOf 24 = 6 := by kernel_rfl
theorem open_il {fuel : Nat} {cs : List Value} {x : DataW H × List MemPlace} (h : DataW.trod enc Try.prog w base sp held fuel 22 cs = some x) :
    ∃ (A : Option Addr) (n c : Nat) (l : List Int), cs = [.slice A n c] ∧ Ints w A n c l := by
  obtain ⟨A, n, c, l, e, h1, h2⟩ := open_list (f := Value.int .i64) Try.underlying22 cells3 (fun _ => rfl) elem_int h
  exact ⟨A, n, c, l, e, ⟨h2, h1⟩⟩
set_option maxRecDepth 100000 in
theorem open_ints {r : Reach} {b0 : Nat} {v : Value} {d : DataW H} {ps : List MemPlace} (hv : Value.okWide Try.prog w r b0 22 v) (h : DataW.Trod enc Try.prog w base sp held 22 v d ps) :
    ∃ (A : Option Addr) (n c : Nat) (l : List Int), v = .slice A n c ∧ Ints w A n c l := by
  obtain ⟨a, len, cap, rfl⟩ := okWide_slice Try.underlying22 hv
  obtain ⟨fuel, hf⟩ := h
  obtain ⟨A, n, c, l, e, h1⟩ := open_il hf
  injection e with e _
  exact ⟨A, n, c, l, e, h1⟩
theorem open_t3 {fuel : Nat} {cs : List Value} {x : DataW H × List MemPlace} (h : DataW.trod enc Try.prog w base sp held fuel 23 cs = some x) : ∃ a b c : Int, cs = [.int .i64 a, .int .i64 b, .int .i64 c] ∧ i64 a ∧ i64 b ∧ i64 c := by
  obtain ⟨xs, n, _, _, hlen, hxl, hf⟩ := DataW.trod_array Try.underlying23 h
  rw [cells23] at hlen
  rw [cells3] at hf
  match cs, hlen with
  | [c0, c1, c2], _ =>
    match xs, hxl with
    | [y0, y1, y2], _ =>
      obtain ⟨a, e0, ha⟩ := elem_int _ _ _ (hf 0 (by omega))
      obtain ⟨b, e1, hb⟩ := elem_int _ _ _ (hf 1 (by omega))
      obtain ⟨c, e2, hc⟩ := elem_int _ _ _ (hf 2 (by omega))
      have f0 : [c0] = [Value.int .i64 a] := e0
      have f1 : [c1] = [Value.int .i64 b] := e1
      have f2 : [c2] = [Value.int .i64 c] := e2
      injection f0 with f0
      injection f1 with f1
      injection f2 with f2
      subst f0 f1 f2
      exact ⟨a, b, c, rfl, ha, hb, hc⟩
theorem open_six {fuel : Nat} {cs : List Value} {x : DataW H × List MemPlace} (h : DataW.trod enc Try.prog w base sp held fuel 24 cs = some x) : ∃ a b c d e f : Int, cs = [.int .i64 a, .int .i64 b, .int .i64 c, .int .i64 d, .int .i64 e, .int .i64 f] := by
  obtain ⟨xs, n, _, _, hlen, hxl, hf⟩ := DataW.trod_array Try.underlying24 h
  rw [cells24] at hlen
  rw [cells23] at hf
  match cs, hlen with
  | [c0, c1, c2, c3, c4, c5], _ =>
    match xs, hxl with
    | [y0, y1], _ =>
      obtain ⟨a, b, c, e0, ha, hb, hc⟩ := open_t3 (hf 0 (by omega))
      obtain ⟨d, e, f, e1, hd, he, hf'⟩ := open_t3 (hf 1 (by omega))
      have f0 : [c0, c1, c2] = [Value.int .i64 a, .int .i64 b, .int .i64 c] := e0
      have f1 : [c3, c4, c5] = [Value.int .i64 d, .int .i64 e, .int .i64 f] := e1
      injection f0 with g0 f0
      injection f0 with g1 f0
      injection f0 with g2 f0
      injection f1 with g3 f1
      injection f1 with g4 f1
      injection f1 with g5 f1
      subst g0 g1 g2 g3 g4 g5
      exact ⟨a, b, c, d, e, f, rfl⟩
set_option maxRecDepth 100000 in
theorem open_arr23 {r : Reach} {b0 : Nat} {v : Value} {d : DataW H} {ps : List MemPlace} (hv : Value.okWide Try.prog w r b0 23 v) (h : DataW.Trod enc Try.prog w base sp held 23 v d ps) :
    ∃ a b c : Int, v = .agg #[.int .i64 a, .int .i64 b, .int .i64 c] := by
  obtain ⟨cs, rfl⟩ := okWide_array2 Try.underlying23 hv
  obtain ⟨fuel, hf⟩ := h
  obtain ⟨a, b, c, e, _⟩ := open_t3 hf
  obtain ⟨cs⟩ := cs
  have hcl : (Value.agg ⟨cs⟩).cells.toList = cs := by simp [Value.cells]
  rw [hcl] at e
  subst e
  exact ⟨a, b, c, rfl⟩
set_option maxRecDepth 100000 in
theorem open_arr24 {r : Reach} {b0 : Nat} {v : Value} {d : DataW H} {ps : List MemPlace} (hv : Value.okWide Try.prog w r b0 24 v) (h : DataW.Trod enc Try.prog w base sp held 24 v d ps) :
    ∃ a b c d e f : Int, v = .agg #[.int .i64 a, .int .i64 b, .int .i64 c, .int .i64 d, .int .i64 e, .int .i64 f] := by
  obtain ⟨cs, rfl⟩ := okWide_array2 Try.underlying24 hv
  obtain ⟨fuel, hf⟩ := h
  obtain ⟨a, b, c, d, e, f, e1⟩ := open_six hf
  obtain ⟨cs⟩ := cs
  have hcl : (Value.agg ⟨cs⟩).cells.toList = cs := by simp [Value.cells]
  rw [hcl] at e1
  subst e1
  exact ⟨a, b, c, d, e, f, rfl⟩
end
end Go.Proofs.Ytnkemoicgadefaa
