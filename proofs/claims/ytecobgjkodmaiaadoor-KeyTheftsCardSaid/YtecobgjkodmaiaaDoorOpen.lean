/-
  What the laws' arguments read as, opened to cells.
-/
import Derived.Test.YtecobgjkodmaiaaDoorLaid
import Derived.Test.YtecobgjkodmaiaaDoorMk
import Derived.Deep.Slices
import Derived.DataShut
namespace Go.Proofs.YtecobgjkodmaiaaDoor
open Go.ChangeShapes Go.WideShapes Go.RowKit Go.Deep
section
variable {H : Type} {enc : TypeId × Value → H} {w : World} {base : Nat} {sp : Nat → Bool} {held : Bool}
theorem list_of {α : Type} {Q : Nat → α → Prop} : ∀ n, (∀ i, i < n → ∃ x, Q i x) → ∃ l : List α, n = l.length ∧ ∀ j x, l[j]? = some x → Q j x := by
  intro n
  induction n with
  | zero => intro _; exact ⟨[], rfl, fun j x h => by simp at h⟩
  | succ n ih =>
    intro h
    obtain ⟨l, hl, hq⟩ := ih (fun i hi => h i (by omega))
    obtain ⟨x, hx⟩ := h n (by omega)
    refine ⟨l ++ [x], by simp; omega, fun j y hy => ?_⟩
    rcases Nat.lt_or_ge j l.length with hj | hj
    · rw [List.getElem?_append_left hj] at hy
      exact hq j y hy
    · rw [List.getElem?_append_right hj] at hy
      obtain ⟨k, hk⟩ : ∃ k, j - l.length = k := ⟨_, rfl⟩
      rw [hk] at hy
      match k, hk with
      | 0, hk =>
        simp at hy
        subst hy
        obtain rfl : j = n := by omega
        exact hx
      | k + 1, _ => simp at hy

theorem open_list {α : Type} {P : Program} {t e : TypeId} {f : α → Value} {G : α → Prop} {fuel : Nat} {cs : List Value} {x : DataW H × List MemPlace} (ht : P.underlying t = some (.slice e)) (hce : P.cellsOf e = 1)
    (hel : ∀ n cs x, DataW.trod enc P w base sp held n e cs = some x → ∃ z, cs = [f z] ∧ G z) (h : DataW.trod enc P w base sp held fuel t cs = some x) :
    ∃ (A : Option Addr) (n c : Nat) (l : List α), cs = [.slice A n c] ∧ n = l.length ∧ n ≤ c ∧ c ≤ maxLen ∧ (∀ z ∈ l, G z) ∧ (0 < n → ∃ ad, A = some ad ∧ ad.block < w.heap.size ∧ ∀ j z, l[j]? = some z → w.cell? (ad.add j) = some (f z)) := by
  rcases open_slice ht h with ⟨rfl, rfl⟩ | ⟨a, len, cap, m, n, D, Pl, rfl, hb, hl, hm, hmm, rfl, hi⟩
  · exact ⟨none, 0, 0, [], rfl, rfl, Nat.le_refl _, by simp [maxLen], (by intro z hz; cases hz), fun h => by omega⟩
  · have hlm : len ≤ m := by rw [hmm]; split <;> omega
    obtain ⟨l, hll, hq⟩ := list_of (Q := fun i z => w.cell? (a.add i) = some (f z) ∧ G z) len (fun i hil => by
      obtain ⟨cs', hc, htr⟩ := hi i (by omega)
      obtain ⟨z, rfl, hz⟩ := hel _ _ _ htr
      rw [hce, Nat.mul_one] at hc
      obtain ⟨_, hcl, hat⟩ := World.cells?_some hc
      have h0 := hat 0 (by omega)
      refine ⟨z, ?_, hz⟩
      have e0 : (a.add i).add 0 = a.add i := by simp [Addr.add]
      rw [e0] at h0
      simpa using h0)
    refine ⟨some a, len, cap, l, rfl, hll, hl, hm, fun z hz => ?_, fun h0 => ⟨a, rfl, ?_, fun j z hz => (hq j z hz).1⟩⟩
    · obtain ⟨j, hj⟩ := List.getElem?_of_mem hz
      exact (hq j z hj).2
    · have h1 : 0 < l.length := by omega
      have h2 := (hq 0 l[0] (List.getElem?_eq_getElem h1)).1
      have h3 := World.block_lt_of_cell? w _ h2
      rwa [add_block] at h3

theorem wf64 {z : Int} (h : (Lit.int .i64 z).wf = true) : i64 z := (Lit.wf_int_iff _ _).1 h
theorem wf8 {z : Int} (h : (Lit.int .u8 z).wf = true) : 0 ≤ z ∧ z < 256 := by
  have := (Lit.wf_int_iff _ _).1 h
  rw [show IntKind.u8.min = 0 from rfl, show IntKind.u8.max = 255 from rfl] at this
  omega
theorem wf16 {z : Int} (h : (Lit.int .u16 z).wf = true) : 0 ≤ z ∧ z < 65536 := by
  have := (Lit.wf_int_iff _ _).1 h
  rw [show IntKind.u16.min = 0 from rfl, show IntKind.u16.max = 65535 from rfl] at this
  omega
theorem elem_int : ∀ n cs x, DataW.trod enc Tryd.prog w base sp held n 3 cs = some x → ∃ z : Int, cs = [.int .i64 z] ∧ i64 z := by
  intro n cs x h
  obtain ⟨z, rfl, _, hw⟩ := DataW.trod_int Tryd.underlying3 h
  exact ⟨z, rfl, wf64 hw⟩
theorem elem_u8 : ∀ n cs x, DataW.trod enc Tryd.prog w base sp held n 5 cs = some x → ∃ z : Int, cs = [.int .u8 z] ∧ 0 ≤ z ∧ z < 256 := by
  intro n cs x h
  obtain ⟨z, rfl, _, hw⟩ := DataW.trod_int Tryd.underlying5 h
  exact ⟨z, rfl, wf8 hw⟩
theorem cells3 : Tryd.prog.cellsOf 3 = 1 := by kernel_rfl
theorem cells5 : Tryd.prog.cellsOf 5 = 1 := by kernel_rfl
theorem cells22 : Tryd.prog.cellsOf 22 = 1 := by kernel_rfl
theorem cells23 : Tryd.prog.cellsOf 23 = 3 := by kernel_rfl
theorem cells24 : Tryd.prog.cellsOf 24 = 6 := by kernel_rfl
theorem cells26 : Tryd.prog.cellsOf 26 = 8 := by kernel_rfl
theorem open_il {fuel : Nat} {cs : List Value} {x : DataW H × List MemPlace} (h : DataW.trod enc Tryd.prog w base sp held fuel 22 cs = some x) :
    ∃ (A : Option Addr) (n c : Nat) (l : List Int), cs = [.slice A n c] ∧ Ints w A n c l := by
  obtain ⟨A, n, c, l, e, h1, h2, h3, h4, h5⟩ := open_list Tryd.underlying22 cells3 elem_int h
  exact ⟨A, n, c, l, e, h1, h2, by unfold maxLen at h3; omega, h4, h5⟩
theorem open_t3 {fuel : Nat} {cs : List Value} {x : DataW H × List MemPlace} (h : DataW.trod enc Tryd.prog w base sp held fuel 23 cs = some x) : ∃ a b c : Int, cs = [.int .i64 a, .int .i64 b, .int .i64 c] ∧ i64 a ∧ i64 b ∧ i64 c := by
  obtain ⟨xs, n, _, _, hlen, hxl, hf⟩ := DataW.trod_array Tryd.underlying23 h
  rw [cells23] at hlen
  rw [cells3] at hf
  match cs, hlen with
  | [c0, c1, c2], _ =>
    match xs, hxl with
    | [y0, y1, y2], _ =>
      obtain ⟨a, e0, ha⟩ := elem_int _ _ _ (hf 0 (by omega))
      obtain ⟨b, e1, hb⟩ := elem_int _ _ _ (hf 1 (by omega))
      obtain ⟨c, e2, hc⟩ := elem_int _ _ _ (hf 2 (by omega))
      have f0 : [c0] = [Value.int .i64 a] := e0
      have f1 : [c1] = [Value.int .i64 b] := e1
      have f2 : [c2] = [Value.int .i64 c] := e2
      injection f0 with f0
      injection f1 with f1
      injection f2 with f2
      subst f0 f1 f2
      exact ⟨a, b, c, rfl, ha, hb, hc⟩
theorem open_six {fuel : Nat} {cs : List Value} {x : DataW H × List MemPlace} (h : DataW.trod enc Tryd.prog w base sp held fuel 24 cs = some x) : ∃ a b c d e f : Int, cs = [.int .i64 a, .int .i64 b, .int .i64 c, .int .i64 d, .int .i64 e, .int .i64 f] ∧ i64 a ∧ i64 b ∧ i64 c ∧ i64 d ∧ i64 e ∧ i64 f := by
  obtain ⟨xs, n, _, _, hlen, hxl, hf⟩ := DataW.trod_array Tryd.underlying24 h
  rw [cells24] at hlen
  rw [cells23] at hf
  match cs, hlen with
  | [c0, c1, c2, c3, c4, c5], _ =>
    match xs, hxl with
    | [y0, y1], _ =>
      obtain ⟨a, b, c, e0, ha, hb, hc⟩ := open_t3 (hf 0 (by omega))
      obtain ⟨d, e, f, e1, hd, he, hf'⟩ := open_t3 (hf 1 (by omega))
      have f0 : [c0, c1, c2] = [Value.int .i64 a, .int .i64 b, .int .i64 c] := e0
      have f1 : [c3, c4, c5] = [Value.int .i64 d, .int .i64 e, .int .i64 f] := e1
      injection f0 with g0 f0
      injection f0 with g1 f0
      injection f0 with g2 f0
      injection f1 with g3 f1
      injection f1 with g4 f1
      injection f1 with g5 f1
      subst g0 g1 g2 g3 g4 g5
      exact ⟨a, b, c, d, e, f, rfl, ha, hb, hc, hd, he, hf'⟩
set_option maxRecDepth 100000 in
theorem open_case {r : Reach} {b0 : Nat} {v : Value} {d : DataW H} {ps : List MemPlace} (hv : Value.okWide Tryd.prog w r b0 26 v) (h : DataW.Trod enc Tryd.prog w base sp held 26 v d ps) :
    ∃ (sc q0 q1 q2 r0 r1 r2 : Int) (A : Option Addr) (n c : Nat) (il : List Int), v = .agg #[.int .u8 sc, .slice A n c, .int .i64 q0, .int .i64 q1, .int .i64 q2, .int .i64 r0, .int .i64 r1, .int .i64 r2] ∧ (0 ≤ sc ∧ sc < 256) ∧ i64 q0 ∧ i64 q1 ∧ i64 q2 ∧ i64 r0 ∧ i64 r1 ∧ i64 r2 ∧ Ints w A n c il := by
  obtain ⟨cs, rfl, hsz⟩ := okWide_struct Tryd.underlying26 hv
  obtain ⟨fuel, hf⟩ := h
  obtain ⟨xs, n, _, _, hlen, hxl, hf⟩ := DataW.trod_struct Tryd.underlying26 hf
  rw [cells26] at hlen
  obtain ⟨cs⟩ := cs
  have hcl : (Value.agg ⟨cs⟩).cells.toList = cs := by simp [Value.cells]
  rw [hcl] at hlen hf
  match cs, hlen with
  | [c0, c1, c2, c3, c4, c5, c6, c7], _ =>
    simp only [List.size_toArray, List.length_cons, List.length_nil] at hxl
    match xs, hxl with
    | [y0, y1, y2], _ =>
      obtain ⟨sc, e0, h0⟩ := elem_u8 _ _ _ (hf 0 _ rfl)
      obtain ⟨A, n, c, il, e1, h1⟩ := open_il (hf 1 _ rfl)
      obtain ⟨q0, q1, q2, r0, r1, r2, e2, h2, h3, h4, h5, h6, h7⟩ := open_six (hf 2 _ rfl)
      have f0 : [c0] = [Value.int .u8 sc] := e0
      have f1 : [c1] = [Value.slice A n c] := e1
      have f2 : [c2, c3, c4, c5, c6, c7] = [Value.int .i64 q0, .int .i64 q1, .int .i64 q2, .int .i64 r0, .int .i64 r1, .int .i64 r2] := e2
      injection f0 with g0
      injection f1 with g1
      injection f2 with g2 f2
      injection f2 with g3 f2
      injection f2 with g4 f2
      injection f2 with g5 f2
      injection f2 with g6 f2
      injection f2 with g7 f2
      subst g0 g1 g2 g3 g4 g5 g6 g7
      exact ⟨sc, q0, q1, q2, r0, r1, r2, A, n, c, il, rfl, h0, h2, h3, h4, h5, h6, h7, h1⟩
end
end Go.Proofs.YtecobgjkodmaiaaDoor
