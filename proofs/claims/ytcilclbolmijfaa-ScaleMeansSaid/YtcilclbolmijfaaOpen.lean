/-
  What the laws' arguments read as, opened to cells.
-/
import Derived.Test.YtcilclbolmijfaaML
import Derived.Test.YtcilclbolmijfaaLaid
import Derived.Deep.Slices
import Derived.DataShut
namespace Go.Proofs.Ytcilclbolmijfaa
open Go.ChangeShapes Go.WideShapes Go.RowKit Go.Deep
section
variable {H : Type} {enc : TypeId × Value → H} {w : World} {base : Nat} {sp : Nat → Bool} {held : Bool}
theorem add_block (ad : Addr) (k : Nat) : (ad.add k).block = ad.block := by unfold Addr.add; split <;> rfl
theorem list_of {α : Type} {Q : Nat → α → Prop} : ∀ n, (∀ i, i < n → ∃ x, Q i x) → ∃ l : List α, n = l.length ∧ ∀ j x, l[j]? = some x → Q j x := by
  intro n
  induction n with
  | zero => intro _; exact ⟨[], rfl, fun j x h => by simp at h⟩
  | succ n ih =>
    intro h
    obtain ⟨l, hl, hq⟩ := ih (fun i hi => h i (by omega))
    obtain ⟨x, hx⟩ := h n (by omega)
    refine ⟨l ++ [x], by simp; omega, fun j y hy => ?_⟩
    rcases Nat.lt_or_ge j l.length with hj | hj
    · rw [List.getElem?_append_left hj] at hy
      exact hq j y hy
    · rw [List.getElem?_append_right hj] at hy
      obtain ⟨k, hk⟩ : ∃ k, j - l.length = k := ⟨_, rfl⟩
      rw [hk] at hy
      match k, hk with
      | 0, hk =>
        simp at hy
        subst hy
        obtain rfl : j = n := by omega
        exact hx
      | k + 1, _ => simp at hy

theorem open_list {α : Type} {P : Program} {t e : TypeId} {f : α → Value} {G : α → Prop} {fuel : Nat} {cs : List Value} {x : DataW H × List MemPlace} (ht : P.underlying t = some (.slice e)) (hce : P.cellsOf e = 1)
    (hel : ∀ n cs x, DataW.trod enc P w base sp held n e cs = some x → ∃ z, cs = [f z] ∧ G z) (h : DataW.trod enc P w base sp held fuel t cs = some x) :
    ∃ (A : Option Addr) (n c : Nat) (l : List α), cs = [.slice A n c] ∧ n = l.length ∧ n ≤ c ∧ c ≤ maxLen ∧ (∀ z ∈ l, G z) ∧ (0 < n → ∃ ad, A = some ad ∧ ad.block < w.heap.size ∧ ∀ j z, l[j]? = some z → w.cell? (ad.add j) = some (f z)) := by
  rcases open_slice ht h with ⟨rfl, rfl⟩ | ⟨a, len, cap, m, n, D, Pl, rfl, hb, hl, hm, hmm, rfl, hi⟩
  · exact ⟨none, 0, 0, [], rfl, rfl, Nat.le_refl _, by simp [maxLen], (by intro z hz; cases hz), fun h => by omega⟩
  · have hlm : len ≤ m := by rw [hmm]; split <;> omega
    obtain ⟨l, hll, hq⟩ := list_of (Q := fun i z => w.cell? (a.add i) = some (f z) ∧ G z) len (fun i hil => by
      obtain ⟨cs', hc, htr⟩ := hi i (by omega)
      obtain ⟨z, rfl, hz⟩ := hel _ _ _ htr
      rw [hce, Nat.mul_one] at hc
      obtain ⟨_, hcl, hat⟩ := World.cells?_some hc
      have h0 := hat 0 (by omega)
      refine ⟨z, ?_, hz⟩
      have e0 : (a.add i).add 0 = a.add i := by simp [Addr.add]
      rw [e0] at h0
      simpa using h0)
    refine ⟨some a, len, cap, l, rfl, hll, hl, hm, fun z hz => ?_, fun h0 => ⟨a, rfl, ?_, fun j z hz => (hq j z hz).1⟩⟩
    · obtain ⟨j, hj⟩ := List.getElem?_of_mem hz
      exact (hq j z hj).2
    · have h1 : 0 < l.length := by omega
      have h2 := (hq 0 l[0] (List.getElem?_eq_getElem h1)).1
      have h3 := World.block_lt_of_cell? w _ h2
      rwa [add_block] at h3

theorem elem_int : ∀ n cs x, DataW.trod enc Try.prog w base sp held n 3 cs = some x → ∃ z : Int, cs = [.int .i64 z] ∧ i64 z := by
  intro n cs x h
  obtain ⟨z, rfl, _, hw⟩ := DataW.trod_int Try.underlying3 h
  exact ⟨z, rfl, (Lit.wf_int_iff _ _).1 hw⟩
theorem cells3 : Try.prog.cellsOf 3 = 1 := by kernel_rfl
theorem open_ints {r : Reach} {b0 : Nat} {v : Value} {d : DataW H} {ps : List MemPlace} (hv : Value.okWide Try.prog w r b0 22 v) (h : DataW.Trod enc Try.prog w base sp held 22 v d ps) :
    ∃ (A : Option Addr) (n c : Nat) (l : List Int), v = .slice A n c ∧ n = l.length ∧ n ≤ c ∧ c ≤ maxLen ∧ Nums w A l := by
  obtain ⟨a, len, cap, rfl⟩ := okWide_slice Try.underlying22 hv
  obtain ⟨fuel, hf⟩ := h
  obtain ⟨A, n, c, l, e, h1, h2, h3, h4, h5⟩ := open_list Try.underlying22 cells3 elem_int hf
  injection e with e _
  exact ⟨A, n, c, l, e, h1, h2, h3, h4, fun h0 => h5 (by omega)⟩
theorem cells24 : Try.prog.cellsOf 24 = 3 := by kernel_rfl
theorem open_cs24 {fuel : Nat} {cs : List Value} {x : DataW H × List MemPlace} (h : DataW.trod enc Try.prog w base sp held fuel 24 cs = some x) : ∃ a b p : Int, cs = [.int .i64 a, .int .i64 b, .int .i64 p] ∧ i64 a ∧ i64 b ∧ i64 p := by
  obtain ⟨xs, n, _, _, hlen, hxl, hf⟩ := DataW.trod_struct Try.underlying24 h
  rw [cells24] at hlen
  match cs, hlen with
  | [c0, c1, c2], _ =>
    simp only [List.size_toArray, List.length_cons, List.length_nil] at hxl
    match xs, hxl with
    | [y0, y1, y2], _ =>
      have h0 := hf 0 _ rfl
      have h1 := hf 1 _ rfl
      have h2 := hf 2 _ rfl
      simp only [List.getElem?_cons_zero, List.getElem?_cons_succ] at h0 h1 h2
      obtain ⟨a, e0, ha⟩ := elem_int _ _ _ h0
      obtain ⟨b, e1, hb⟩ := elem_int _ _ _ h1
      obtain ⟨p, e2, hp⟩ := elem_int _ _ _ h2
      injection e0 with e0
      injection e1 with e1
      injection e2 with e2
      subst e0 e1 e2
      exact ⟨a, b, p, rfl, ha, hb, hp⟩
theorem open_st24 {r : Reach} {b0 : Nat} {v : Value} {d : DataW H} {ps : List MemPlace} (hv : Value.okWide Try.prog w r b0 24 v) (h : DataW.Trod enc Try.prog w base sp held 24 v d ps) :
    ∃ a b p : Int, v = .agg #[.int .i64 a, .int .i64 b, .int .i64 p] ∧ i64 a ∧ i64 b ∧ i64 p := by
  obtain ⟨cs, rfl, hsz⟩ := okWide_struct Try.underlying24 hv
  obtain ⟨fuel, hf⟩ := h
  obtain ⟨a, b, p, hx, hok⟩ := open_cs24 hf
  refine ⟨a, b, p, ?_, hok⟩
  congr 1
  apply Array.ext'
  simpa [Value.cells] using hx
theorem cells26 : Try.prog.cellsOf 26 = 4 := by kernel_rfl
theorem open_cs26 {fuel : Nat} {cs : List Value} {x : DataW H × List MemPlace} (h : DataW.trod enc Try.prog w base sp held fuel 26 cs = some x) : ∃ u a d r : Int, cs = [.int .i64 u, .int .i64 a, .int .i64 d, .int .i64 r] ∧ i64 u ∧ i64 a ∧ i64 d ∧ i64 r := by
  obtain ⟨xs, n, _, _, hlen, hxl, hf⟩ := DataW.trod_struct Try.underlying26 h
  rw [cells26] at hlen
  match cs, hlen with
  | [c0, c1, c2, c3], _ =>
    simp only [List.size_toArray, List.length_cons, List.length_nil] at hxl
    match xs, hxl with
    | [y0, y1, y2, y3], _ =>
      have h0 := hf 0 _ rfl
      have h1 := hf 1 _ rfl
      have h2 := hf 2 _ rfl
      have h3 := hf 3 _ rfl
      simp only [List.getElem?_cons_zero, List.getElem?_cons_succ] at h0 h1 h2 h3
      obtain ⟨u, e0, hu⟩ := elem_int _ _ _ h0
      obtain ⟨a, e1, ha⟩ := elem_int _ _ _ h1
      obtain ⟨d, e2, hd⟩ := elem_int _ _ _ h2
      obtain ⟨r, e3, hr⟩ := elem_int _ _ _ h3
      injection e0 with e0
      injection e1 with e1
      injection e2 with e2
      injection e3 with e3
      subst e0 e1 e2 e3
      exact ⟨u, a, d, r, rfl, hu, ha, hd, hr⟩
theorem open_st26 {r : Reach} {b0 : Nat} {v : Value} {d : DataW H} {ps : List MemPlace} (hv : Value.okWide Try.prog w r b0 26 v) (h : DataW.Trod enc Try.prog w base sp held 26 v d ps) :
    ∃ u a d r : Int, v = .agg #[.int .i64 u, .int .i64 a, .int .i64 d, .int .i64 r] ∧ i64 u ∧ i64 a ∧ i64 d ∧ i64 r := by
  obtain ⟨cs, rfl, hsz⟩ := okWide_struct Try.underlying26 hv
  obtain ⟨fuel, hf⟩ := h
  obtain ⟨u, a, d, r, hx, hok⟩ := open_cs26 hf
  refine ⟨u, a, d, r, ?_, hok⟩
  congr 1
  apply Array.ext'
  simpa [Value.cells] using hx
theorem cells29 : Try.prog.cellsOf 29 = 2 := by kernel_rfl
theorem okWide_arr29 {r : Reach} {b0 : Nat} {v : Value} (h : Value.okWide Try.prog w r b0 29 v) : ∃ cs : Array Value, v = .agg cs := by
  simp only [Value.okWide, Try.underlying29] at h
  obtain ⟨cs, h1, _⟩ := h
  exact ⟨cs, h1⟩
theorem open_arr29 {r : Reach} {b0 : Nat} {v : Value} {d : DataW H} {ps : List MemPlace} (hv : Value.okWide Try.prog w r b0 29 v) (h : DataW.Trod enc Try.prog w base sp held 29 v d ps) :
    ∃ (a b : Int), v = .agg #[.int .i64 a, .int .i64 b] ∧ (-9223372036854775808 ≤ a ∧ a ≤ 9223372036854775807) ∧ (-9223372036854775808 ≤ b ∧ b ≤ 9223372036854775807) := by
  obtain ⟨cs, rfl⟩ := okWide_arr29 hv
  obtain ⟨fuel, hf⟩ := h
  obtain ⟨xs, n, _, _, hlen, hxl, hf⟩ := DataW.trod_array Try.underlying29 hf
  rw [cells29] at hlen
  obtain ⟨cs⟩ := cs
  have hcl : (Value.agg ⟨cs⟩).cells.toList = cs := by simp [Value.cells]
  rw [hcl] at hlen hf
  match cs, hlen with
  | [c0, c1], _ =>
    match xs, hxl with
    | [y0, y1], _ =>
      have h0 := hf 0 (by omega)
      have h1 := hf 1 (by omega)
      simp only [List.getElem?_cons_zero, List.getElem?_cons_succ] at h0 h1
      obtain ⟨a, e0, _, ha⟩ := DataW.trod_int Try.underlying3 h0
      obtain ⟨b, e1, _, hb⟩ := DataW.trod_int Try.underlying3 h1
      injection e0 with e0
      injection e1 with e1
      subst e0 e1
      exact ⟨a, b, rfl, (Lit.wf_int_iff _ _).1 ha, (Lit.wf_int_iff _ _).1 hb⟩
theorem cells54 : Try.prog.cellsOf 54 = 3 := by kernel_rfl
theorem okWide_arr54 {r : Reach} {b0 : Nat} {v : Value} (h : Value.okWide Try.prog w r b0 54 v) : ∃ cs : Array Value, v = .agg cs := by
  simp only [Value.okWide, Try.underlying54] at h
  obtain ⟨cs, h1, _⟩ := h
  exact ⟨cs, h1⟩
theorem open_arr54 {r : Reach} {b0 : Nat} {v : Value} {d : DataW H} {ps : List MemPlace} (hv : Value.okWide Try.prog w r b0 54 v) (h : DataW.Trod enc Try.prog w base sp held 54 v d ps) :
    ∃ (a b c : Int), v = .agg #[.int .u16 a, .int .u16 b, .int .u16 c] ∧ (0 ≤ a ∧ a ≤ 65535) ∧ (0 ≤ b ∧ b ≤ 65535) ∧ (0 ≤ c ∧ c ≤ 65535) := by
  obtain ⟨cs, rfl⟩ := okWide_arr54 hv
  obtain ⟨fuel, hf⟩ := h
  obtain ⟨xs, n, _, _, hlen, hxl, hf⟩ := DataW.trod_array Try.underlying54 hf
  rw [cells54] at hlen
  obtain ⟨cs⟩ := cs
  have hcl : (Value.agg ⟨cs⟩).cells.toList = cs := by simp [Value.cells]
  rw [hcl] at hlen hf
  match cs, hlen with
  | [c0, c1, c2], _ =>
    match xs, hxl with
    | [y0, y1, y2], _ =>
      have h0 := hf 0 (by omega)
      have h1 := hf 1 (by omega)
      have h2 := hf 2 (by omega)
      simp only [List.getElem?_cons_zero, List.getElem?_cons_succ] at h0 h1 h2
      obtain ⟨a, e0, _, ha⟩ := DataW.trod_int Try.underlying52 h0
      obtain ⟨b, e1, _, hb⟩ := DataW.trod_int Try.underlying52 h1
      obtain ⟨c, e2, _, hc⟩ := DataW.trod_int Try.underlying52 h2
      injection e0 with e0
      injection e1 with e1
      injection e2 with e2
      subst e0 e1 e2
      exact ⟨a, b, c, rfl, (Lit.wf_int_iff _ _).1 ha, (Lit.wf_int_iff _ _).1 hb, (Lit.wf_int_iff _ _).1 hc⟩
theorem cells58 : Try.prog.cellsOf 58 = 4 := by kernel_rfl
theorem okWide_arr58 {r : Reach} {b0 : Nat} {v : Value} (h : Value.okWide Try.prog w r b0 58 v) : ∃ cs : Array Value, v = .agg cs := by
  simp only [Value.okWide, Try.underlying58] at h
  obtain ⟨cs, h1, _⟩ := h
  exact ⟨cs, h1⟩
theorem open_arr58 {r : Reach} {b0 : Nat} {v : Value} {d : DataW H} {ps : List MemPlace} (hv : Value.okWide Try.prog w r b0 58 v) (h : DataW.Trod enc Try.prog w base sp held 58 v d ps) :
    ∃ (a b c d : Int), v = .agg #[.int .i64 a, .int .i64 b, .int .i64 c, .int .i64 d] ∧ (-9223372036854775808 ≤ a ∧ a ≤ 9223372036854775807) ∧ (-9223372036854775808 ≤ b ∧ b ≤ 9223372036854775807) ∧ (-9223372036854775808 ≤ c ∧ c ≤ 9223372036854775807) ∧ (-9223372036854775808 ≤ d ∧ d ≤ 9223372036854775807) := by
  obtain ⟨cs, rfl⟩ := okWide_arr58 hv
  obtain ⟨fuel, hf⟩ := h
  obtain ⟨xs, n, _, _, hlen, hxl, hf⟩ := DataW.trod_array Try.underlying58 hf
  rw [cells58] at hlen
  obtain ⟨cs⟩ := cs
  have hcl : (Value.agg ⟨cs⟩).cells.toList = cs := by simp [Value.cells]
  rw [hcl] at hlen hf
  match cs, hlen with
  | [c0, c1, c2, c3], _ =>
    match xs, hxl with
    | [y0, y1, y2, y3], _ =>
      have h0 := hf 0 (by omega)
      have h1 := hf 1 (by omega)
      have h2 := hf 2 (by omega)
      have h3 := hf 3 (by omega)
      simp only [List.getElem?_cons_zero, List.getElem?_cons_succ] at h0 h1 h2 h3
      obtain ⟨a, e0, _, ha⟩ := DataW.trod_int Try.underlying3 h0
      obtain ⟨b, e1, _, hb⟩ := DataW.trod_int Try.underlying3 h1
      obtain ⟨c, e2, _, hc⟩ := DataW.trod_int Try.underlying3 h2
      obtain ⟨d, e3, _, hd⟩ := DataW.trod_int Try.underlying3 h3
      injection e0 with e0
      injection e1 with e1
      injection e2 with e2
      injection e3 with e3
      subst e0 e1 e2 e3
      exact ⟨a, b, c, d, rfl, (Lit.wf_int_iff _ _).1 ha, (Lit.wf_int_iff _ _).1 hb, (Lit.wf_int_iff _ _).1 hc, (Lit.wf_int_iff _ _).1 hd⟩
theorem cells28 : Try.prog.cellsOf 28 = 7 := by kernel_rfl
theorem open_raw {r0 : Reach} {b0 : Nat} {v : Value} {dd : DataW H} {ps : List MemPlace} (hv : Value.okWide Try.prog w r0 b0 28 v) (h : DataW.Trod enc Try.prog w base sp held 28 v dd ps) :
    ∃ a b p u c d r : Int, v = .agg #[.int .i64 a, .int .i64 b, .int .i64 p, .int .i64 u, .int .i64 c, .int .i64 d, .int .i64 r] ∧ (i64 a ∧ i64 b ∧ i64 p) ∧ (i64 u ∧ i64 c ∧ i64 d ∧ i64 r) := by
  obtain ⟨cs, rfl, hsz⟩ := okWide_struct Try.underlying28 hv
  obtain ⟨fuel, hf⟩ := h
  obtain ⟨xs, n, _, _, hlen, hxl, hf⟩ := DataW.trod_struct Try.underlying28 hf
  rw [cells28] at hlen
  obtain ⟨cs⟩ := cs
  have hcl : (Value.agg ⟨cs⟩).cells.toList = cs := by simp [Value.cells]
  rw [hcl] at hlen hf
  match cs, hlen with
  | [c0, c1, c2, c3, c4, c5, c6], _ =>
    simp only [List.size_toArray, List.length_cons, List.length_nil] at hxl
    match xs, hxl with
    | [y0, y1], _ =>
      have h0 := hf 0 _ rfl
      have h1 := hf 1 _ rfl
      simp only [List.getElem?_cons_zero, List.getElem?_cons_succ] at h0 h1
      obtain ⟨a, b, p, e0, ha⟩ := open_cs24 h0
      obtain ⟨u, c, d, r, e1, hu⟩ := open_cs26 h1
      have f0 : [c0, c1, c2] = [.int .i64 a, .int .i64 b, .int .i64 p] := e0
      have f1 : [c3, c4, c5, c6] = [.int .i64 u, .int .i64 c, .int .i64 d, .int .i64 r] := e1
      clear e0 e1
      simp only [List.cons.injEq, and_true] at f0 f1
      obtain ⟨rfl, rfl, rfl⟩ := f0
      obtain ⟨rfl, rfl, rfl, rfl⟩ := f1
      exact ⟨a, b, p, u, c, d, r, rfl, ha, hu⟩
end
end Go.Proofs.Ytcilclbolmijfaa
