/-
  What the laws' arguments read as, opened to cells.
-/
import Derived.Test.YtmohcanfkcopiaaDoorVal
import Derived.Test.YtmohcanfkcopiaaDoorLaid
import Derived.Deep.Slices
import Derived.DataShut
namespace Go.Proofs.YtmohcanfkcopiaaDoor
open Go.ChangeShapes Go.WideShapes Go.RowKit Go.Deep
section
variable {H : Type} {enc : TypeId × Value → H} {w : World} {base : Nat} {sp : Nat → Bool} {held : Bool}

theorem list_of {α : Type} {Q : Nat → α → Prop} : ∀ n, (∀ i, i < n → ∃ x, Q i x) → ∃ l : List α, n = l.length ∧ ∀ j x, l[j]? = some x → Q j x := by
  intro n
  induction n with
  | zero => intro _; exact ⟨[], rfl, fun j x h => by simp at h⟩
  | succ n ih =>
    intro h
    obtain ⟨l, hl, hq⟩ := ih (fun i hi => h i (by omega))
    obtain ⟨x, hx⟩ := h n (by omega)
    refine ⟨l ++ [x], by simp; omega, fun j y hy => ?_⟩
    rcases Nat.lt_or_ge j l.length with hj | hj
    · rw [List.getElem?_append_left hj] at hy
      exact hq j y hy
    · rw [List.getElem?_append_right hj] at hy
      obtain ⟨k, hk⟩ : ∃ k, j - l.length = k := ⟨_, rfl⟩
      rw [hk] at hy
      match k, hk with
      | 0, hk =>
        simp at hy
        subst hy
        obtain rfl : j = n := by omega
        exact hx
      | k + 1, _ => simp at hy

theorem open_list {α : Type} {P : Program} {t e : TypeId} {f : α → Value} {G : α → Prop} {fuel : Nat} {cs : List Value} {x : DataW H × List MemPlace} (ht : P.underlying t = some (.slice e)) (hce : P.cellsOf e = 1)
    (hel : ∀ n cs x, DataW.trod enc P w base sp held n e cs = some x → ∃ z, cs = [f z] ∧ G z) (h : DataW.trod enc P w base sp held fuel t cs = some x) :
    ∃ (A : Option Addr) (n c : Nat) (l : List α), cs = [.slice A n c] ∧ n = l.length ∧ n ≤ c ∧ c ≤ maxLen ∧ (∀ z ∈ l, G z) ∧ (0 < n → ∃ ad, A = some ad ∧ ad.block < w.heap.size ∧ ∀ j z, l[j]? = some z → w.cell? (ad.add j) = some (f z)) := by
  rcases open_slice ht h with ⟨rfl, rfl⟩ | ⟨a, len, cap, m, n, D, Pl, rfl, hb, hl, hm, hmm, rfl, hi⟩
  · exact ⟨none, 0, 0, [], rfl, rfl, Nat.le_refl _, by simp [maxLen], (by intro z hz; cases hz), fun h => by omega⟩
  · have hlm : len ≤ m := by rw [hmm]; split <;> omega
    obtain ⟨l, hll, hq⟩ := list_of (Q := fun i z => w.cell? (a.add i) = some (f z) ∧ G z) len (fun i hil => by
      obtain ⟨cs', hc, htr⟩ := hi i (by omega)
      obtain ⟨z, rfl, hz⟩ := hel _ _ _ htr
      rw [hce, Nat.mul_one] at hc
      obtain ⟨_, hcl, hat⟩ := World.cells?_some hc
      have h0 := hat 0 (by omega)
      refine ⟨z, ?_, hz⟩
      have e0 : (a.add i).add 0 = a.add i := by simp [Addr.add]
      rw [e0] at h0
      simpa using h0)
    refine ⟨some a, len, cap, l, rfl, hll, hl, hm, fun z hz => ?_, fun h0 => ⟨a, rfl, ?_, fun j z hz => (hq j z hz).1⟩⟩
    · obtain ⟨j, hj⟩ := List.getElem?_of_mem hz
      exact (hq j z hj).2
    · have h1 : 0 < l.length := by omega
      have h2 := (hq 0 l[0] (List.getElem?_eq_getElem h1)).1
      have h3 := World.block_lt_of_cell? w _ h2
      rwa [add_block] at h3

theorem elem_int : ∀ n cs x, DataW.trod enc Tryd.prog w base sp held n 3 cs = some x → ∃ z : Int, cs = [.int .i64 z] ∧ I64 z := by
  intro n cs x h
  obtain ⟨z, rfl, _, hw⟩ := DataW.trod_int Tryd.underlying3 h
  exact ⟨z, rfl, (Lit.wf_int_iff _ _).1 hw⟩
theorem elem_str : ∀ n cs x, DataW.trod enc Tryd.prog w base sp held n 9 cs = some x → ∃ z : List UInt8, cs = [.string ⟨z.toArray⟩] ∧ z.length ≤ 9223372036854775807 := by
  intro n cs x h
  obtain ⟨⟨⟨z⟩⟩, rfl, _, hw⟩ := DataW.trod_string Tryd.underlying9 h
  exact ⟨z, rfl, by simpa [ByteArray.size, maxLen] using hw⟩
theorem cells3 : Tryd.prog.cellsOf 3 = 1 := by kernel_rfl
theorem cells4 : Tryd.prog.cellsOf 4 = 1 := by kernel_rfl
theorem cells5 : Tryd.prog.cellsOf 5 = 1 := by kernel_rfl
theorem cells22 : Tryd.prog.cellsOf 22 = 1 := by kernel_rfl
theorem cells23 : Tryd.prog.cellsOf 23 = 1 := by kernel_rfl
theorem cells45 : Tryd.prog.cellsOf 45 = 5 := by kernel_rfl

set_option maxRecDepth 100000 in
theorem open_cells {fuel : Nat} {cs : List Value} {x : DataW H × List MemPlace} (h : DataW.trod enc Tryd.prog w base sp held fuel 45 cs = some x) : ∃ v : Val, cs = v.cells.toList ∧ v.ok w := by
  obtain ⟨xs, n, _, _, hlen, hxl, hf⟩ := DataW.trod_struct Tryd.underlying45 h
  rw [cells45] at hlen
  match cs, hlen with
  | [c0, c1, c2, c3, c4], _ =>
    simp only [List.size_toArray, List.length_cons, List.length_nil] at hxl
    match xs, hxl with
    | [y0, y1, y2, y3, y4], _ =>
      have h0 := hf 0 _ rfl
      have h1 := hf 1 _ rfl
      have h2 := hf 2 _ rfl
      have h3 := hf 3 _ rfl
      have h4 := hf 4 _ rfl
      simp only [List.getElem?_cons_zero, List.getElem?_cons_succ] at h0 h1 h2 h3 h4
      obtain ⟨k, e0, _, hk⟩ := DataW.trod_int Tryd.underlying5 h0
      obtain ⟨i, e1, hi⟩ := elem_int _ _ _ h1
      obtain ⟨s, e2, hs⟩ := elem_str _ _ _ h2
      obtain ⟨A, ln, lc, l, e3, hl1, hl2, hl3, hl4, hl5⟩ := open_list Tryd.underlying22 cells3 elem_int h3
      obtain ⟨B, tn, tc, t, e4, ht1, ht2, ht3, ht4, ht5⟩ := open_list Tryd.underlying23 cells9 elem_str h4
      have hkw : 0 ≤ k ∧ k ≤ 255 := (Lit.wf_int_iff _ _).1 hk
      obtain ⟨kd, rfl⟩ := Int.eq_ofNat_of_zero_le hkw.1
      injection e0 with e0
      injection e1 with e1
      injection e2 with e2
      injection e3 with e3
      injection e4 with e4
      subst e0 e1 e2 e3 e4
      exact ⟨⟨kd, i, s, A, ln, lc, l, B, tn, tc, t⟩, rfl, by simp only; omega, hi, hs, hl1, hl2, hl3, hl4, hl5, ht1, ht2, ht3, ht4, ht5⟩

set_option maxRecDepth 100000 in
theorem open_val {r : Reach} {b0 : Nat} {v : Value} {d : DataW H} {ps : List MemPlace} (hv : Value.okWide Tryd.prog w r b0 45 v) (h : DataW.Trod enc Tryd.prog w base sp held 45 v d ps) : ∃ x : Val, v = .agg x.cells ∧ x.ok w := by
  obtain ⟨cs, rfl, hsz⟩ := okWide_struct Tryd.underlying45 hv
  obtain ⟨fuel, hf⟩ := h
  obtain ⟨x, hx, hok⟩ := open_cells hf
  refine ⟨x, ?_, hok⟩
  have : cs = x.cells := by
    apply Array.ext'
    simpa [Value.cells] using hx
  rw [this]
end
end Go.Proofs.YtmohcanfkcopiaaDoor
