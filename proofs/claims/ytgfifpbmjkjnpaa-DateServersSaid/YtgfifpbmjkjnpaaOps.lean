/-
  A slice of operations, opened to cells; Op.small.
-/
import Derived.Test.YtgfifpbmjkjnpaaOpen
import Derived.Test.YtgfifpbmjkjnpaaSane
namespace Go.Proofs.Ytgfifpbmjkjnpaa
open Go.ChangeShapes Go.WideShapes Go.RowKit Go.Deep
/-- an operation of the laws -/
structure OpT where
  h : Bool
  o : Int
  p : Int
  q : Int
  r : Int
def OpT.cells (x : OpT) : Array Value := #[.bool x.h, .int .i64 x.o, .int .i64 x.p, .int .i64 x.q, .int .i64 x.r]
def OpT.ok (x : OpT) : Prop := i64 x.o ∧ i64 x.p ∧ i64 x.q ∧ i64 x.r
/-- the slice A, n, c holds the operations l -/
structure Ops (w : World) (A : Option Addr) (n c : Nat) (l : List OpT) : Prop where
  len : n = l.length
  le : n ≤ c
  cap : c ≤ 9223372036854775807
  ok : ∀ x ∈ l, x.ok
  cell : 0 < n → ∃ ad, A = some ad ∧ ad.block < w.heap.size ∧ ∀ (j : Nat) (x : OpT), l[j]? = some x → ∀ (i : Nat) (v : Value), x.cells[i]? = some v → w.cell? ((ad.add (j * 5)).add i) = some v
theorem Ops.kept {w w' : World} {A : Option Addr} {n c : Nat} {l : List OpT} (h : Ops w A n c l) (g : w.grownBy w' none) : Ops w' A n c l :=
  ⟨h.len, h.le, h.cap, h.ok, fun hn => by
    obtain ⟨ad, e, hb, hc⟩ := h.cell hn
    exact ⟨ad, e, Nat.lt_of_lt_of_le hb g.size, fun j x hj i v hv => gcell g (hc j x hj i v hv)⟩⟩
theorem list_of {α : Type} {Q : Nat → α → Prop} : ∀ n, (∀ i, i < n → ∃ x, Q i x) → ∃ l : List α, n = l.length ∧ ∀ j x, l[j]? = some x → Q j x := by
  intro n
  induction n with
  | zero => intro _; exact ⟨[], rfl, fun j x h => by simp at h⟩
  | succ n ih =>
    intro h
    obtain ⟨l, hl, hq⟩ := ih (fun i hi => h i (by omega))
    obtain ⟨x, hx⟩ := h n (by omega)
    refine ⟨l ++ [x], by simp; omega, fun j y hy => ?_⟩
    rcases Nat.lt_or_ge j l.length with hj | hj
    · rw [List.getElem?_append_left hj] at hy
      exact hq j y hy
    · rw [List.getElem?_append_right hj] at hy
      obtain ⟨k, hk⟩ : ∃ k, j - l.length = k := ⟨_, rfl⟩
      rw [hk] at hy
      match k, hk with
      | 0, hk =>
        simp at hy
        subst hy
        obtain rfl : j = n := by omega
        exact hx
      | k + 1, _ => simp at hy
theorem add_block (a : Addr) (n : Nat) : (a.add n).block = a.block := by unfold Addr.add; split <;> rfl
section
variable {H : Type} {enc : TypeId × Value → H} {w : World} {base : Nat} {sp : Nat → Bool} {held : Bool}
theorem open_list {fuel : Nat} {cs : List Value} {x : DataW H × List MemPlace} (h : DataW.trod enc Try.prog w base sp held fuel 32 cs = some x) :
    ∃ (A : Option Addr) (n c : Nat) (l : List OpT), cs = [.slice A n c] ∧ Ops w A n c l := by
  rcases open_slice Try.underlying32 h with ⟨rfl, rfl⟩ | ⟨a, len, cap, m, n, D, Pl, rfl, hb, hl, hm, hmm, rfl, hi⟩
  · exact ⟨none, 0, 0, [], rfl, rfl, Nat.le_refl _, by omega, (by intro z hz; cases hz), fun h => by omega⟩
  · have hlm : len ≤ m := by rw [hmm]; split <;> omega
    obtain ⟨l, hll, hq⟩ := list_of (Q := fun i (z : OpT) => (∀ (k : Nat) (v : Value), z.cells[k]? = some v → w.cell? ((a.add (i * 5)).add k) = some v) ∧ z.ok) len (fun i hil => by
      obtain ⟨cs', hc, htr⟩ := hi i (by omega)
      obtain ⟨b, o, p, q, r, rfl, hz⟩ := open_ops htr
      rw [cells41] at hc
      obtain ⟨_, hcl, hat⟩ := World.cells?_some hc
      refine ⟨⟨b, o, p, q, r⟩, fun k v hv => ?_, hz⟩
      have hk : k < 5 := by
        rcases Nat.lt_or_ge k 5 with h | h
        · exact h
        · rw [Array.getElem?_eq_none (by simpa [OpT.cells] using h)] at hv; cases hv
      have h0 := hat k hk
      rw [h0, ← hv]
      simp [OpT.cells])
    refine ⟨some a, len, cap, l, rfl, hll, hl, by unfold maxLen at hm; omega, fun z hz => ?_, fun h0 => ⟨a, rfl, ?_, fun j z hz => (hq j z hz).1⟩⟩
    · obtain ⟨j, hj⟩ := List.getElem?_of_mem hz
      exact (hq j z hj).2
    · have h1 : 0 < l.length := by omega
      have h2 := (hq 0 l[0] (List.getElem?_eq_getElem h1)).1 0 _ rfl
      have h3 := World.block_lt_of_cell? w _ h2
      rwa [add_block, add_block] at h3
theorem open_oplist {r : Reach} {b0 : Nat} {v : Value} {d : DataW H} {ps : List MemPlace} (hv : Value.okWide Try.prog w r b0 32 v) (h : DataW.Trod enc Try.prog w base sp held 32 v d ps) :
    ∃ (A : Option Addr) (n c : Nat) (l : List OpT), v = .slice A n c ∧ Ops w A n c l := by
  obtain ⟨a, len, cap, rfl⟩ := okWide_slice Try.underlying32 hv
  obtain ⟨fuel, hf⟩ := h
  obtain ⟨A, n, c, l, hx, ho⟩ := open_list hf
  refine ⟨A, n, c, l, ?_, ho⟩
  simpa [Value.cells] using hx
end
theorem add_at (a : Addr) (i : Nat) (hi : 0 < i) : a.add i = ⟨a.block, a.off + i, none⟩ := by
  unfold Addr.add; split
  · omega
  · rfl
theorem ops_at {w : World} {A : Option Addr} {n c : Nat} {l : List OpT} (h : Ops w A n c l) (k : Nat) (hk : k < n) :
    ∃ (ad : Addr) (h : Bool) (o p q r : Int), l[k]? = some ⟨h, o, p, q, r⟩ ∧ A = some ad ∧ ad.block < w.heap.size ∧ w.cell? (ad.add (k * 5)) = some (.bool h) ∧ w.cell? ⟨(ad.add (k * 5)).block, (ad.add (k * 5)).off + 1, none⟩ = some (.int .i64 o) ∧
      w.cell? ⟨(ad.add (k * 5)).block, (ad.add (k * 5)).off + 2, none⟩ = some (.int .i64 p) ∧ w.cell? ⟨(ad.add (k * 5)).block, (ad.add (k * 5)).off + 3, none⟩ = some (.int .i64 q) ∧ w.cell? ⟨(ad.add (k * 5)).block, (ad.add (k * 5)).off + 4, none⟩ = some (.int .i64 r) := by
  obtain ⟨ad, e, hb, hc⟩ := h.cell (by omega)
  have hl := h.len
  obtain ⟨x, hg⟩ : ∃ x, l[k]? = some x := ⟨_, List.getElem?_eq_getElem (by omega)⟩
  obtain ⟨h, o, p, q, r⟩ := x
  have hx := hc k _ hg
  have x0 := hx 0 _ rfl
  have x1 := hx 1 _ rfl
  have x2 := hx 2 _ rfl
  have x3 := hx 3 _ rfl
  have x4 := hx 4 _ rfl
  rw [add_at _ 1 (by omega)] at x1
  rw [add_at _ 2 (by omega)] at x2
  rw [add_at _ 3 (by omega)] at x3
  rw [add_at _ 4 (by omega)] at x4
  rw [show (ad.add (k * 5)).add 0 = ad.add (k * 5) by simp [Addr.add]] at x0
  exact ⟨ad, h, o, p, q, r, hg, e, hb, x0, x1, x2, x3, x4⟩
/-- an operation at block b -/
def S5 (w : World) (b : Nat) (h : Bool) (o p q r : Int) : Prop := w.heap[b]? = some (.cells #[.bool h, .int .i64 o, .int .i64 p, .int .i64 q, .int .i64 r] 41 (0, 0))
theorem S5.c0 {w : World} {b : Nat} {h : Bool} {o p q r : Int} (H : S5 w b h o p q r) : w.cell? ⟨b, 0, none⟩ = some (.bool h) := by unfold S5 at H; simp [World.cell?, H]
theorem S5.c1 {w : World} {b : Nat} {h : Bool} {o p q r : Int} (H : S5 w b h o p q r) : w.cell? ⟨b, 1, none⟩ = some (.int .i64 o) := by unfold S5 at H; simp [World.cell?, H]
theorem S5.c2 {w : World} {b : Nat} {h : Bool} {o p q r : Int} (H : S5 w b h o p q r) : w.cell? ⟨b, 2, none⟩ = some (.int .i64 p) := by unfold S5 at H; simp [World.cell?, H]
theorem S5.c3 {w : World} {b : Nat} {h : Bool} {o p q r : Int} (H : S5 w b h o p q r) : w.cell? ⟨b, 3, none⟩ = some (.int .i64 q) := by unfold S5 at H; simp [World.cell?, H]
theorem S5.c4 {w : World} {b : Nat} {h : Bool} {o p q r : Int} (H : S5 w b h o p q r) : w.cell? ⟨b, 4, none⟩ = some (.int .i64 r) := by unfold S5 at H; simp [World.cell?, H]
theorem S5.lt {w : World} {b : Nat} {h : Bool} {o p q r : Int} (H : S5 w b h o p q r) : b < w.heap.size := by
  rcases Nat.lt_or_ge b w.heap.size with hlt | hge
  · exact hlt
  · unfold S5 at H; rw [Array.getElem?_eq_none hge] at H; cases H
theorem S5.keptR {w w' : World} {b : Nat} {row : Option Nat} {h : Bool} {o p q r : Int} (H : S5 w b h o p q r) (hg : w.grownBy w' row) (hne : some b ≠ row) : S5 w' b h o p q r := (hg.block b H.lt hne).trans H
theorem S5.kept {w w' : World} {b : Nat} {h : Bool} {o p q r : Int} (H : S5 w b h o p q r) (hg : w.grownBy w' none) : S5 w' b h o p q r := H.keptR hg (by simp)
theorem S5.new (w : World) (h : Bool) (o p q r : Int) : S5 (w.alloc (.cells #[.bool h, .int .i64 o, .int .i64 p, .int .i64 q, .int .i64 r] 41)) w.heap.size h o p q r := World.alloc_heap_new w _
theorem small_k (h : Bool) (o p q r : Int) (w : World) : Calls Try.prog 27 #[.agg #[.bool h, .int .i64 o, .int .i64 p, .int .i64 q, .int .i64 r]] w fun e w' => e = .returned (.agg #[.bool h, .int .i64 (o.tmod 40), .int .i64 (p.tmod 40), .int .i64 (q.tmod 9), .int .i64 (r.tmod 9)]) ∧ w.grownBy w' none := by
  go_enter Try.func27, Try.ntmps27
  go_wp2_with fail
  exact bodyPost_ret (v := .agg #[.bool h, .int .i64 (o.tmod 40), .int .i64 (p.tmod 40), .int .i64 (q.tmod 9), .int .i64 (r.tmod 9)]) (by simp [results, Try.results27, go_sem]) rfl ⟨rfl, grown_al (World.grownBy_alloc w _ none)⟩
end Go.Proofs.Ytgfifpbmjkjnpaa
