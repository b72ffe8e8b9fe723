/-
  A slice of steps, opened to cells.
-/
import Derived.Test.YtgfifpbmjkjnpaaOps
namespace Go.Proofs.Ytgfifpbmjkjnpaa
open Go.ChangeShapes Go.WideShapes Go.RowKit Go.Deep
/-- a step of the law DateServers -/
structure StepT where
  a : Bool
  d : Int
  t : Bool
def StepT.cells (x : StepT) : Array Value := #[.bool x.a, .int .u8 x.d, .bool x.t]
def StepT.ok (x : StepT) : Prop := 0 ≤ x.d ∧ x.d ≤ 255
/-- the slice A, n, c holds the steps l -/
structure Steps (w : World) (A : Option Addr) (n c : Nat) (l : List StepT) : Prop where
  len : n = l.length
  le : n ≤ c
  cap : c ≤ 9223372036854775807
  ok : ∀ x ∈ l, x.ok
  cell : 0 < n → ∃ ad, A = some ad ∧ ad.block < w.heap.size ∧ ∀ (j : Nat) (x : StepT), l[j]? = some x → ∀ (i : Nat) (v : Value), x.cells[i]? = some v → w.cell? ((ad.add (j * 3)).add i) = some v
theorem Steps.kept {w w' : World} {A : Option Addr} {n c : Nat} {l : List StepT} (h : Steps w A n c l) (g : w.grownBy w' none) : Steps w' A n c l :=
  ⟨h.len, h.le, h.cap, h.ok, fun hn => by
    obtain ⟨ad, e, hb, hc⟩ := h.cell hn
    exact ⟨ad, e, Nat.lt_of_lt_of_le hb g.size, fun j x hj i v hv => gcell g (hc j x hj i v hv)⟩⟩
section
variable {H : Type} {enc : TypeId × Value → H} {w : World} {base : Nat} {sp : Nat → Bool} {held : Bool}
theorem cells54 : Try.prog.cellsOf 54 = 3 := by kernel_rfl
theorem open_step {fuel : Nat} {cs : List Value} {x : DataW H × List MemPlace} (h : DataW.trod enc Try.prog w base sp held fuel 54 cs = some x) : ∃ (a : Bool) (d : Int) (t : Bool), cs = [.bool a, .int .u8 d, .bool t] ∧ 0 ≤ d ∧ d ≤ 255 := by
  obtain ⟨xs, n, _, _, hlen, hxl, hf⟩ := DataW.trod_struct Try.underlying54 h
  rw [cells54] at hlen
  match cs, hlen with
  | [c0, c1, c2], _ =>
    simp only [List.size_toArray, List.length_cons, List.length_nil] at hxl
    match xs, hxl with
    | [y0, y1, y2], _ =>
      have h0 := hf 0 _ rfl
      have h1 := hf 1 _ rfl
      have h2 := hf 2 _ rfl
      simp only [List.getElem?_cons_zero, List.getElem?_cons_succ] at h0 h1 h2
      obtain ⟨a, e0, _⟩ := DataW.trod_bool Try.underlying4 h0
      obtain ⟨d, e1, _, hd⟩ := DataW.trod_int Try.underlying5 h1
      obtain ⟨t, e2, _⟩ := DataW.trod_bool Try.underlying4 h2
      injection e0 with e0
      injection e1 with e1
      injection e2 with e2
      subst e0 e1 e2
      exact ⟨a, d, t, rfl, ((Lit.wf_int_iff _ _).1 hd)⟩
theorem open_stepsl {fuel : Nat} {cs : List Value} {x : DataW H × List MemPlace} (h : DataW.trod enc Try.prog w base sp held fuel 50 cs = some x) :
    ∃ (A : Option Addr) (n c : Nat) (l : List StepT), cs = [.slice A n c] ∧ Steps w A n c l := by
  rcases open_slice Try.underlying50 h with ⟨rfl, rfl⟩ | ⟨a, len, cap, m, n, D, Pl, rfl, hb, hl, hm, hmm, rfl, hi⟩
  · exact ⟨none, 0, 0, [], rfl, rfl, Nat.le_refl _, by omega, (by intro z hz; cases hz), fun h => by omega⟩
  · have hlm : len ≤ m := by rw [hmm]; split <;> omega
    obtain ⟨l, hll, hq⟩ := list_of (Q := fun i (z : StepT) => (∀ (k : Nat) (v : Value), z.cells[k]? = some v → w.cell? ((a.add (i * 3)).add k) = some v) ∧ z.ok) len (fun i hil => by
      obtain ⟨cs', hc, htr⟩ := hi i (by omega)
      obtain ⟨sa, sd, st, rfl, hz⟩ := open_step htr
      rw [cells54] at hc
      obtain ⟨_, hcl, hat⟩ := World.cells?_some hc
      refine ⟨⟨sa, sd, st⟩, fun k v hv => ?_, hz⟩
      have hk : k < 3 := by
        rcases Nat.lt_or_ge k 3 with h | h
        · exact h
        · rw [Array.getElem?_eq_none (by simpa [StepT.cells] using h)] at hv; cases hv
      have h0 := hat k hk
      rw [h0, ← hv]
      simp [StepT.cells])
    refine ⟨some a, len, cap, l, rfl, hll, hl, by unfold maxLen at hm; omega, fun z hz => ?_, fun h0 => ⟨a, rfl, ?_, fun j z hz => (hq j z hz).1⟩⟩
    · obtain ⟨j, hj⟩ := List.getElem?_of_mem hz
      exact (hq j z hj).2
    · have h1 : 0 < l.length := by omega
      have h2 := (hq 0 l[0] (List.getElem?_eq_getElem h1)).1 0 _ rfl
      have h3 := World.block_lt_of_cell? w _ h2
      rwa [add_block, add_block] at h3
theorem open_steps {r : Reach} {b0 : Nat} {v : Value} {d : DataW H} {ps : List MemPlace} (hv : Value.okWide Try.prog w r b0 50 v) (h : DataW.Trod enc Try.prog w base sp held 50 v d ps) :
    ∃ (A : Option Addr) (n c : Nat) (l : List StepT), v = .slice A n c ∧ Steps w A n c l := by
  obtain ⟨a, len, cap, rfl⟩ := okWide_slice Try.underlying50 hv
  obtain ⟨fuel, hf⟩ := h
  obtain ⟨A, n, c, l, hx, ho⟩ := open_stepsl hf
  refine ⟨A, n, c, l, ?_, ho⟩
  simpa [Value.cells] using hx
end
theorem step_at {w : World} {A : Option Addr} {n c : Nat} {l : List StepT} (h : Steps w A n c l) (k : Nat) (hk : k < n) :
    ∃ (ad : Addr) (a : Bool) (d : Int) (t : Bool), A = some ad ∧ ad.block < w.heap.size ∧ (0 ≤ d ∧ d ≤ 255) ∧ w.cell? (ad.add (k * 3)) = some (.bool a) ∧ w.cell? ⟨(ad.add (k * 3)).block, (ad.add (k * 3)).off + 1, none⟩ = some (.int .u8 d) ∧
      w.cell? ⟨(ad.add (k * 3)).block, (ad.add (k * 3)).off + 2, none⟩ = some (.bool t) := by
  obtain ⟨ad, e, hb, hc⟩ := h.cell (by omega)
  have hl := h.len
  obtain ⟨x, hg⟩ : ∃ x, l[k]? = some x := ⟨_, List.getElem?_eq_getElem (by omega)⟩
  have hok := h.ok x (List.mem_of_getElem? hg)
  obtain ⟨a, d, t⟩ := x
  have hx := hc k _ hg
  have x0 := hx 0 _ rfl
  have x1 := hx 1 _ rfl
  have x2 := hx 2 _ rfl
  rw [add_at _ 1 (by omega)] at x1
  rw [add_at _ 2 (by omega)] at x2
  rw [show (ad.add (k * 3)).add 0 = ad.add (k * 3) by simp [Addr.add]] at x0
  exact ⟨ad, a, d, t, e, hb, hok, x0, x1, x2⟩
end Go.Proofs.Ytgfifpbmjkjnpaa
