/-
  What the laws' arguments read as, opened to cells.
-/
import Derived.Test.YtnkemoicgadefaaGreatDoorOfr
import Derived.Test.YtnkemoicgadefaaGreatDoorLaid
import Derived.Deep.Slices
import Derived.DataShut
namespace Go.Proofs.YtnkemoicgadefaaGreatDoor
open Go.RowKit
open Go.ChangeShapes Go.WideShapes Go.Deep
section
variable {H : Type} {enc : TypeId × Value → H} {w : World} {base : Nat} {sp : Nat → Bool} {held : Bool}
theorem list_of {α : Type} {Q : Nat → α → Prop} : ∀ n, (∀ i, i < n → ∃ x, Q i x) → ∃ l : List α, n = l.length ∧ ∀ j x, l[j]? = some x → Q j x := by
  intro n
  induction n with
  | zero => intro _; exact ⟨[], rfl, fun j x h => by simp at h⟩
  | succ n ih =>
    intro h
    obtain ⟨l, hl, hq⟩ := ih (fun i hi => h i (by omega))
    obtain ⟨x, hx⟩ := h n (by omega)
    refine ⟨l ++ [x], by simp; omega, fun j y hy => ?_⟩
    rcases Nat.lt_or_ge j l.length with hj | hj
    · rw [List.getElem?_append_left hj] at hy
      exact hq j y hy
    · rw [List.getElem?_append_right hj] at hy
      obtain ⟨k, hk⟩ : ∃ k, j - l.length = k := ⟨_, rfl⟩
      rw [hk] at hy
      match k, hk with
      | 0, hk =>
        simp at hy
        subst hy
        obtain rfl : j = n := by omega
        exact hx
      | k + 1, _ => simp at hy

theorem open_list {α : Type} {P : Program} {t e : TypeId} {f : α → Value} {G : α → Prop} {fuel : Nat} {cs : List Value} {x : DataW H × List MemPlace} (ht : P.underlying t = some (.slice e)) (hce : P.cellsOf e = 1) (h1 : ∀ z, (f z).oneCell' = true)
    (hel : ∀ n cs x, DataW.trod enc P w base sp held n e cs = some x → ∃ z, cs = [f z] ∧ G z) (h : DataW.trod enc P w base sp held fuel t cs = some x) :
    ∃ (A : Option Addr) (n c : Nat) (l : List α), cs = [.slice A n c] ∧ (∀ z ∈ l, G z) ∧ Vals w A n c 1 (l.map f) := by
  rcases open_slice ht h with ⟨rfl, rfl⟩ | ⟨a, len, cap, m, n, D, Pl, rfl, hb, hl, hm, hmm, rfl, hi⟩
  · exact ⟨none, 0, 0, [], rfl, (by intro z hz; cases hz), Vals.nil_ w 1⟩
  · have hlm : len ≤ m := by rw [hmm]; split <;> omega
    obtain ⟨l, hll, hq⟩ := list_of (Q := fun i z => w.cell? (a.add i) = some (f z) ∧ G z) len (fun i hil => by
      obtain ⟨cs', hc, htr⟩ := hi i (by omega)
      obtain ⟨z, rfl, hz⟩ := hel _ _ _ htr
      rw [hce, Nat.mul_one] at hc
      obtain ⟨_, hcl, hat⟩ := World.cells?_some hc
      have h0 := hat 0 (by omega)
      refine ⟨z, ?_, hz⟩
      have e0 : (a.add i).add 0 = a.add i := by simp [Addr.add]
      rw [e0] at h0
      simpa using h0)
    refine ⟨some a, len, cap, l, rfl, fun z hz => ?_, ⟨by simp [hll], hl, Nat.le_trans hm (by simp [maxLen]), (fun e => by cases e), fun v hv => ?_, fun h0 => ⟨a, rfl, ?_, fun j v hv => ?_⟩⟩⟩
    · obtain ⟨j, hj⟩ := List.getElem?_of_mem hz
      exact (hq j z hj).2
    · obtain ⟨z, _, rfl⟩ := List.mem_map.1 hv
      exact h1 z
    · have h1 : 0 < l.length := by omega
      have h2 := (hq 0 l[0] (List.getElem?_eq_getElem h1)).1
      have h3 := World.block_lt_of_cell? w _ h2
      rwa [add_block] at h3
    · rw [List.getElem?_map] at hv
      obtain ⟨z, hz, rfl⟩ := Option.map_eq_some_iff.1 hv
      exact (hq j z hz).1
theorem elem_u8 : ∀ n cs x, DataW.trod enc Tryz.prog w base sp held n 5 cs = some x → ∃ z : Int, cs = [.int .u8 z] ∧ 0 ≤ z ∧ z < 256 := by
  intro n cs x h
  obtain ⟨z, rfl, _, hw⟩ := DataW.trod_int Tryz.underlying5 h
  have hb : 0 ≤ z ∧ z ≤ 255 := (Lit.wf_int_iff _ _).1 hw
  exact ⟨z, rfl, hb.1, by omega⟩
theorem cells5 : Tryz.prog.cellsOf 5 = 1 := by kernel_rfl
set_option maxRecDepth 100000 in
theorem open_u8s {r : Reach} {b0 : Nat} {v : Value} {d : DataW H} {ps : List MemPlace} (hv : Value.okWide Tryz.prog w r b0 56 v) (h : DataW.Trod enc Tryz.prog w base sp held 56 v d ps) :
    ∃ (A : Option Addr) (n c : Nat) (l : List Int), v = .slice A n c ∧ U8s w A n c l := by
  obtain ⟨a, len, cap, rfl⟩ := okWide_slice Tryz.underlying56 hv
  obtain ⟨fuel, hf⟩ := h
  obtain ⟨A, n, c, l, e, h1, h2⟩ := open_list (f := Value.int .u8) Tryz.underlying56 cells5 (fun _ => rfl) elem_u8 hf
  injection e with e _
  exact ⟨A, n, c, l, e, ⟨h2, h1⟩⟩
end
end Go.Proofs.YtnkemoicgadefaaGreatDoor
