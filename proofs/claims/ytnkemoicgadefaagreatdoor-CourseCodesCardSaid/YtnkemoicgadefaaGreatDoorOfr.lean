/-
  The law's offer with times.
-/
import Derived.Test.YtnkemoicgadefaaGreatDoorSan
namespace Go.Proofs.YtnkemoicgadefaaGreatDoor
open Go.RowKit
attribute [local go_sem] get_mk extract_mk
theorem step_append_vals {T e sz by_ : Nat} {z : Value} (E : Elt T e sz by_ z) {w : World} {ops : Array Oper} {o : Oper} {a : Act} {K' : Act → World → Prop} {Q : Exit → Act → World → Prop} {R : Prop} (hgd : o.guard = none) (s x : Operand)
    (ho : o.op = .call { callee := .builtin .append, args := #[s, x], argTypes := #[T, T] }) (base : Nat) (v : Value) (k : Nat) (D : List Value) (hs : a.eval s = v)
    (hown : w.ownsRow base e sz v k D) (A : Option Addr) (m c : Nat) (l : List Value) (hx : a.eval x = .slice A m c) (hl : Vals w A m c sz l)
    (hb : k + m ≤ 1000000) (hbase : base ≤ w.heap.size)
    (h : ∀ v' w', w'.ownsRow base e sz v' (k + m) (D ++ l) → w.grownBy w' v.ownBlock → (v'.ownBlock = v.ownBlock ∨ v'.ownBlock = some w.heap.size) → (v' = .slice none 0 0 ↔ v = .slice none 0 0 ∧ m = 0) → K' (a.put o.dst v') w') :
    if Region.wanted o (yielded ops a.tmps) = true then Oper.wp Tryz.prog o a w K' Q else R := by
  have hw : Region.wanted o (yielded ops a.tmps) = true := by simp [Region.wanted, hgd]
  rw [if_pos hw]
  exact wp_append_vals E w s x ho base v k D hs hown A m c l hx hl hb hbase h
theorem own_base {w : World} {b b' e sz n : Nat} {v : Value} {vs : List Value} (h : w.ownsRow b e sz v n vs) (hb : b' ≤ b) : w.ownsRow b' e sz v n vs := by
  unfold World.ownsRow at h ⊢
  refine ⟨h.1, ?_⟩
  rcases h.2 with e | ⟨g, cap, cur, e, h1, h2⟩
  · exact .inl e
  · exact .inr ⟨g, cap, cur, e, Nat.le_trans hb h1, h2⟩
/-- bytes as numbers -/
structure U8s (w : World) (A : Option Addr) (n c : Nat) (l : List Int) : Prop where
  v : Vals w A n c 1 (l.map (Value.int .u8))
  ok : ∀ x ∈ l, 0 ≤ x ∧ x < 256
theorem U8s.kept {w w' : World} {A : Option Addr} {n c : Nat} {l : List Int} (h : U8s w A n c l) (g : w.grownBy w' none) : U8s w' A n c l := ⟨h.v.kept g, h.ok⟩
theorem U8s.len {w : World} {A : Option Addr} {n c : Nat} {l : List Int} (h : U8s w A n c l) : n = l.length := by have := h.v.len; simpa using this
theorem U8s.at {w : World} {A : Option Addr} {n c : Nat} {l : List Int} (h : U8s w A n c l) (j : Nat) (hj : j < n) : ∃ (ad : Addr) (x : Int), l[j]? = some x ∧ (0 ≤ x ∧ x < 256) ∧ A = some ad ∧ ad.block < w.heap.size ∧ w.cell? (ad.add j) = some (.int .u8 x) := by
  obtain ⟨ad, v, e, hv, hb, hc⟩ := h.v.at j hj
  rw [List.getElem?_map] at hv
  obtain ⟨x, hx, rfl⟩ := Option.map_eq_some_iff.1 hv
  exact ⟨ad, x, hx, h.ok x (List.mem_of_getElem? hx), e, hb, hc⟩
end Go.Proofs.YtnkemoicgadefaaGreatDoor
