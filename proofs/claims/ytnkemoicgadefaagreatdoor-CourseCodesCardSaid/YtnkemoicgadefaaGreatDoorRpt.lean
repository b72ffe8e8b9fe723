/-
  The reference's Put.
-/
import Derived.Test.YtnkemoicgadefaaGreatDoorRsm
namespace Go.Proofs.YtnkemoicgadefaaGreatDoor
open Go.RowKit
attribute [local go_sem] get_mk extract_mk
theorem Vals.takeV {w : World} {A : Option Addr} {n c : Nat} {vs : List Value} (h : Vals w A n c 1 vs) (k : Nat) (hk : k ≤ n) : Vals w A k c 1 (vs.take k) :=
  ⟨by have := h.len; rw [List.length_take]; omega, by have := h.le; omega, h.cap, h.nil, fun v hv => h.one v (List.mem_of_mem_take hv), fun h0 => by
    obtain ⟨ad, e, hb, hc⟩ := h.cell (by omega)
    exact ⟨ad, e, hb, fun j v hj => hc j v (by
      rw [List.getElem?_take] at hj
      split at hj
      · exact hj
      · cases hj)⟩⟩
theorem Vals.dropV {w : World} {ad : Addr} {n c : Nat} {vs : List Value} (h : Vals w (some ad) n c 1 vs) (k : Nat) (hk : k ≤ n) : Vals w (some (ad.add k)) (n - k) (c - k) 1 (vs.drop k) :=
  ⟨by have := h.len; rw [List.length_drop]; omega, by have := h.le; omega, by have := h.cap; omega, (fun e => by cases e), fun v hv => h.one v (List.mem_of_mem_drop hv), fun h0 => by
    obtain ⟨ad', e, hb, hc⟩ := h.cell (by omega)
    injection e with e
    subst e
    exact ⟨_, rfl, by rw [add_block]; exact hb, fun j v hj => by
      rw [add_add]
      exact hc _ v (by rwa [List.getElem?_drop] at hj)⟩⟩
theorem Vals.dropA {w : World} {ad a6 : Addr} {n c : Nat} {vs : List Value} (h : Vals w (some ad) n c 1 vs) (k : Nat) (hk : k ≤ n) (ha : a6 = if c = k then ad else ad.add k) : Vals w (some a6) (n - k) (c - k) 1 (vs.drop k) := by
  by_cases hc : c = k
  · have h1 := h.le
    have h2 := h.len
    have h3 : n - k = 0 := by omega
    have h4 : c - k = 0 := by omega
    rw [h3, h4, List.drop_eq_nil_of_le (by omega)]
    exact ⟨by simp, Nat.le_refl _, by omega, (fun e => by cases e), (fun _ hv => by cases hv), fun h0 => by omega⟩
  · rw [ha, if_neg hc]
    exact h.dropV k hk
/-- one string more in its place -/
theorem put_math {l : List Str} {s : Str} {k : Nat} (hi : Inc l) (hs : s ∉ l) (h1 : ∀ x ∈ l.drop k, s < x) (h2 : k = 0 ∨ ∃ x, l[k - 1]? = some x ∧ ¬ s < x) : Inc (l.take k ++ [s] ++ l.drop k) ∧ ∀ x, x ∈ l.take k ++ [s] ++ l.drop k ↔ x = s ∨ x ∈ l := by
  have h3 : ∀ x ∈ l.take k, x < s := by
    rcases h2 with rfl | ⟨y, hy, hn⟩
    · intro x hx; simp at hx
    · intro x hx
      have hys : y < s := by
        rcases Classical.em (y < s) with h | h
        · exact h
        · exact absurd (lt_tri s y hn h) (fun e => hs (e ▸ List.mem_of_getElem? hy))
      obtain ⟨j, hj⟩ := List.getElem?_of_mem hx
      rw [List.getElem?_take] at hj
      split at hj
      · rename_i hjk
        by_cases he : j = k - 1
        · subst he
          rw [hy] at hj
          exact (Option.some.inj hj) ▸ hys
        · obtain ⟨p, q⟩ := List.getElem?_eq_some_iff.1 hj
          obtain ⟨p2, q2⟩ := List.getElem?_eq_some_iff.1 hy
          have := List.pairwise_iff_getElem.1 hi j (k - 1) p p2 (by omega)
          rw [q, q2] at this
          exact lt_tr this hys
      · cases hj
  refine ⟨?_, fun x => ?_⟩
  · unfold Inc at hi ⊢
    rw [List.append_assoc, List.pairwise_append]
    refine ⟨hi.sublist (List.take_sublist _ _), ?_, ?_⟩
    · rw [List.singleton_append, List.pairwise_cons]
      exact ⟨h1, hi.sublist (List.drop_sublist _ _)⟩
    · intro a ha b hb
      rcases List.mem_append.1 hb with hb | hb
      · rw [List.mem_singleton.1 hb]; exact h3 a ha
      · exact lt_tr (h3 a ha) (h1 b hb)
  · have hx : x ∈ l ↔ x ∈ l.take k ∨ x ∈ l.drop k := by
      rw [← List.mem_append, List.take_append_drop]
    simp only [List.mem_append, List.mem_singleton, hx]
    constructor
    · rintro ((h | h) | h)
      · exact .inr (.inl h)
      · exact .inl h
      · exact .inr (.inr h)
    · rintro (h | h | h)
      · exact .inl (.inr h)
      · exact .inl (.inl h)
      · exact .inr h
end Go.Proofs.YtnkemoicgadefaaGreatDoor
