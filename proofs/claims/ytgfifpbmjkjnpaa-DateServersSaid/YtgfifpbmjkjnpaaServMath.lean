/-
  Two servers that hear each other: what holds of their last stamps, and of the stamps that were given.
-/
import Derived.Test.YtgfifpbmjkjnpaaSane
namespace Go.Proofs.Ytgfifpbmjkjnpaa
open Go.RowKit
theorem less_true {d c s x y z : Int} : lessB d c s x y z = true ↔ (d < x ∨ (d = x ∧ (c < y ∨ (c = y ∧ s < z)))) := by simp [lessB]
theorem less_false {d c s x y z : Int} : lessB d c s x y z = false ↔ ¬ (d < x ∨ (d = x ∧ (c < y ∨ (c = y ∧ s < z)))) := by
  unfold lessB; exact decide_eq_false_iff_not
theorem less_up {d c s p q r x y z : Int} (h1 : lessB d c s p q r = true) (h2 : lessB d c s x y z = false) : lessB p q r x y z = false := by
  rw [less_true] at h1; rw [less_false] at h2 ⊢; omega
theorem less_irr (d c s : Int) : lessB d c s d c s = false := by rw [less_false]; omega
/-- the last stamps of two servers a and b, after k rounds, with the stamps L that were given -/
structure Inv (a d c s b x y z : Int) (L : List (Int × Int × Int)) (k : Nat) : Prop where
  ne : a ≠ b
  a1 : 1 ≤ a
  a2 : a ≤ 8
  b1 : 1 ≤ b
  b2 : b ≤ 8
  z1 : c ≠ 0 ∨ s ≠ 0
  z2 : y ≠ 0 ∨ z ≠ 0
  c1 : -1 ≤ c
  c2 : c ≤ 2 * k
  y1 : -1 ≤ y
  y2 : y ≤ 2 * k
  d1 : 0 ≤ d
  d2 : d ≤ 19
  x1 : 0 ≤ x
  x2 : x ≤ 19
  all : ∀ p q r, (p, q, r) ∈ L → (r = a ∧ lessB d c s p q r = false) ∨ (r = b ∧ lessB x y z p q r = false)
theorem Inv.symm {a d c s b x y z : Int} {L : List (Int × Int × Int)} {k : Nat} (h : Inv a d c s b x y z L k) : Inv b x y z a d c s L k :=
  ⟨h.ne.symm, h.b1, h.b2, h.a1, h.a2, h.z2, h.z1, h.y1, h.y2, h.c1, h.c2, h.x1, h.x2, h.d1, h.d2, fun p q r hm => (h.all p q r hm).symm⟩
/-- a further stamp of the server a -/
theorem Inv.give {a d c s b x y z p q : Int} {L : List (Int × Int × Int)} {k : Nat} (h : Inv a d c s b x y z L k) (hl : lessB d c s p q a = true) (p1 : 0 ≤ p) (p2 : p ≤ 19) (q1 : 0 ≤ q) (q2 : q ≤ 2 * k + 1) :
    (p, q, a) ∉ L ∧ Inv a p q a b x y z ((p, q, a) :: L) (k + 1) := by
  refine ⟨fun hm => ?_, ⟨h.ne, h.a1, h.a2, h.b1, h.b2, .inr (by have := h.a1; omega), h.z2, by omega, by omega, h.y1, by have := h.y2; omega, p1, p2, h.x1, h.x2, fun u v w hm => ?_⟩⟩
  · rcases h.all _ _ _ hm with ⟨_, h2⟩ | ⟨h1, _⟩
    · rw [hl] at h2; cases h2
    · exact h.ne h1
  · rcases List.mem_cons.1 hm with e | hm
    · injection e with e1 e
      injection e with e2 e3
      subst e1 e2 e3
      exact .inl ⟨rfl, less_irr _ _ _⟩
    · rcases h.all _ _ _ hm with ⟨h1, h2⟩ | h2
      · exact .inl ⟨h1, less_up hl h2⟩
      · exact .inr h2
theorem now_give {a d c s dd : Int} {k : Nat} (c1 : -1 ≤ c) (c2 : c ≤ 2 * k) (hk : k < 1000) (d1 : 0 ≤ d) (d2 : d ≤ 19) (e1 : 0 ≤ dd) (e2 : dd ≤ 19) :
    ∃ p q, nowR a d c s dd = (p, q, a, 0, p, q, a) ∧ lessB d c s p q a = true ∧ 0 ≤ p ∧ p ≤ 19 ∧ 0 ≤ q ∧ q ≤ 2 * k + 1 := by
  have hr : rightB dd = true := by simp [rightB]; omega
  by_cases h : d < dd
  · exact ⟨dd, 0, by simp [nowR, hr, h], by rw [less_true]; omega, by omega, by omega, by omega, by omega⟩
  · have h2 : ¬ 1073741824 ≤ c := by omega
    exact ⟨d, c + 1, by simp [nowR, hr, h, h2], by rw [less_true]; omega, by omega, by omega, by omega, by omega⟩
/-- the server b hears the new stamp of a, and gives one -/
theorem Inv.hear {a b x y z p q : Int} {L : List (Int × Int × Int)} {k : Nat} (h : Inv a p q a b x y z L (k + 1)) (q1 : 0 ≤ q) (q2 : q ≤ 2 * k + 1) (y2 : y ≤ 2 * k) (hk : k < 1000) (day : Int) (e1 : 0 ≤ day) (e2 : day ≤ 19) (e3 : p ≤ day + 5) :
    ∃ x' y' z', hearR x y z p q a day = (0, x', y', z') ∧ (y' ≠ 0 ∨ z' ≠ 0) ∧ -1 ≤ y' ∧ nowR b x' y' z' 0 = (x', y' + 1, b, 0, x', y' + 1, b) ∧ lessB p q a x' (y' + 1) b = true ∧ (x', y' + 1, b) ∉ L ∧ Inv a p q a b x' (y' + 1) b ((x', y' + 1, b) :: L) (k + 1) ∧
      0 ≤ x' ∧ x' ≤ 19 ∧ 0 ≤ y' + 1 ∧ y' + 1 ≤ 3000 := by
  obtain ⟨ne, a1, a2, b1, b2, z1, z2, c1, c2, y1, _, d1, d2, x1, x2, all⟩ := h
  have hr : rightB day = true := by simp [rightB]; omega
  have hp : rightB p = true := by simp [rightB]; omega
  have hs : serverB a = true := by simp [serverB]; omega
  have h0 : rightB 0 = true := rfl
  have key : ∀ x' y', lessB x y z x' y' b = true → 0 ≤ x' → x' ≤ 19 → 0 ≤ y' → y' ≤ 2 * k + 2 → (x', y', b) ∉ L ∧ Inv a p q a b x' y' b ((x', y', b) :: L) (k + 1) := fun x' y' hl g1 g2 g3 g4 => by
    refine ⟨fun hm => ?_, ⟨ne, a1, a2, b1, b2, z1, .inr (by omega), c1, c2, by omega, by omega, d1, d2, g1, g2, fun u v w hm => ?_⟩⟩
    · rcases all _ _ _ hm with ⟨h1, _⟩ | ⟨_, h2⟩
      · exact ne h1.symm
      · rw [hl] at h2; cases h2
    · rcases List.mem_cons.1 hm with e | hm
      · injection e with e1 e
        injection e with e2 e3
        subst e1 e2 e3
        exact .inr ⟨rfl, less_irr _ _ _⟩
      · rcases all _ _ _ hm with h1 | ⟨h1, h2⟩
        · exact .inl h1
        · exact .inr ⟨h1, less_up hl h2⟩
  by_cases hl : lessB x y z p q a = true
  · have hl2 := less_true.1 hl
    obtain ⟨k1, k2⟩ := key p (q + 1) (less_true.2 (by omega)) (by omega) (by omega) (by omega) (by omega)
    refine ⟨p, q, a, ?_, .inr (by omega), by omega, ?_, less_true.2 (by omega), k1, k2, by omega, by omega, by omega, by omega⟩
    · unfold hearR
      rw [if_pos hr, if_pos hp, if_pos (by omega), if_pos q1, if_pos (by omega), if_pos hs, if_pos hl]
    · unfold nowR
      rw [if_pos h0, if_neg (by omega), if_neg (by omega)]
  · have hl2 := less_false.1 (by simpa using hl)
    obtain ⟨k1, k2⟩ := key x (y + 1) (less_true.2 (by omega)) (by omega) (by omega) (by omega) (by omega)
    refine ⟨x, y, z, ?_, z2, y1, ?_, less_true.2 (by omega), k1, k2, by omega, by omega, by omega, by omega⟩
    · unfold hearR
      rw [if_pos hr, if_pos hp, if_pos (by omega), if_pos q1, if_pos (by omega), if_pos hs, if_neg hl]
    · unfold nowR
      rw [if_pos h0, if_neg (by omega), if_neg (by omega)]
end Go.Proofs.Ytgfifpbmjkjnpaa
