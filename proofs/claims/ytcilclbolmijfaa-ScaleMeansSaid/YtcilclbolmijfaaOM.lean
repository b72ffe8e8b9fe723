/-
  The order of grades, as mathematics.
-/
import Derived.Test.YtcilclbolmijfaaSM
namespace Go.Proofs.Ytcilclbolmijfaa
theorem bt_iff (a b x y : Int) : btB a b x y = true ↔ (b < a ∧ x < y) ∨ (¬ b < a ∧ y < x) := by
  unfold btB
  by_cases h : b < a
  · rw [if_pos h]; simp [h]
  · rw [if_neg h]; simp; omega
theorem bet_iff (a b p x y : Int) : betB a b p x y = true ↔ chkB a b p = true ∧ (min a b ≤ x ∧ x ≤ max a b) ∧ (min a b ≤ y ∧ y ≤ max a b) ∧ ((b < a ∧ x < y) ∨ (¬ b < a ∧ y < x)) := by
  unfold betB
  simp only [Bool.and_eq_true, rg_iff, bt_iff]
  constructor
  · rintro ⟨⟨h1, h2⟩, ⟨_, h3⟩, h4⟩; exact ⟨h1, h2, h3, h4⟩
  · rintro ⟨h1, h2, h3, h4⟩; exact ⟨⟨h1, h2⟩, ⟨h1, h3⟩, h4⟩
theorem rch_iff (a b p g m : Int) : rchB a b p g m = true ↔ chkB a b p = true ∧ (min a b ≤ g ∧ g ≤ max a b) ∧ ((b < a ∧ g ≤ m) ∨ (¬ b < a ∧ m ≤ g)) := by
  unfold rchB
  simp only [Bool.and_eq_true, rg_iff, Bool.not_eq_true']
  constructor
  · rintro ⟨⟨h1, h2⟩, h4⟩
    refine ⟨h1, h2, ?_⟩
    have : ¬ btB a b m g = true := by simp [h4]
    rw [bt_iff] at this; omega
  · rintro ⟨h1, h2, h4⟩
    refine ⟨⟨h1, h2⟩, ?_⟩
    rw [Bool.eq_false_iff, ne_eq, bt_iff]; omega
theorem rg_yes {a b p x : Int} (h : chkB a b p = true) (h1 : min a b ≤ x) (h2 : x ≤ max a b) : rgB a b p x = true := (rg_iff _ _ _ _).2 ⟨h, h1, h2⟩
theorem rg_no {a b p x : Int} (h1 : x < min a b ∨ max a b < x) : rgB a b p x = false := by
  rw [Bool.eq_false_iff]; intro h; have := ((rg_iff _ _ _ _).1 h).2; omega
theorem bet_no {a b p x y : Int} (h : ¬ ((b < a ∧ x < y) ∨ (¬ b < a ∧ y < x))) : betB a b p x y = false := by
  rw [Bool.eq_false_iff]; intro h'; exact h ((bet_iff _ _ _ _ _).1 h').2.2.2
theorem bet_yes {a b p x y : Int} (hc : chkB a b p = true) (h1 : min a b ≤ x ∧ x ≤ max a b) (h2 : min a b ≤ y ∧ y ≤ max a b) (h : (b < a ∧ x < y) ∨ (¬ b < a ∧ y < x)) : betB a b p x y = true :=
  (bet_iff _ _ _ _ _).2 ⟨hc, h1, h2, h⟩
theorem bet_flip {a b p x y : Int} (hc : chkB a b p = true) (h1 : min a b ≤ x ∧ x ≤ max a b) (h2 : min a b ≤ y ∧ y ≤ max a b) (h : x ≠ y) : betB a b p y x = !betB a b p x y := by
  have := (chk_iff a b p).1 hc
  by_cases h3 : (b < a ∧ x < y) ∨ (¬ b < a ∧ y < x)
  · rw [bet_yes hc h1 h2 h3, bet_no (by omega)]; rfl
  · rw [bet_no h3, bet_yes hc h2 h1 (by omega)]; rfl
theorem chk_neg (a b p : Int) : chkB (-a) (-b) (-p) = chkB a b p := by
  rw [Bool.eq_iff_iff, chk_iff, chk_iff]; omega
theorem bet_neg (a b p x y : Int) : betB (-a) (-b) (-p) (-x) (-y) = betB a b p x y := by
  rw [Bool.eq_iff_iff, bet_iff, bet_iff, chk_neg]
  constructor
  · rintro ⟨h1, h2, h3, h4⟩
    have := (chk_iff a b p).1 h1
    exact ⟨h1, by omega, by omega, by omega⟩
  · rintro ⟨h1, h2, h3, h4⟩
    have := (chk_iff a b p).1 h1
    exact ⟨h1, by omega, by omega, by omega⟩
theorem rch_neg (a b p x y : Int) : rchB (-a) (-b) (-p) (-x) (-y) = rchB a b p x y := by
  rw [Bool.eq_iff_iff, rch_iff, rch_iff, chk_neg]
  constructor
  · rintro ⟨h1, h2, h3⟩
    have := (chk_iff a b p).1 h1
    exact ⟨h1, by omega, by omega⟩
  · rintro ⟨h1, h2, h3⟩
    have := (chk_iff a b p).1 h1
    exact ⟨h1, by omega, by omega⟩
end Go.Proofs.Ytcilclbolmijfaa
