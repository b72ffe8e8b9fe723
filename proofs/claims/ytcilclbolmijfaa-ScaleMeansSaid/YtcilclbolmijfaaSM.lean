/-
  Scales, conversions and rounding, as mathematics.
-/
import Derived.Test.YtcilclbolmijfaaMath
namespace Go.Proofs.Ytcilclbolmijfaa
def limV (n lo hi : Int) : Int := max lo (min n hi)
def wiB (n lo hi : Int) : Bool := decide (lo ≤ n ∧ n ≤ hi)
def gB (g : Int) : Bool := decide (-1000 ≤ g ∧ g ≤ 1000)
def onB (a b g : Int) : Bool := decide (min a b ≤ g ∧ g ≤ max a b)
def placeV (a b g : Int) : Int := limV g (min a b) (max a b)
def btB (a b x y : Int) : Bool := if b < a then decide (x < y) else decide (y < x)
def chkB (a b p : Int) : Bool := decide (a ≠ b) && (gB a && (gB b && onB a b p))
def chkE (a b p : Int) : Int := if chkB a b p then 0 else 10
def rgB (a b p g : Int) : Bool := chkB a b p && onB a b g
def betB (a b p x y : Int) : Bool := rgB a b p x && (rgB a b p y && btB a b x y)
def rchB (a b p g m : Int) : Bool := rgB a b p g && !btB a b m g
def cvB (num add den rnd : Int) : Bool := wiB den 1 1000 && (wiB num (-1000) 1000 && (wiB add (-1000) 1000 && wiB rnd 1 4))
def cvE (num add den rnd : Int) : Int := if cvB num add den rnd then 0 else 3
theorem lim_eq (n lo hi : Int) (h : lo ≤ hi) : (limV n lo hi == n) = wiB n lo hi := by
  rw [Bool.eq_iff_iff]; unfold limV wiB; simp only [beq_iff_eq, decide_eq_true_eq]; omega
theorem place_eq (a b g : Int) : (placeV a b g == g) = onB a b g := by
  unfold placeV; rw [lim_eq _ _ _ (by omega)]; rfl
theorem on_iff (a b g : Int) : onB a b g = true ↔ min a b ≤ g ∧ g ≤ max a b := by unfold onB; simp
theorem g_iff (g : Int) : gB g = true ↔ -1000 ≤ g ∧ g ≤ 1000 := by unfold gB; simp
theorem chk_iff (a b p : Int) : chkB a b p = true ↔ a ≠ b ∧ -1000 ≤ a ∧ a ≤ 1000 ∧ -1000 ≤ b ∧ b ≤ 1000 ∧ min a b ≤ p ∧ p ≤ max a b := by
  unfold chkB; simp only [Bool.and_eq_true, decide_eq_true_eq, g_iff, on_iff]; omega
theorem rg_iff (a b p g : Int) : rgB a b p g = true ↔ chkB a b p = true ∧ min a b ≤ g ∧ g ≤ max a b := by
  unfold rgB; simp only [Bool.and_eq_true, on_iff]
theorem chkE_yes {a b p : Int} (h : chkB a b p = true) : chkE a b p = 0 := by unfold chkE; rw [if_pos h]
theorem chkE_no {a b p : Int} (h : chkB a b p = false) : chkE a b p = 10 := by unfold chkE; rw [if_neg (by simp [h])]
theorem cvE_yes {n a d r : Int} (h : cvB n a d r = true) : cvE n a d r = 0 := by unfold cvE; rw [if_pos h]
theorem cvE_no {n a d r : Int} (h : cvB n a d r = false) : cvE n a d r = 3 := by unfold cvE; rw [if_neg (by simp [h])]
theorem cv_iff (n a d r : Int) : cvB n a d r = true ↔ 1 ≤ d ∧ d ≤ 1000 ∧ -1000 ≤ n ∧ n ≤ 1000 ∧ -1000 ≤ a ∧ a ≤ 1000 ∧ 1 ≤ r ∧ r ≤ 4 := by
  unfold cvB wiB; simp only [Bool.and_eq_true, decide_eq_true_eq]; omega
/-- rounded down, and how much is left (of d, which is positive) -/
def roV (n d how : Int) : Int :=
  if how = 1 then n / d
  else if how = 2 then (if n % d = 0 then n / d else n / d + 1)
  else if how = 3 then (if 2 * (n % d) < d then n / d else n / d + 1)
  else (if 2 * (n % d) < d ∨ (2 * (n % d) = d ∧ (n / d) % 2 = 0) then n / d else n / d + 1)
/-- the errors and the means of lists -/
def badB (g c : Int) : Bool := !(gB g && wiB c 1 60)
def sumP : List (Int × Int) → Int
  | [] => 0
  | x :: l => x.1 * x.2 + sumP l
def anyBad : List (Int × Int) → Bool
  | [] => false
  | x :: l => badB x.1 x.2 || anyBad l
end Go.Proofs.Ytcilclbolmijfaa
