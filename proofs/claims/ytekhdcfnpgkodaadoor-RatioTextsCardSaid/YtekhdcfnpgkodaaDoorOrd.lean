/-
  The order of fractions, as mathematics.
-/
import Derived.Test.YtekhdcfnpgkodaaDoorMath
namespace Go.Proofs.YtekhdcfnpgkodaaDoor
def cmpI (x y : Int) : Int := if x < y then -1 else if y < x then 1 else 0
theorem cmpI_lt {x y : Int} : cmpI x y < 0 ↔ x < y := by unfold cmpI; split <;> (try split) <;> omega
theorem cmpI_gt {x y : Int} : 0 < cmpI x y ↔ y < x := by unfold cmpI; split <;> (try split) <;> omega
theorem cmpI_eq {x y : Int} : cmpI x y = 0 ↔ x = y := by unfold cmpI; split <;> (try split) <;> omega
theorem cmpI_opp (x y : Int) : cmpI y x = -cmpI x y := by unfold cmpI; split <;> (try split) <;> (try split) <;> omega
theorem cmpI_self (x : Int) : cmpI x x = 0 := cmpI_eq.2 rfl
theorem cmpI_same {x y z t : Int} (h1 : x < y ↔ z < t) (h2 : y < x ↔ t < z) : cmpI x y = cmpI z t := by
  unfold cmpI
  by_cases a : x < y
  · rw [if_pos a, if_pos (h1.1 a)]
  · rw [if_neg a, if_neg (fun h => a (h1.2 h))]
    by_cases b : y < x
    · rw [if_pos b, if_pos (h2.1 b)]
    · rw [if_neg b, if_neg (fun h => b (h2.2 h))]
theorem lt_of_mul {x y k : Int} (hk : 0 < k) : x * k < y * k ↔ x < y :=
  ⟨fun h => Int.lt_of_mul_lt_mul_right h (by omega), fun h => Int.mul_lt_mul_of_pos_right h hk⟩
/-- lesser, and lesser again, is lesser -/
theorem lt_lt {a b c d e f : Int} (hb : 0 < b) (hd : 0 < d) (hf : 0 < f) (h1 : a * d < c * b) (h2 : c * f < e * d) : a * f < e * b := by
  apply (lt_of_mul hd).1
  have e1 : a * f * d = a * d * f := Int.mul_right_comm ..
  have e2 : e * b * d = e * d * b := Int.mul_right_comm ..
  have e3 : c * b * f = c * f * b := Int.mul_right_comm ..
  have := (lt_of_mul hf).2 h1
  have := (lt_of_mul hb).2 h2
  omega
/-- Sub undoes Add: of the sum x / y of a / b and c / d -/
theorem add_sub {a b c d x y : Int} (h : x * (b * d) = (a * d + c * b) * y) : (x * d + -c * y) * b = a * (y * d) := by
  have e1 : (x * d + -c * y) * b = x * (b * d) - c * b * y := by
    rw [Int.add_mul, Int.neg_mul, Int.neg_mul, Int.mul_assoc x d b, Int.mul_comm d b, Int.mul_right_comm c y b]; omega
  have e2 : (a * d + c * b) * y = a * (y * d) + c * b * y := by
    rw [Int.add_mul, Int.mul_assoc a d y, Int.mul_comm d y]
  omega
/-- the sign of a difference is how both compare -/
theorem sub_sign {a b c d x y : Int} (hb : 0 < b) (hd : 0 < d) (hy : 0 < y) (h : x * (b * d) = (a * d + -c * b) * y) : (x < 0 ↔ a * d < c * b) ∧ (0 < x ↔ c * b < a * d) := by
  have hbd : 0 < b * d := Int.mul_pos hb hd
  have k1 : x * (b * d) < 0 * (b * d) ↔ x < 0 := lt_of_mul hbd
  have k2 : 0 * (b * d) < x * (b * d) ↔ 0 < x := lt_of_mul hbd
  have k3 : (a * d + -c * b) * y < 0 * y ↔ a * d + -c * b < 0 := lt_of_mul hy
  have k4 : 0 * y < (a * d + -c * b) * y ↔ 0 < a * d + -c * b := lt_of_mul hy
  rw [h, Int.zero_mul] at k1 k2
  rw [Int.zero_mul] at k3 k4
  rw [Int.neg_mul] at *
  constructor
  · rw [← k1, k3]; omega
  · rw [← k2, k4]; omega
end Go.Proofs.YtekhdcfnpgkodaaDoor
