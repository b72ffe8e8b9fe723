/-
  What is rounded once, as mathematics.
-/
import Derived.Test.YtcilclbolmijfaaGM
namespace Go.Proofs.Ytcilclbolmijfaa
theorem ro_scale {n d how k : Int} (_ : 0 < d) (hk : 0 < k) : roV (n * k) (d * k) how = roV n d how := by
  have e1 : n * k / (d * k) = n / d := Int.mul_ediv_mul_of_pos_left _ _ hk
  have e2 : n * k % (d * k) = n % d * k := by rw [Int.mul_comm n k, Int.mul_comm d k, Int.mul_emod_mul_of_pos _ _ hk, Int.mul_comm]
  unfold roV
  rw [e1, e2]
  have e3 : n % d * k = 0 ↔ n % d = 0 := by
    constructor
    · intro h
      rcases Int.mul_eq_zero.1 h with h | h
      · exact h
      · omega
    · intro h; rw [h, Int.zero_mul]
  have e4 : 2 * (n % d * k) < d * k ↔ 2 * (n % d) < d := by
    rw [← Int.mul_assoc]
    exact Int.mul_lt_mul_right hk
  have e5 : 2 * (n % d * k) = d * k ↔ 2 * (n % d) = d := by
    rw [← Int.mul_assoc]
    exact Int.mul_eq_mul_right_iff (by omega)
  simp only [e3, e4, e5]
/-- of a mean: what is rounded has the sums for its parts -/
theorem ro_mean {gs cs : List Int} (h : mC gs cs = 0) (u ad d how : Int) (hd : 0 < d) :
    roV (mN gs cs * u + ad * mD gs cs) (mD gs cs * d) how = roV (mP gs cs * u + ad * mW gs cs) (mW gs cs * d) how := by
  obtain ⟨_, hr, hx, ⟨w1, _⟩, _⟩ := mE_zero h
  obtain ⟨t1, _, _, _, hg⟩ := (right_iff _ _).1 hr
  have hdv : (mD gs cs).natAbs ∣ (mW gs cs).natAbs := by
    have e := mul_natAbs (n := mN gs cs) (d := mD gs cs) (N := mP gs cs) (D := mW gs cs) hx
    exact Nat.Coprime.dvd_of_dvd_mul_left (k := (mD gs cs).natAbs) (m := (mN gs cs).natAbs) (n := (mW gs cs).natAbs) (Nat.Coprime.symm hg) ⟨(mP gs cs).natAbs, by rw [e, Nat.mul_comm]⟩
  obtain ⟨k, hk⟩ := Int.natAbs_dvd_natAbs.1 hdv
  have hk0 : 0 < k := by
    rcases Int.lt_trichotomy k 0 with h' | h' | h'
    · have := Int.mul_neg_of_pos_of_neg (show 0 < mD gs cs by omega) h'; omega
    · subst h'; rw [Int.mul_zero] at hk; omega
    · exact h'
  have hP : mP gs cs = mN gs cs * k := by
    rw [hk] at hx
    have : mD gs cs * mP gs cs = mD gs cs * (mN gs cs * k) := by
      rw [Int.mul_comm (mD gs cs) (mP gs cs), ← hx, ← Int.mul_assoc, Int.mul_comm (mN gs cs) (mD gs cs), Int.mul_assoc]
    exact Int.eq_of_mul_eq_mul_left (by omega) this
  rw [hk, hP]
  have e1 : mN gs cs * k * u + ad * (mD gs cs * k) = (mN gs cs * u + ad * mD gs cs) * k := by
    rw [Int.add_mul, Int.mul_assoc, Int.mul_comm k u, ← Int.mul_assoc, ← Int.mul_assoc]
  have e2 : mD gs cs * k * d = mD gs cs * d * k := by rw [Int.mul_assoc, Int.mul_comm k d, ← Int.mul_assoc]
  rw [e1, e2]
  exact (ro_scale (Int.mul_pos (by omega) hd) hk0).symm
/-- the number z, rounded in the way how and limited, has the rest s -/
def onceP (t b how z s : Int) : Prop :=
  (t < -1000 * b → z = -1000) ∧ (1000 * b < t → z = 1000) ∧ (-1000 * b ≤ t → t ≤ 1000 * b →
    (how = 1 → 0 ≤ s ∧ s < b) ∧ (how = 2 → s ≤ 0 ∧ -s < b) ∧ (how = 3 → 2 * s < b ∧ -2 * s ≤ b) ∧ (how = 4 → (2 * s < b ∧ -2 * s < b) ∨ (2 * s ≤ b ∧ -2 * s ≤ b ∧ z % 2 = 0)))
theorem once_math {t b how : Int} (hb : 0 < b) (h1 : 1 ≤ how) (h4 : how ≤ 4) : -1000 ≤ placeV (-1000) 1000 (roV t b how) ∧ placeV (-1000) 1000 (roV t b how) ≤ 1000 ∧ onceP t b how (placeV (-1000) 1000 (roV t b how)) (t - placeV (-1000) 1000 (roV t b how) * b) := by
  have e0 := Int.mul_ediv_add_emod t b
  have e1 := Int.emod_nonneg t (b := b) (by omega)
  have e2 := Int.emod_lt_of_pos t hb
  have hpl : ∀ z : Int, placeV (-1000) 1000 z = max (-1000) (min z 1000) := fun z => by unfold placeV limV; rfl
  refine ⟨by rw [hpl]; omega, by rw [hpl]; omega, ?_⟩
  unfold onceP
  have h2 := ro_two t b how
  refine ⟨fun h => ?_, fun h => ?_, fun g1 g2 => ?_⟩
  · have hq : t / b < -1000 := by
      rw [Int.ediv_lt_iff_lt_mul hb]; exact h
    rw [hpl]; omega
  · have hq : 1000 ≤ t / b := by
      rw [Int.le_ediv_iff_mul_le hb]; omega
    rw [hpl]; omega
  · have hq1 : -1000 ≤ t / b := by
      rw [Int.le_ediv_iff_mul_le hb]; exact g1
    have hq2 : t / b ≤ 1000 := by
      have : t / b < 1001 := by rw [Int.ediv_lt_iff_lt_mul hb]; omega
      omega
    have hq3 : t / b = 1000 → t % b = 0 := by
      intro h
      rw [h] at e0
      omega
    have hz : placeV (-1000) 1000 (roV t b how) = roV t b how := by
      rw [hpl]
      have : roV t b how ≤ 1000 := by
        by_cases h : t / b = 1000
        · rw [ro_whole t b how hb (hq3 h)]; omega
        · omega
      omega
    rw [hz]
    have hs : t - roV t b how * b = if roV t b how = t / b then t % b else t % b - b := by
      rcases h2 with h | h
      · rw [if_pos h, h]
        have : t / b * b = b * (t / b) := Int.mul_comm _ _
        omega
      · rw [if_neg (by omega), h, Int.add_mul]
        have : t / b * b = b * (t / b) := Int.mul_comm _ _
        omega
    rw [hs]
    clear hs hz e0 hq1 hq2 hq3 g1 g2
    unfold roV
    generalize t / b = q at *
    generalize t % b = s at *
    clear h2
    rcases (show how = 1 ∨ how = 2 ∨ how = 3 ∨ how = 4 by omega) with rfl | rfl | rfl | rfl
    · refine ⟨fun _ => ?_, fun h => by omega, fun h => by omega, fun h => by omega⟩
      simp only [if_true]; omega
    · refine ⟨fun h => by omega, fun _ => ?_, fun h => by omega, fun h => by omega⟩
      simp only [show ¬ (2 : Int) = 1 by decide, if_true, if_false]
      by_cases hs : s = 0
      · rw [if_pos hs, if_pos rfl]; omega
      · rw [if_neg hs, if_neg (by omega)]; omega
    · refine ⟨fun h => by omega, fun h => by omega, fun _ => ?_, fun h => by omega⟩
      simp only [show ¬ (3 : Int) = 1 by decide, show ¬ (3 : Int) = 2 by decide, if_true, if_false]
      by_cases hs : 2 * s < b
      · rw [if_pos hs, if_pos rfl]; omega
      · rw [if_neg hs, if_neg (by omega)]; omega
    · refine ⟨fun h => by omega, fun h => by omega, fun h => by omega, fun _ => ?_⟩
      simp only [show ¬ (4 : Int) = 1 by decide, show ¬ (4 : Int) = 2 by decide, show ¬ (4 : Int) = 3 by decide, if_false]
      by_cases hs : 2 * s < b ∨ (2 * s = b ∧ q % 2 = 0)
      · rw [if_pos hs, if_pos rfl]; omega
      · rw [if_neg hs, if_neg (by omega)]; omega
end Go.Proofs.Ytcilclbolmijfaa
