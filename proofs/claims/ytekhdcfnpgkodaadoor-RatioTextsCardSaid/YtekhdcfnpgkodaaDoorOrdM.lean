/-
  What RatioOrder asks, as mathematics.
-/
import Derived.Test.YtekhdcfnpgkodaaDoorSub
namespace Go.Proofs.YtekhdcfnpgkodaaDoor
theorem add_vals {n d m c : Int} (HA : rightB n d = true) (HB : rightB m c = true) : addN n d m c = ofN (n * c + m * d) (d * c) ∧ addD n d m c = ofD (n * c + m * d) (d * c) ∧ addE n d m c = ofE (n * c + m * d) (d * c) := by
  unfold addN addD addE; simp [HA, HB]
theorem mul_vals {n d m c : Int} (HA : rightB n d = true) (HB : rightB m c = true) : mulN n d m c = ofN (n * m) (d * c) ∧ mulD n d m c = ofD (n * m) (d * c) ∧ mulE n d m c = ofE (n * m) (d * c) := by
  unfold mulN mulD mulE; simp [HA, HB]
theorem cmp_vals {n d m c : Int} (HA : rightB n d = true) (HB : rightB m c = true) : cmpV n d m c = cmpI (n * c) (m * d) := by
  unfold cmpV; simp [HA, HB]
theorem add_swap {n d m c : Int} (HA : rightB n d = true) (HB : rightB m c = true) : addN m c n d = addN n d m c ∧ addD m c n d = addD n d m c ∧ addE m c n d = addE n d m c := by
  obtain ⟨a1, a2, a3⟩ := add_vals HA HB
  obtain ⟨b1, b2, b3⟩ := add_vals HB HA
  rw [a1, a2, a3, b1, b2, b3, Int.add_comm (m * d), Int.mul_comm c d]
  exact ⟨rfl, rfl, rfl⟩
theorem mul_swap {n d m c : Int} (HA : rightB n d = true) (HB : rightB m c = true) : mulN m c n d = mulN n d m c ∧ mulD m c n d = mulD n d m c ∧ mulE m c n d = mulE n d m c := by
  obtain ⟨a1, a2, a3⟩ := mul_vals HA HB
  obtain ⟨b1, b2, b3⟩ := mul_vals HB HA
  rw [a1, a2, a3, b1, b2, b3, Int.mul_comm m n, Int.mul_comm c d]
  exact ⟨rfl, rfl, rfl⟩
theorem right_ints {n d : Int} (h : rightB n d = true) : i64 n ∧ i64 d := by
  obtain ⟨a, b, c, e, _⟩ := (right_iff n d).1 h
  exact ⟨⟨by omega, by omega⟩, by omega, by omega⟩
theorem of_i64 (n d : Int) : i64 (ofN n d) ∧ i64 (ofD n d) := by
  cases h : okB n d with
  | true => exact right_ints (of_ok h).1
  | false =>
    obtain ⟨h1, h2, _⟩ := of_no h
    rw [h1, h2]
    exact ⟨⟨by decide, by decide⟩, by decide, by decide⟩
theorem add_i64 (n d m c : Int) : i64 (addN n d m c) ∧ i64 (addD n d m c) := by
  unfold addN addD
  split
  · exact of_i64 _ _
  · exact ⟨⟨by decide, by decide⟩, by decide, by decide⟩
theorem add_ok {n d m c : Int} (HA : rightB n d = true) (HB : rightB m c = true) (h : addE n d m c = 0) :
    rightB (addN n d m c) (addD n d m c) = true ∧ addN n d m c * (d * c) = (n * c + m * d) * addD n d m c := by
  obtain ⟨a1, a2, a3⟩ := add_vals HA HB
  rw [a3] at h
  rw [a1, a2]
  exact of_ok (ofE_ok.1 h)
/-- Sub undoes Add -/
theorem sub_back {n d m c : Int} (HA : rightB n d = true) (HB : rightB m c = true) (h : addE n d m c = 0) :
    addN (addN n d m c) (addD n d m c) (-m) c = n ∧ addD (addN n d m c) (addD n d m c) (-m) c = d ∧ addE (addN n d m c) (addD n d m c) (-m) c = 0 := by
  obtain ⟨k1, k2⟩ := add_ok HA HB h
  obtain ⟨a1, a2, a3⟩ := add_vals k1 (right_opp HB)
  obtain ⟨r1, _⟩ := (right_iff _ _).1 k1
  obtain ⟨r2, _⟩ := (right_iff _ _).1 HB
  have hz : addD n d m c * c ≠ 0 := by
    have := Int.mul_pos (show 0 < addD n d m c by omega) (show 0 < c by omega)
    omega
  obtain ⟨o1, o2, o3⟩ := of_mk HA hz (add_sub k2)
  rw [a1, a2, a3]
  exact ⟨o2, o3, of_yes o1⟩
/-- a difference and nothing compare as its parts -/
theorem sub_cmp {n d m c : Int} (HA : rightB n d = true) (HB : rightB m c = true) (h : addE n d (-m) c = 0) :
    cmpV (addN n d (-m) c) (addD n d (-m) c) 0 1 = cmpV n d m c := by
  obtain ⟨k1, k2⟩ := add_ok HA (right_opp HB) h
  obtain ⟨r1, _⟩ := (right_iff _ _).1 k1
  obtain ⟨r2, _⟩ := (right_iff _ _).1 HB
  obtain ⟨r3, _⟩ := (right_iff _ _).1 HA
  rw [cmp_vals k1 (by decide), cmp_vals HA HB]
  obtain ⟨s1, s2⟩ := sub_sign (show 0 < d by omega) (show 0 < c by omega) (show 0 < addD n d (-m) c by omega) k2
  rw [Int.mul_one, Int.zero_mul]
  exact cmpI_same s1 s2
theorem cmp_swap {n d m c : Int} (HA : rightB n d = true) (HB : rightB m c = true) : cmpV m c n d = -cmpV n d m c := by
  rw [cmp_vals HA HB, cmp_vals HB HA, cmpI_opp]
theorem cmp_self {n d : Int} (HA : rightB n d = true) : cmpV n d n d = 0 := by
  rw [cmp_vals HA HA]; exact cmpI_self _
theorem cmp_zero {n d m c : Int} (HA : rightB n d = true) (HB : rightB m c = true) (h : cmpV n d m c = 0) : n = m ∧ d = c := by
  rw [cmp_vals HA HB] at h
  exact right_same HA HB (cmpI_eq.1 h)
theorem cmp_up {n d m c p q : Int} (HA : rightB n d = true) (HB : rightB m c = true) (HC : rightB p q = true) (h1 : 0 < cmpV n d m c) (h2 : 0 < cmpV m c p q) : 0 < cmpV n d p q := by
  rw [cmp_vals HA HB] at h1
  rw [cmp_vals HB HC] at h2
  rw [cmp_vals HA HC]
  obtain ⟨r1, _⟩ := (right_iff _ _).1 HA
  obtain ⟨r2, _⟩ := (right_iff _ _).1 HB
  obtain ⟨r3, _⟩ := (right_iff _ _).1 HC
  exact cmpI_gt.2 (lt_lt (show 0 < q by omega) (show 0 < c by omega) (show 0 < d by omega) (cmpI_gt.1 h2) (cmpI_gt.1 h1))
theorem cmp_down {n d m c p q : Int} (HA : rightB n d = true) (HB : rightB m c = true) (HC : rightB p q = true) (h1 : cmpV n d m c < 0) (h2 : cmpV m c p q < 0) : cmpV n d p q < 0 := by
  rw [cmp_vals HA HB] at h1
  rw [cmp_vals HB HC] at h2
  rw [cmp_vals HA HC]
  obtain ⟨r1, _⟩ := (right_iff _ _).1 HA
  obtain ⟨r2, _⟩ := (right_iff _ _).1 HB
  obtain ⟨r3, _⟩ := (right_iff _ _).1 HC
  exact cmpI_lt.2 (lt_lt (show 0 < d by omega) (show 0 < c by omega) (show 0 < q by omega) (cmpI_lt.1 h1) (cmpI_lt.1 h2))
theorem cmp_in (n d m c : Int) : -1 ≤ cmpV n d m c ∧ cmpV n d m c ≤ 1 := by
  unfold cmpV cmpI; split <;> (try split) <;> (try split) <;> omega
end Go.Proofs.YtekhdcfnpgkodaaDoor
