/-
  Fractions in lowest terms, as mathematics.
-/
namespace Go.Proofs.Ytcilclbolmijfaa

def i64 (n : Int) : Prop := -9223372036854775808 ≤ n ∧ n ≤ 9223372036854775807
def rightB (n d : Int) : Bool := decide (1 ≤ d ∧ d ≤ 1073741824 ∧ -1073741824 ≤ n ∧ n ≤ 1073741824 ∧ Nat.gcd n.natAbs d.natAbs = 1)
/-- the sizes of the lowest terms -/
def upN (n d : Int) : Nat := n.natAbs / Nat.gcd n.natAbs d.natAbs
def dnN (n d : Int) : Nat := d.natAbs / Nat.gcd n.natAbs d.natAbs
def okB (n d : Int) : Bool := decide (d ≠ 0 ∧ upN n d ≤ 1073741824 ∧ dnN n d ≤ 1073741824)
def ofN (n d : Int) : Int := if okB n d then (if (decide (n < 0) != decide (d < 0)) then -(upN n d : Int) else (upN n d : Int)) else 0
def ofD (n d : Int) : Int := if okB n d then (dnN n d : Int) else 0
def ofE (n d : Int) : Int := if okB n d then 0 else if d = 0 then 1 else 3

theorem right_iff (n d : Int) : rightB n d = true ↔ 1 ≤ d ∧ d ≤ 1073741824 ∧ -1073741824 ≤ n ∧ n ≤ 1073741824 ∧ Nat.gcd n.natAbs d.natAbs = 1 := by
  unfold rightB; simp
theorem ok_iff (n d : Int) : okB n d = true ↔ d ≠ 0 ∧ upN n d ≤ 1073741824 ∧ dnN n d ≤ 1073741824 := by
  unfold okB; simp
theorem gcd_pos (n d : Int) (h : d ≠ 0) : 0 < Nat.gcd n.natAbs d.natAbs := Nat.gcd_pos_of_pos_right _ (by omega)
theorem up_mul (n d : Int) : n.natAbs = Nat.gcd n.natAbs d.natAbs * upN n d := (Nat.mul_div_cancel' (Nat.gcd_dvd_left _ _)).symm
theorem dn_mul (n d : Int) : d.natAbs = Nat.gcd n.natAbs d.natAbs * dnN n d := (Nat.mul_div_cancel' (Nat.gcd_dvd_right _ _)).symm
theorem coprime_ud (n d : Int) (h : d ≠ 0) : Nat.gcd (upN n d) (dnN n d) = 1 := by
  have := Nat.coprime_div_gcd_div_gcd (gcd_pos n d h)
  exact this
theorem dn_pos (n d : Int) (h : d ≠ 0) : 1 ≤ dnN n d := by
  have h1 := dn_mul n d
  rcases Nat.eq_zero_or_pos (dnN n d) with h2 | h2
  · rw [h2] at h1; omega
  · exact h2

/-- of two coprime pairs that stand for the same fraction -/
theorem coprime_same {a b c d : Nat} (h1 : Nat.gcd a b = 1) (h2 : Nat.gcd c d = 1) (hb : 0 < b) (hd : 0 < d) (h : a * d = c * b) : a = c ∧ b = d := by
  have e1 : b ∣ d := Nat.Coprime.dvd_of_dvd_mul_left (k := b) (m := a) (n := d) (Nat.Coprime.symm h1) ⟨c, by rw [h, Nat.mul_comm]⟩
  have e2 : d ∣ b := Nat.Coprime.dvd_of_dvd_mul_left (k := d) (m := c) (n := b) (Nat.Coprime.symm h2) ⟨a, by rw [← h, Nat.mul_comm]⟩
  have e3 : b = d := Nat.dvd_antisymm e1 e2
  subst e3
  exact ⟨Nat.eq_of_mul_eq_mul_right hb h, rfl⟩

theorem mul_natAbs {n d N D : Int} (h : n * D = N * d) : n.natAbs * D.natAbs = N.natAbs * d.natAbs := by
  rw [← Int.natAbs_mul, ← Int.natAbs_mul, h]

/-- Of of any pair that stands for a right ratio is this one -/
theorem of_mk {n d N D : Int} (hr : rightB N D = true) (hd : d ≠ 0) (h : n * D = N * d) : okB n d = true ∧ ofN n d = N ∧ ofD n d = D := by
  obtain ⟨r1, r2, r3, r4, r5⟩ := (right_iff N D).1 hr
  have hg := gcd_pos n d hd
  have h1 := up_mul n d
  have h2 := dn_mul n d
  have h3 := mul_natAbs h
  have hc := coprime_ud n d hd
  have h4 : upN n d * D.natAbs = N.natAbs * dnN n d := by
    generalize hG : Nat.gcd n.natAbs d.natAbs = g at *
    generalize upN n d = u at *
    generalize dnN n d = l at *
    generalize n.natAbs = A at *
    generalize d.natAbs = B at *
    generalize D.natAbs = C at *
    generalize N.natAbs = E at *
    have h5 : g * (u * C) = g * (E * l) := by
      rw [← Nat.mul_assoc, ← h1, h3, h2, Nat.mul_left_comm]
    exact Nat.eq_of_mul_eq_mul_left hg h5
  obtain ⟨e1, e2⟩ := coprime_same hc r5 (dn_pos n d hd) (by omega) h4
  have hok : okB n d = true := (ok_iff n d).2 ⟨hd, by omega, by omega⟩
  refine ⟨hok, ?_, ?_⟩
  · unfold ofN
    rw [if_pos hok, e1]
    have s1 : n < 0 ∧ N ≠ 0 → (N < 0 ↔ 0 < d) := by
      rintro ⟨hn, hN⟩
      have : n * D < 0 := Int.mul_neg_of_neg_of_pos hn (by omega)
      rw [h] at this
      constructor
      · intro hN'
        rcases Int.lt_trichotomy d 0 with hd' | hd' | hd'
        · have := Int.mul_pos_of_neg_of_neg hN' hd'; omega
        · omega
        · exact hd'
      · intro hd'
        rcases Int.lt_trichotomy N 0 with hN' | hN' | hN'
        · exact hN'
        · omega
        · have := Int.mul_pos hN' hd'; omega
    have s2 : 0 < n ∧ N ≠ 0 → (N < 0 ↔ d < 0) := by
      rintro ⟨hn, hN⟩
      have : 0 < n * D := Int.mul_pos hn (by omega)
      rw [h] at this
      constructor
      · intro hN'
        rcases Int.lt_trichotomy d 0 with hd' | hd' | hd'
        · exact hd'
        · omega
        · have := Int.mul_neg_of_neg_of_pos hN' hd'; omega
      · intro hd'
        rcases Int.lt_trichotomy N 0 with hN' | hN' | hN'
        · exact hN'
        · omega
        · have := Int.mul_neg_of_pos_of_neg hN' hd'; omega
    have s3 : n = 0 → N = 0 := by
      intro hn
      subst hn
      rw [Int.zero_mul] at h
      rcases Int.mul_eq_zero.1 h.symm with h | h <;> omega
    rcases Int.lt_trichotomy n 0 with hn | hn | hn
    · by_cases hN : N = 0
      · subst hN; simp
      · have := s1 ⟨hn, hN⟩
        by_cases hd' : d < 0
        · rw [if_neg (by simp [hn, hd'])]; omega
        · rw [if_pos (by simp [hn, hd'])]; omega
    · have := s3 hn
      subst this; simp
    · by_cases hN : N = 0
      · subst hN; simp
      · have := s2 ⟨hn, hN⟩
        by_cases hd' : d < 0
        · rw [if_pos (by simp [show ¬ n < 0 by omega, hd'])]; omega
        · rw [if_neg (by simp [show ¬ n < 0 by omega, hd'])]; omega
  · unfold ofD
    rw [if_pos hok, e2]
    omega
/-- what Of makes is right, and stands for the fraction -/
theorem of_ok {n d : Int} (hok : okB n d = true) : rightB (ofN n d) (ofD n d) = true ∧ ofN n d * d = n * ofD n d := by
  obtain ⟨hd, hu, hl⟩ := (ok_iff n d).1 hok
  have hc := coprime_ud n d hd
  have hp := dn_pos n d hd
  have h1 := up_mul n d
  have h2 := dn_mul n d
  have hN : (ofN n d).natAbs = upN n d := by
    unfold ofN; rw [if_pos hok]; split <;> omega
  have hD : ofD n d = (dnN n d : Int) := by unfold ofD; rw [if_pos hok]
  refine ⟨(right_iff _ _).2 ⟨by omega, by omega, by omega, by omega, ?_⟩, ?_⟩
  · rw [hN, hD]; exact hc
  · have e1 : (n.natAbs : Int) = (Nat.gcd n.natAbs d.natAbs : Int) * (upN n d : Int) := by exact_mod_cast h1
    have e2 : (d.natAbs : Int) = (Nat.gcd n.natAbs d.natAbs : Int) * (dnN n d : Int) := by exact_mod_cast h2
    have e3 : (upN n d : Int) * (d.natAbs : Int) = (n.natAbs : Int) * (dnN n d : Int) := by
      rw [e1, e2]; simp only [Int.mul_comm, Int.mul_left_comm, Int.mul_assoc]
    rw [hD]
    unfold ofN
    rw [if_pos hok]
    rcases Int.lt_or_le n 0 with hn | hn <;> rcases Int.lt_or_le d 0 with hd' | hd'
    · rw [if_neg (by simp [hn, hd'])]
      rw [show (n.natAbs : Int) = -n by omega, show (d.natAbs : Int) = -d by omega] at e3
      rw [Int.mul_neg, Int.neg_mul] at e3; omega
    · rw [if_pos (by simp [hn, show ¬ d < 0 by omega])]
      rw [show (n.natAbs : Int) = -n by omega, show (d.natAbs : Int) = d by omega] at e3
      rw [Int.neg_mul] at e3 ⊢; omega
    · rw [if_pos (by simp [hd', show ¬ n < 0 by omega])]
      rw [show (n.natAbs : Int) = n by omega, show (d.natAbs : Int) = -d by omega] at e3
      rw [Int.mul_neg] at e3; rw [Int.neg_mul]; omega
    · rw [if_neg (by simp [show ¬ n < 0 by omega, show ¬ d < 0 by omega])]
      rw [show (n.natAbs : Int) = n by omega, show (d.natAbs : Int) = d by omega] at e3
      exact e3
theorem of_no {n d : Int} (h : okB n d = false) : ofN n d = 0 ∧ ofD n d = 0 ∧ ofE n d ≠ 0 := by
  refine ⟨by unfold ofN; rw [if_neg (by simp [h])], by unfold ofD; rw [if_neg (by simp [h])], ?_⟩
  unfold ofE; rw [if_neg (by simp [h])]; split <;> decide
theorem of_yes {n d : Int} (h : okB n d = true) : ofE n d = 0 := by unfold ofE; rw [if_pos h]
theorem ofE_ok {n d : Int} : ofE n d = 0 ↔ okB n d = true := by
  constructor
  · intro h
    cases h' : okB n d with
    | true => rfl
    | false => exact absurd h (of_no h').2.2
  · exact of_yes
/-- the same fraction, the same answer -/
theorem of_scale (n d k : Int) (hk : k ≠ 0) : ofN (n * k) (d * k) = ofN n d ∧ ofD (n * k) (d * k) = ofD n d ∧ ofE (n * k) (d * k) = ofE n d := by
  by_cases hd : d = 0
  · subst hd
    simp [ofN, ofD, ofE, okB]
  · have hg := gcd_pos n d hd
    have hk0 : 0 < k.natAbs := by omega
    have e : Nat.gcd (n * k).natAbs (d * k).natAbs = Nat.gcd n.natAbs d.natAbs * k.natAbs := by
      rw [Int.natAbs_mul, Int.natAbs_mul, Nat.gcd_mul_right]
    have eu : upN (n * k) (d * k) = upN n d := by
      unfold upN; rw [e, Int.natAbs_mul, Nat.mul_div_mul_right _ _ hk0]
    have ed : dnN (n * k) (d * k) = dnN n d := by
      unfold dnN; rw [e, Int.natAbs_mul, Nat.mul_div_mul_right _ _ hk0]
    have hdk : d * k ≠ 0 := by intro h; rcases Int.mul_eq_zero.1 h with h | h <;> omega
    have eo : okB (n * k) (d * k) = okB n d := by
      unfold okB; rw [eu, ed]; simp [hd, hk]
    refine ⟨?_, by unfold ofD; rw [eo, ed], by unfold ofE; rw [eo, if_neg hdk, if_neg hd]⟩
    unfold ofN
    rw [eo, eu]
    by_cases hu : upN n d = 0
    · rw [hu]; simp
    · have hn : n ≠ 0 := by
        intro h; apply hu; unfold upN; rw [h]; simp
      have sg : (decide (n * k < 0) != decide (d * k < 0)) = (decide (n < 0) != decide (d < 0)) := by
        rcases Int.lt_or_le 0 k with h | h
        · have a1 : n * k < 0 ↔ n < 0 := by
            constructor
            · intro h'
              rcases Int.lt_or_le n 0 with h1 | h1
              · exact h1
              · have := Int.mul_nonneg h1 (Int.le_of_lt h); omega
            · intro h'; exact Int.mul_neg_of_neg_of_pos h' h
          have a2 : d * k < 0 ↔ d < 0 := by
            constructor
            · intro h'
              rcases Int.lt_or_le d 0 with h1 | h1
              · exact h1
              · have := Int.mul_nonneg h1 (Int.le_of_lt h); omega
            · intro h'; exact Int.mul_neg_of_neg_of_pos h' h
          simp [a1, a2]
        · have hk' : k < 0 := by omega
          have a1 : n * k < 0 ↔ ¬ n < 0 := by
            constructor
            · intro h' h1
              have := Int.mul_pos_of_neg_of_neg h1 hk'; omega
            · intro h'; exact Int.mul_neg_of_pos_of_neg (by omega) hk'
          have a2 : d * k < 0 ↔ ¬ d < 0 := by
            constructor
            · intro h' h1
              have := Int.mul_pos_of_neg_of_neg h1 hk'; omega
            · intro h'; exact Int.mul_neg_of_pos_of_neg (by omega) hk'
          simp only [a1, a2]
          by_cases h1 : n < 0 <;> by_cases h2 : d < 0 <;> simp [h1, h2]
      rw [sg]
/-- right ratios that stand for the same fraction are the same -/
theorem right_same {a b c d : Int} (h1 : rightB a b = true) (h2 : rightB c d = true) (h : a * d = c * b) : a = c ∧ b = d := by
  obtain ⟨r1, _⟩ := (right_iff c d).1 h2
  obtain ⟨q1, _⟩ := (right_iff a b).1 h1
  have e1 := of_mk (n := a) (d := b) h1 (by omega) rfl
  have e2 := of_mk (n := a) (d := b) h2 (by omega) h
  exact ⟨e1.2.1.symm.trans e2.2.1, e1.2.2.symm.trans e2.2.2⟩
theorem right_opp {a b : Int} (h : rightB a b = true) : rightB (-a) b = true := by
  obtain ⟨r1, r2, r3, r4, r5⟩ := (right_iff a b).1 h
  exact (right_iff _ _).2 ⟨r1, r2, by omega, by omega, by rw [Int.natAbs_neg]; exact r5⟩
theorem prod_le {a b : Int} (h1 : -1073741824 ≤ a) (h2 : a ≤ 1073741824) (h3 : -1073741824 ≤ b) (h4 : b ≤ 1073741824) : -1152921504606846976 ≤ a * b ∧ a * b ≤ 1152921504606846976 := by
  have h : (a * b).natAbs ≤ 1073741824 * 1073741824 := by
    rw [Int.natAbs_mul]; exact Nat.mul_le_mul (by omega) (by omega)
  omega
end Go.Proofs.Ytcilclbolmijfaa
