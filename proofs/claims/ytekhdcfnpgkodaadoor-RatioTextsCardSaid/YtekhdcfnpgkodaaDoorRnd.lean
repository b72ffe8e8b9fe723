/-
  The four ways to round, as mathematics.
-/
namespace Go.Proofs.YtekhdcfnpgkodaaDoor
def dnQ (n d : Int) : Int := n / d
def upQ (n d : Int) : Int := -((-n) / d)
def hfQ (n d : Int) : Int := (2 * n + d) / (2 * d)
def evQ (n d : Int) : Int := if d = 2 ∧ hfQ n d % 2 ≠ 0 then hfQ n d - 1 else hfQ n d
def rndQ (how n d : Int) : Int := if how = 1 then dnQ n d else if how = 2 then upQ n d else if how = 3 then hfQ n d else evQ n d

theorem fl (n d q : Int) (hd : 0 < d) : n / d = q ↔ q * d ≤ n ∧ n < q * d + d := by
  constructor
  · rintro rfl
    have h1 := Int.mul_ediv_add_emod n d
    have h2 := Int.emod_nonneg n (b := d) (by omega)
    have h3 := Int.emod_lt_of_pos n hd
    rw [Int.mul_comm] at h1
    omega
  · rintro ⟨h1, h2⟩
    apply Int.le_antisymm
    · have : n / d < q + 1 := (Int.ediv_lt_iff_lt_mul hd).2 (by rw [Int.add_mul]; omega)
      omega
    · exact (Int.le_ediv_iff_mul_le hd).2 h1
theorem fl_of (n d : Int) (hd : 0 < d) : n / d * d ≤ n ∧ n < n / d * d + d := (fl n d _ hd).1 rfl
theorem fl_mono (n d N D : Int) (hd : 0 < d) (hD : 0 < D) (h : n * D ≤ N * d) : n / d ≤ N / D := by
  apply (Int.le_ediv_iff_mul_le hD).2
  obtain ⟨h1, _⟩ := fl_of n d hd
  generalize n / d = q at *
  have h2 : q * d * D ≤ n * D := Int.mul_le_mul_of_nonneg_right h1 (by omega)
  have h3 : q * D * d ≤ N * d := by rw [Int.mul_right_comm]; omega
  exact Int.le_of_mul_le_mul_right h3 hd
theorem up_iff (n d q : Int) (hd : 0 < d) : upQ n d = q ↔ n ≤ q * d ∧ q * d < n + d := by
  unfold upQ
  rw [show (-(-n / d) = q) ↔ (-n / d = -q) by omega, fl _ _ _ hd, Int.neg_mul]
  omega
theorem hf_iff (n d q : Int) (hd : 0 < d) : hfQ n d = q ↔ 2 * (q * d) ≤ 2 * n + d ∧ 2 * n < 2 * (q * d) + d := by
  unfold hfQ
  rw [fl _ _ _ (by omega), show q * (2 * d) = 2 * (q * d) by rw [Int.mul_left_comm]]
  omega
/-- of coprime numbers a half is one of 2 -/
theorem half_two {n d : Int} (hg : Nat.gcd n.natAbs d.natAbs = 1) (hd : 0 < d) (h : 2 * (n / d * d) + d = 2 * n) : d = 2 := by
  have h1 : ∃ x : Int, d = 2 * x := ⟨n - n / d * d, by omega⟩
  obtain ⟨x, hx⟩ := h1
  have h2 : n = (2 * (n / d) + 1) * x := by
    have : 2 * (n / d * (2 * x)) + 2 * x = 2 * n := by rw [← hx]; exact h
    have e : n / d * (2 * x) = 2 * (n / d * x) := by rw [Int.mul_left_comm]
    rw [e] at this
    rw [Int.add_mul, Int.mul_assoc]; omega
  have h3 : x.natAbs ∣ Nat.gcd n.natAbs d.natAbs := by
    apply Nat.dvd_gcd
    · rw [Int.natAbs_dvd_natAbs]; exact ⟨2 * (n / d) + 1, by rw [Int.mul_comm]; exact h2⟩
    · rw [Int.natAbs_dvd_natAbs]; exact ⟨2, by rw [Int.mul_comm]; exact hx⟩
  rw [hg] at h3
  have := Nat.le_of_dvd (by decide) h3
  omega
theorem odd_of {n d : Int} (hg : Nat.gcd n.natAbs d.natAbs = 1) (hd : d = 2) : n % 2 = 1 := by
  subst hd
  rcases Int.emod_two_eq n with h | h
  · exfalso
    have : 2 ∣ Nat.gcd n.natAbs 2 := Nat.dvd_gcd (by omega) ⟨1, rfl⟩
    have e : (2 : Int).natAbs = 2 := rfl
    rw [e] at hg
    rw [hg] at this
    omega
  · exact h
theorem hf_two (n : Int) (h : n % 2 = 1) : hfQ n 2 = n / 2 + 1 := by unfold hfQ; omega
/-- as the reference rounds -/
theorem ref_rnd {n d : Int} (hg : Nat.gcd n.natAbs d.natAbs = 1) (hd : 0 < d) (how : Int) :
    rndQ how n d = (if n - n / d * d = 0 ∨ how = 1 then n / d else if how = 2 ∨ d < 2 * (n - n / d * d) then n / d + 1 else if 2 * (n - n / d * d) < d then n / d else if how = 3 ∨ (n / d) % 2 ≠ 0 then n / d + 1 else n / d) := by
  obtain ⟨f1, f2⟩ := fl_of n d hd
  have hup : n - n / d * d = 0 → upQ n d = n / d := fun h => (up_iff _ _ _ hd).2 ⟨by omega, by omega⟩
  have hup' : n - n / d * d ≠ 0 → upQ n d = n / d + 1 := fun h => (up_iff _ _ _ hd).2 ⟨by rw [Int.add_mul]; omega, by rw [Int.add_mul]; omega⟩
  have hh1 : 2 * (n - n / d * d) < d → hfQ n d = n / d := fun h => (hf_iff _ _ _ hd).2 ⟨by omega, by omega⟩
  have hh2 : d ≤ 2 * (n - n / d * d) → hfQ n d = n / d + 1 := fun h => (hf_iff _ _ _ hd).2 ⟨by rw [Int.add_mul]; omega, by rw [Int.add_mul]; omega⟩
  have he1 : d ≠ 2 → evQ n d = hfQ n d := fun h => by unfold evQ; rw [if_neg (by rintro ⟨h', _⟩; exact h h')]
  have he2 : d = 2 → evQ n d = if (n / d) % 2 ≠ 0 then n / d + 1 else n / d := fun h => by
    have hn := odd_of hg h
    subst h
    unfold evQ
    rw [hf_two n hn]
    by_cases hq : (n / 2) % 2 = 0
    · rw [if_pos ⟨rfl, by omega⟩, if_neg (by omega)]; omega
    · rw [if_neg (by omega), if_pos hq]
  have h2 : d = 2 → 2 * (n - n / d * d) = d := fun h => by
    have hn := odd_of hg h
    subst h; omega
  have h3 : 2 * (n - n / d * d) = d → d = 2 := fun h => half_two hg hd (by omega)
  unfold rndQ dnQ
  generalize n / d * d = p at *
  generalize n / d = q at *
  generalize hfQ n d = hf at *
  generalize upQ n d = up at *
  generalize evQ n d = ev at *
  by_cases k1 : how = 1
  · rw [if_pos k1, if_pos (Or.inr k1)]
  · rw [if_neg k1]
    by_cases k2 : how = 2
    · rw [if_pos k2]
      by_cases hr : n - p = 0
      · rw [if_pos (Or.inl hr)]; exact hup hr
      · rw [if_neg (by omega), if_pos (Or.inl k2)]; exact hup' hr
    · rw [if_neg k2]
      by_cases k3 : how = 3
      · rw [if_pos k3]
        by_cases hr : n - p = 0
        · rw [if_pos (Or.inl hr)]; exact hh1 (by omega)
        · rw [if_neg (by omega)]
          by_cases c1 : d < 2 * (n - p)
          · rw [if_pos (Or.inr c1)]; exact hh2 (by omega)
          · rw [if_neg (by omega)]
            by_cases c2 : 2 * (n - p) < d
            · rw [if_pos c2]; exact hh1 c2
            · rw [if_neg c2, if_pos (Or.inl k3)]; exact hh2 (by omega)
      · rw [if_neg k3]
        by_cases hr : n - p = 0
        · rw [if_pos (Or.inl hr), he1 (by intro hd2; have := h2 hd2; omega)]; exact hh1 (by omega)
        · rw [if_neg (by omega)]
          by_cases c1 : d < 2 * (n - p)
          · rw [if_pos (Or.inr c1), he1 (by intro hd2; have := h2 hd2; omega)]; exact hh2 (by omega)
          · rw [if_neg (by omega)]
            by_cases c2 : 2 * (n - p) < d
            · rw [if_pos c2, he1 (by intro hd2; have := h2 hd2; omega)]; exact hh1 c2
            · rw [if_neg c2, he2 (h3 (by omega))]
              simp [k3]
/-- what the law asks of one way, at one ratio -/
theorem rnd_near {n d : Int} (hg : Nat.gcd n.natAbs d.natAbs = 1) (hd : 0 < d) (how : Int) :
    rndQ how n d * d - n < d ∧ n - rndQ how n d * d < d ∧ (d = 1 → rndQ how n d = n) ∧ (2 < how → 2 * (rndQ how n d * d - n) ≤ d ∧ 2 * (n - rndQ how n d * d) ≤ d) := by
  obtain ⟨f1, f2⟩ := fl_of n d hd
  have e1 : (n / d + 1) * d = n / d * d + d := by rw [Int.add_mul, Int.one_mul]
  have e2 : d = 1 → n / d = n := by rintro rfl; simp
  have e3 : d = 1 → n / d * d = n := by rintro rfl; simp
  rw [ref_rnd hg hd how]
  generalize hp : n / d * d = p at *
  generalize n / d = q at *
  split
  · refine ⟨by omega, by omega, e2, fun h => ⟨by omega, by omega⟩⟩
  · split
    · rw [e1]
      refine ⟨by omega, by omega, fun h => ?_, fun h => ⟨by omega, by omega⟩⟩
      have := e3 h; omega
    · split
      · rw [hp]
        refine ⟨by omega, by omega, e2, fun h => ⟨by omega, by omega⟩⟩
      · split
        · rw [e1]
          refine ⟨by omega, by omega, fun h => ?_, fun h => ⟨by omega, by omega⟩⟩
          have := e3 h; omega
        · rw [hp]
          refine ⟨by omega, by omega, e2, fun h => ⟨by omega, by omega⟩⟩
theorem ev_between (n d : Int) : evQ n d = hfQ n d ∨ (evQ n d = hfQ n d - 1 ∧ d = 2 ∧ hfQ n d % 2 ≠ 0) := by
  unfold evQ
  by_cases h : d = 2 ∧ hfQ n d % 2 ≠ 0
  · rw [if_pos h]; exact .inr ⟨rfl, h⟩
  · rw [if_neg h]; exact .inl rfl
/-- no way reverses an order -/
theorem rnd_mono {n d N D : Int} (hG : Nat.gcd N.natAbs D.natAbs = 1) (hd : 0 < d) (hD : 0 < D) (how : Int) (h : n * D < N * d) : rndQ how n d ≤ rndQ how N D := by
  have hh : hfQ n d ≤ hfQ N D := by
    unfold hfQ
    apply fl_mono _ _ _ _ (by omega) (by omega)
    have e1 : (2 * n + d) * (2 * D) = 4 * (n * D) + 2 * (d * D) := by
      rw [Int.add_mul, Int.mul_assoc, Int.mul_left_comm n 2 D, Int.mul_left_comm d 2 D]; omega
    have e2 : (2 * N + D) * (2 * d) = 4 * (N * d) + 2 * (d * D) := by
      rw [Int.add_mul, Int.mul_assoc, Int.mul_left_comm N 2 d, Int.mul_left_comm D 2 d, Int.mul_comm D d]; omega
    rw [e1, e2]; omega
  unfold rndQ
  split
  · exact fl_mono _ _ _ _ hd hD (by omega)
  · split
    · unfold upQ
      have := fl_mono (-N) D (-n) d hD hd (by rw [Int.neg_mul, Int.neg_mul]; omega)
      omega
    · split
      · exact hh
      · rcases ev_between n d with e | ⟨e, _, _⟩ <;> rcases ev_between N D with e' | ⟨e', f', g'⟩
        · omega
        · by_cases hlt : hfQ n d < hfQ N D
          · omega
          · exfalso
            have heq : hfQ n d = hfQ N D := by omega
            have hn := odd_of hG f'
            subst f'
            have e3 := hf_two N hn
            obtain ⟨k1, k2⟩ := (hf_iff n d _ hd).1 heq
            rw [e3] at k1
            have e4 : (N / 2 + 1) * d * 2 = (N + 1) * d := by
              have : (N / 2 + 1) * d * 2 = (N / 2 + 1) * 2 * d := by rw [Int.mul_right_comm]
              rw [this]
              congr 1
              omega
            rw [Int.add_mul N 1 d, Int.one_mul] at e4
            omega
        · omega
        · omega
theorem rnd_opp {n d : Int} (hg : Nat.gcd n.natAbs d.natAbs = 1) (hd : 0 < d) : rndQ 1 n d = -rndQ 2 (-n) d ∧ rndQ 2 n d = -rndQ 1 (-n) d ∧ rndQ 4 n d = -rndQ 4 (-n) d ∧
    rndQ 1 n d ≤ rndQ 4 n d ∧ rndQ 4 n d ≤ rndQ 3 n d ∧ rndQ 3 n d ≤ rndQ 2 n d := by
  have r1 : ∀ m, rndQ 1 m d = dnQ m d := fun m => rfl
  have r2 : ∀ m, rndQ 2 m d = upQ m d := fun m => rfl
  have r3 : ∀ m, rndQ 3 m d = hfQ m d := fun m => rfl
  have r4 : ∀ m, rndQ 4 m d = evQ m d := fun m => rfl
  have n1 := rnd_near hg hd 4
  have n3 := rnd_near hg hd 3
  rw [r1, r2, r2, r1, r4, r4, r3]
  rw [r4] at n1
  rw [r3] at n3
  refine ⟨by unfold dnQ upQ; simp only [Int.neg_neg], rfl, ?_, ?_, ?_, ?_⟩
  · by_cases h2 : d = 2
    · have hn := odd_of hg h2
      subst h2
      have a := hf_two n hn
      have b := hf_two (-n) (by omega)
      have c : (-n) / 2 = -(n / 2) - 1 := by omega
      unfold evQ
      rw [a, b, c]
      by_cases hq : (n / 2) % 2 = 0
      · rw [if_pos ⟨rfl, by omega⟩, if_neg (by omega)]; omega
      · rw [if_neg (by omega), if_pos ⟨rfl, by omega⟩]; omega
    · have a : evQ n d = hfQ n d := by unfold evQ; rw [if_neg (by omega)]
      have b : evQ (-n) d = hfQ (-n) d := by unfold evQ; rw [if_neg (by omega)]
      rw [a, b]
      obtain ⟨k1, k2⟩ := (hf_iff n d _ hd).1 rfl
      have hne : 2 * (hfQ n d * d) ≠ 2 * n + d := by
        intro hx
        apply h2
        have hq : n / d = hfQ n d - 1 := by
          rw [fl _ _ _ hd, Int.sub_mul, Int.one_mul]; omega
        apply half_two hg hd
        rw [hq, Int.sub_mul, Int.one_mul]; omega
      have : hfQ (-n) d = -hfQ n d := by
        rw [hf_iff _ _ _ hd, Int.neg_mul]; omega
      omega
  · have : dnQ n d < evQ n d + 1 := by
      unfold dnQ
      apply (Int.ediv_lt_iff_lt_mul hd).2
      rw [Int.add_mul, Int.one_mul]; omega
    omega
  · rcases ev_between n d with e | ⟨e, _⟩ <;> omega
  · obtain ⟨u1, u2⟩ := (up_iff n d _ hd).1 rfl
    have : hfQ n d < upQ n d + 1 := by
      apply Int.lt_of_mul_lt_mul_right (a := d) ?_ (by omega)
      rw [Int.add_mul, Int.one_mul]; omega
    omega
end Go.Proofs.YtekhdcfnpgkodaaDoor
