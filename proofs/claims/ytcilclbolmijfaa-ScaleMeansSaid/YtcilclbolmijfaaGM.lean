/-
  Grades that are all equal, and what grows, as mathematics.
-/
import Derived.Test.YtcilclbolmijfaaConv
namespace Go.Proofs.Ytcilclbolmijfaa
theorem zip_rep (a : Int) : ∀ xs : List Int, (List.replicate xs.length a).zip xs = xs.map fun x => (a, x)
  | [] => rfl
  | x :: xs => by
    rw [List.length_cons, List.replicate_succ, List.zip_cons_cons, zip_rep a xs, List.map_cons]
theorem sum_rep (a : Int) : ∀ xs : List Int, ((xs.map fun x => (a, x)).map fun x : Int × Int => x.1 * x.2).sum = a * xs.sum
  | [] => by simp
  | x :: xs => by
    rw [List.map_cons, List.map_cons, List.sum_cons, sum_rep a xs, List.sum_cons, Int.mul_add]
theorem sum_snd (a : Int) : ∀ xs : List Int, ((xs.map fun x => (a, x)).map fun x : Int × Int => x.2).sum = xs.sum
  | [] => by simp
  | x :: xs => by
    rw [List.map_cons, List.map_cons, List.sum_cons, sum_snd a xs, List.sum_cons]
theorem mean_rep (a : Int) (xs : List Int) (ha : -1000 ≤ a ∧ a ≤ 1000) (hx : ∀ x ∈ xs, 1 ≤ x ∧ x ≤ 60) (h0 : 0 < xs.length) (hl : xs.length ≤ 2000) :
    mE (List.replicate xs.length a) xs = 0 ∧ mN (List.replicate xs.length a) xs = a ∧ mD (List.replicate xs.length a) xs = 1 := by
  have hb : bads ((List.replicate xs.length a).zip xs) = false := by
    rw [zip_rep, Bool.eq_false_iff]
    intro h
    unfold bads at h
    rw [List.any_eq_true] at h
    obtain ⟨y, hy, hb⟩ := h
    obtain ⟨x, hm, rfl⟩ := List.mem_map.1 hy
    have := hx x hm
    unfold badB gB wiB at hb
    simp at hb
    omega
  have hC : mC (List.replicate xs.length a) xs = 0 := by
    unfold mC
    rw [if_neg (by rw [List.length_replicate]; omega), if_neg (by rw [List.length_replicate]; omega), hb]
    rfl
  obtain ⟨e1, e2, _, ⟨w1, _⟩, _⟩ := mE_zero hC
  have hP : mP (List.replicate xs.length a) xs = a * xs.sum := by
    unfold mP ptsT
    rw [List.length_replicate, zip_rep, List.take_of_length_le (by rw [List.length_map]; omega), sum_rep]
  have hW : mW (List.replicate xs.length a) xs = xs.sum := by
    unfold mW wtsT
    rw [List.length_replicate, zip_rep, List.take_of_length_le (by rw [List.length_map]; omega), sum_snd]
  rw [hW] at w1
  have hr : rightB a 1 = true := (right_iff _ _).2 ⟨by omega, by omega, by omega, by omega, by simp⟩
  obtain ⟨_, o2, o3⟩ := of_mk (n := a * xs.sum) (d := xs.sum) hr (by omega) (by rw [Int.mul_one])
  refine ⟨e1, ?_, ?_⟩
  · unfold mN; rw [if_pos hC, hP, hW]; exact o2
  · unfold mD; rw [if_pos hC, hP, hW]; exact o3
theorem ro_two (n d how : Int) : roV n d how = n / d ∨ roV n d how = n / d + 1 := by
  unfold roV; split
  · exact .inl rfl
  · split
    · split
      · exact .inl rfl
      · exact .inr rfl
    · split
      · split
        · exact .inl rfl
        · exact .inr rfl
      · split
        · exact .inl rfl
        · exact .inr rfl
theorem ro_mono {n m d how : Int} (hd : 0 < d) (h : n ≤ m) : roV n d how ≤ roV m d how := by
  have hq : n / d ≤ m / d := Int.ediv_le_ediv hd h
  by_cases hl : n / d < m / d
  · rcases ro_two n d how with e | e <;> rcases ro_two m d how with f | f <;> omega
  · have he : n / d = m / d := by omega
    have h1 := Int.mul_ediv_add_emod n d
    have h2 := Int.mul_ediv_add_emod m d
    rw [he] at h1
    have ht : n % d ≤ m % d := by omega
    have h3 := Int.emod_nonneg n (b := d) (by omega)
    unfold roV
    rw [he]
    generalize m / d = q at *
    generalize n % d = s at *
    generalize m % d = t at *
    clear h1 h2 h hq hl he
    split
    · omega
    · split
      · split <;> split <;> omega
      · split
        · split <;> split <;> omega
        · split <;> split <;> omega
theorem place_mono {a b n m : Int} (h : n ≤ m) : placeV a b n ≤ placeV a b m := by unfold placeV limV; omega
theorem place_rg {a b p : Int} (hc : chkB a b p = true) (n : Int) : rgB a b p (placeV a b n) = true := by
  have := (chk_iff a b p).1 hc
  exact (rg_iff _ _ _ _).2 ⟨hc, by unfold placeV limV; omega, by unfold placeV limV; omega⟩
/-- a grade that is converted alone -/
def vvV (u ad d r a b g : Int) : Int := placeV a b (roV (g * u + ad) d r)
theorem co_rep {u ad d r a b p : Int} (hv : cvB u ad d r = true) (hc : chkB a b p = true) (g : Int) (xs : List Int) (ha : -1000 ≤ g ∧ g ≤ 1000) (hx : ∀ x ∈ xs, 1 ≤ x ∧ x ≤ 60) (h0 : 0 < xs.length) (hl : xs.length ≤ 2000) :
    coV u ad d r a b p (List.replicate xs.length g) xs = vvV u ad d r a b g ∧ coE u ad d r a b p (List.replicate xs.length g) xs = 0 := by
  obtain ⟨e1, e2, e3⟩ := mean_rep g xs ha hx h0 hl
  unfold coV coE vvV
  rw [hv, hc, e1, e2, e3, Int.mul_one, Int.one_mul]
  exact ⟨rfl, rfl⟩
theorem vv_up {u ad d r a b g h : Int} (hd : 0 < d) (hu : 0 ≤ u) (hgh : g ≤ h) : vvV u ad d r a b g ≤ vvV u ad d r a b h :=
  place_mono (ro_mono hd (by have := Int.mul_le_mul_of_nonneg_right hgh hu; omega))
theorem vv_dn {u ad d r a b g h : Int} (hd : 0 < d) (hu : u ≤ 0) (hgh : g ≤ h) : vvV u ad d r a b h ≤ vvV u ad d r a b g :=
  place_mono (ro_mono hd (by have := Int.mul_le_mul_of_nonpos_right hgh hu; omega))
end Go.Proofs.Ytcilclbolmijfaa
