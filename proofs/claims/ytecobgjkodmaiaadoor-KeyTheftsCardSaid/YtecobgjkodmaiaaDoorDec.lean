/-
  Decimals, as mathematics.
-/
import Derived.Lib.AtoiAll
import Derived.Lib.ItoaNum
import Derived.Lib.Bytealg
import Derived.Lib.IndexMore
import Derived.Lib.CutLaws
import Derived.Test.YtecobgjkodmaiaaDoorMath
namespace Go.Proofs.YtecobgjkodmaiaaDoor
open Go.Lib
def i64 (z : Int) : Prop := -9223372036854775808 ≤ z ∧ z ≤ 9223372036854775807
-- the digits

theorem dec_small {u : Nat} (h : u < 10) : decDigits u = [UInt8.ofNat (48 + u)] := by rw [decDigits, dif_pos h]
theorem dec_big {u : Nat} (h : ¬ u < 10) : decDigits u = decDigits (u / 10) ++ [UInt8.ofNat (48 + u % 10)] := by rw [decDigits, dif_neg h]
theorem ofNat_digit {d : Nat} (h : d < 10) : (UInt8.ofNat (48 + d)).toNat = 48 + d := by
  rw [UInt8.toNat_ofNat']; omega

theorem dec_digits (u : Nat) : ∀ c ∈ decDigits u, 48 ≤ c.toNat ∧ c.toNat ≤ 57 := by
  induction u using Nat.strongRecOn with
  | ind u ih =>
    intro c hc
    by_cases h : u < 10
    · rw [dec_small h, List.mem_singleton] at hc
      subst hc
      rw [ofNat_digit h]; omega
    · rw [dec_big h, List.mem_append, List.mem_singleton] at hc
      rcases hc with hc | rfl
      · exact ih (u / 10) (by omega) c hc
      · rw [ofNat_digit (by omega)]; omega

theorem dec_ne_nil (u : Nat) : decDigits u ≠ [] := by
  by_cases h : u < 10
  · rw [dec_small h]; simp
  · rw [dec_big h]; simp

theorem parse_snoc (l : List UInt8) (c : UInt8) : ∀ acc v, parseUint10 acc l = .ok v → 48 ≤ c.toNat → c.toNat ≤ 57 → v * 10 + (c.toNat - 48) < 18446744073709551616 →
    parseUint10 acc (l ++ [c]) = .ok (v * 10 + (c.toNat - 48)) := by
  induction l with
  | nil =>
    intro acc v h h1 h2 h3
    simp only [parseUint10, NumEnd.ok.injEq] at h
    subst h
    simp only [List.nil_append, parseUint10]
    rw [if_pos ⟨h1, h2⟩, if_neg (by omega), if_neg (by omega)]
  | cons b l ih =>
    intro acc v h h1 h2 h3
    simp only [parseUint10] at h
    simp only [List.cons_append, parseUint10]
    split at h
    · rename_i hb
      rw [if_pos hb]
      split at h
      · cases h
      · rename_i h4
        rw [if_neg h4]
        split at h
        · cases h
        · rename_i h5
          rw [if_neg h5]
          exact ih _ _ h h1 h2 h3
    · cases h

theorem parse_dec (u : Nat) (hu : u < 18446744073709551616) : parseUint10 0 (decDigits u) = .ok u := by
  induction u using Nat.strongRecOn with
  | ind u ih =>
    by_cases h : u < 10
    · rw [dec_small h]
      have := parse_snoc [] (UInt8.ofNat (48 + u)) 0 0 rfl (by rw [ofNat_digit h]; omega) (by rw [ofNat_digit h]; omega) (by rw [ofNat_digit h]; omega)
      rw [ofNat_digit h] at this
      simpa using this
    · rw [dec_big h]
      have hd : u % 10 < 10 := by omega
      have := parse_snoc (decDigits (u / 10)) (UInt8.ofNat (48 + u % 10)) 0 (u / 10) (ih _ (by omega) (by omega)) (by rw [ofNat_digit hd]; omega) (by rw [ofNat_digit hd]; omega) (by rw [ofNat_digit hd]; omega)
      rw [ofNat_digit hd] at this
      rw [this]
      congr 1
      omega

theorem parseMag_dec (u : Nat) (hu : u < 18446744073709551616) : parseMag (decDigits u) = .ok u := by
  unfold parseMag
  rw [if_neg (dec_ne_nil u), parse_dec u hu]

theorem itoa_neg' {n : Int} (h : n < 0) : itoa n = 45 :: decDigits n.natAbs := by unfold itoa; rw [if_pos h]
theorem itoa_pos' {n : Int} (h : ¬ n < 0) : itoa n = decDigits n.toNat := by unfold itoa; rw [if_neg h]

theorem dec_head (u : Nat) : ∃ c r, decDigits u = c :: r ∧ 48 ≤ c.toNat ∧ c.toNat ≤ 57 := by
  cases h : decDigits u with
  | nil => exact absurd h (dec_ne_nil u)
  | cons c r =>
    have := dec_digits u c (by rw [h]; exact List.mem_cons_self)
    exact ⟨c, r, rfl, this⟩

theorem atoi_itoa (n : Int) (h : i64 n) : atoiAll (itoa n) = .ok n := by
  unfold i64 at h
  by_cases hn : n < 0
  · rw [itoa_neg' hn]
    unfold atoiAll
    simp only
    rw [if_pos (by decide), parseMag_dec _ (by omega)]
    simp only
    rw [if_neg (by simp), if_neg (by simp; omega), if_pos (by decide)]
    congr 1
    omega
  · rw [itoa_pos' hn]
    obtain ⟨c, r, hc, h1, h2⟩ := dec_head n.toNat
    have hp := parseMag_dec n.toNat (by omega)
    unfold atoiAll
    rw [hc]
    simp only
    rw [if_neg (by omega), ← hc, hp]
    simp only
    rw [if_neg (by omega), if_neg (by omega), if_neg (by omega)]
    congr 1
    omega

theorem atoi_range' {f : List UInt8} {n : Int} (h : atoiAll f = .ok n) : i64 n := by
  unfold i64
  unfold atoiAll at h
  cases f with
  | nil => cases h
  | cons c r =>
    simp only at h
    split at h
    · cases h
    · cases h
    · split at h
      · cases h
      · split at h
        · cases h
        · rename_i h1 h2
          injection h with h
          split at h <;> omega

theorem itoa_no {n : Int} {c : UInt8} (hc : 58 ≤ c.toNat) : c ∉ itoa n := by
  intro h
  by_cases hn : n < 0
  · rw [itoa_neg' hn, List.mem_cons] at h
    rcases h with rfl | h
    · exact absurd hc (by decide)
    · have := dec_digits _ c h; omega
  · rw [itoa_pos' hn] at h
    have := dec_digits _ c h; omega

theorem dec_length (u : Nat) (k : Nat) (h : u < 10 ^ (k + 1)) : (decDigits u).length ≤ k + 1 := by
  induction k generalizing u with
  | zero => rw [dec_small (by simpa using h)]; simp
  | succ k ih =>
    by_cases hu : u < 10
    · rw [dec_small hu]; simp
    · rw [dec_big hu, List.length_append]
      have := ih (u / 10) (by rw [Nat.pow_succ] at h; omega)
      simp only [List.length_singleton]
      omega

theorem itoa_len {n : Int} (h : i64 n) : (itoa n).length ≤ 20 := by
  unfold i64 at h
  by_cases hn : n < 0
  · rw [itoa_neg' hn, List.length_cons]
    have := dec_length n.natAbs 18 (by omega)
    omega
  · rw [itoa_pos' hn]
    have := dec_length n.toNat 18 (by omega)
    omega
theorem itoa_ne_nil (n : Int) : itoa n ≠ [] := by
  by_cases hn : n < 0
  · rw [itoa_neg' hn]; simp
  · rw [itoa_pos' hn]; exact dec_ne_nil _

end Go.Proofs.YtecobgjkodmaiaaDoor
