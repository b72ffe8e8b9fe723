/-
  Decimals, as mathematics: what a ratio's text is, and which ratio a text is.
-/
import Derived.Lib.AtoiAll
import Derived.Lib.ItoaNum
import Derived.Lib.Bytealg
import Derived.Lib.IndexMore
import Derived.Lib.CutLaws
import Derived.Test.YtekhdcfnpgkodaaDoorMath
namespace Go.Proofs.YtekhdcfnpgkodaaDoor
open Go.Lib
-- the digits

theorem dec_small {u : Nat} (h : u < 10) : decDigits u = [UInt8.ofNat (48 + u)] := by rw [decDigits, dif_pos h]
theorem dec_big {u : Nat} (h : ¬ u < 10) : decDigits u = decDigits (u / 10) ++ [UInt8.ofNat (48 + u % 10)] := by rw [decDigits, dif_neg h]
theorem ofNat_digit {d : Nat} (h : d < 10) : (UInt8.ofNat (48 + d)).toNat = 48 + d := by
  rw [UInt8.toNat_ofNat']; omega

theorem dec_digits (u : Nat) : ∀ c ∈ decDigits u, 48 ≤ c.toNat ∧ c.toNat ≤ 57 := by
  induction u using Nat.strongRecOn with
  | ind u ih =>
    intro c hc
    by_cases h : u < 10
    · rw [dec_small h, List.mem_singleton] at hc
      subst hc
      rw [ofNat_digit h]; omega
    · rw [dec_big h, List.mem_append, List.mem_singleton] at hc
      rcases hc with hc | rfl
      · exact ih (u / 10) (by omega) c hc
      · rw [ofNat_digit (by omega)]; omega

theorem dec_ne_nil (u : Nat) : decDigits u ≠ [] := by
  by_cases h : u < 10
  · rw [dec_small h]; simp
  · rw [dec_big h]; simp

theorem parse_snoc (l : List UInt8) (c : UInt8) : ∀ acc v, parseUint10 acc l = .ok v → 48 ≤ c.toNat → c.toNat ≤ 57 → v * 10 + (c.toNat - 48) < 18446744073709551616 →
    parseUint10 acc (l ++ [c]) = .ok (v * 10 + (c.toNat - 48)) := by
  induction l with
  | nil =>
    intro acc v h h1 h2 h3
    simp only [parseUint10, NumEnd.ok.injEq] at h
    subst h
    simp only [List.nil_append, parseUint10]
    rw [if_pos ⟨h1, h2⟩, if_neg (by omega), if_neg (by omega)]
  | cons b l ih =>
    intro acc v h h1 h2 h3
    simp only [parseUint10] at h
    simp only [List.cons_append, parseUint10]
    split at h
    · rename_i hb
      rw [if_pos hb]
      split at h
      · cases h
      · rename_i h4
        rw [if_neg h4]
        split at h
        · cases h
        · rename_i h5
          rw [if_neg h5]
          exact ih _ _ h h1 h2 h3
    · cases h

theorem parse_dec (u : Nat) (hu : u < 18446744073709551616) : parseUint10 0 (decDigits u) = .ok u := by
  induction u using Nat.strongRecOn with
  | ind u ih =>
    by_cases h : u < 10
    · rw [dec_small h]
      have := parse_snoc [] (UInt8.ofNat (48 + u)) 0 0 rfl (by rw [ofNat_digit h]; omega) (by rw [ofNat_digit h]; omega) (by rw [ofNat_digit h]; omega)
      rw [ofNat_digit h] at this
      simpa using this
    · rw [dec_big h]
      have hd : u % 10 < 10 := by omega
      have := parse_snoc (decDigits (u / 10)) (UInt8.ofNat (48 + u % 10)) 0 (u / 10) (ih _ (by omega) (by omega)) (by rw [ofNat_digit hd]; omega) (by rw [ofNat_digit hd]; omega) (by rw [ofNat_digit hd]; omega)
      rw [ofNat_digit hd] at this
      rw [this]
      congr 1
      omega

theorem parseMag_dec (u : Nat) (hu : u < 18446744073709551616) : parseMag (decDigits u) = .ok u := by
  unfold parseMag
  rw [if_neg (dec_ne_nil u), parse_dec u hu]

theorem itoa_neg' {n : Int} (h : n < 0) : itoa n = 45 :: decDigits n.natAbs := by unfold itoa; rw [if_pos h]
theorem itoa_pos' {n : Int} (h : ¬ n < 0) : itoa n = decDigits n.toNat := by unfold itoa; rw [if_neg h]

theorem dec_head (u : Nat) : ∃ c r, decDigits u = c :: r ∧ 48 ≤ c.toNat ∧ c.toNat ≤ 57 := by
  cases h : decDigits u with
  | nil => exact absurd h (dec_ne_nil u)
  | cons c r =>
    have := dec_digits u c (by rw [h]; exact List.mem_cons_self)
    exact ⟨c, r, rfl, this⟩

theorem atoi_itoa (n : Int) (h : i64 n) : atoiAll (itoa n) = .ok n := by
  unfold i64 at h
  by_cases hn : n < 0
  · rw [itoa_neg' hn]
    unfold atoiAll
    simp only
    rw [if_pos (by decide), parseMag_dec _ (by omega)]
    simp only
    rw [if_neg (by simp), if_neg (by simp; omega), if_pos (by decide)]
    congr 1
    omega
  · rw [itoa_pos' hn]
    obtain ⟨c, r, hc, h1, h2⟩ := dec_head n.toNat
    have hp := parseMag_dec n.toNat (by omega)
    unfold atoiAll
    rw [hc]
    simp only
    rw [if_neg (by omega), ← hc, hp]
    simp only
    rw [if_neg (by omega), if_neg (by omega), if_neg (by omega)]
    congr 1
    omega

theorem atoi_range' {f : List UInt8} {n : Int} (h : atoiAll f = .ok n) : i64 n := by
  unfold i64
  unfold atoiAll at h
  cases f with
  | nil => cases h
  | cons c r =>
    simp only at h
    split at h
    · cases h
    · cases h
    · split at h
      · cases h
      · split at h
        · cases h
        · rename_i h1 h2
          injection h with h
          split at h <;> omega

theorem itoa_no {n : Int} {c : UInt8} (hc : 58 ≤ c.toNat) : c ∉ itoa n := by
  intro h
  by_cases hn : n < 0
  · rw [itoa_neg' hn, List.mem_cons] at h
    rcases h with rfl | h
    · exact absurd hc (by decide)
    · have := dec_digits _ c h; omega
  · rw [itoa_pos' hn] at h
    have := dec_digits _ c h; omega

theorem dec_length (u : Nat) (k : Nat) (h : u < 10 ^ (k + 1)) : (decDigits u).length ≤ k + 1 := by
  induction k generalizing u with
  | zero => rw [dec_small (by simpa using h)]; simp
  | succ k ih =>
    by_cases hu : u < 10
    · rw [dec_small hu]; simp
    · rw [dec_big hu, List.length_append]
      have := ih (u / 10) (by rw [Nat.pow_succ] at h; omega)
      simp only [List.length_singleton]
      omega

theorem itoa_len {n : Int} (h : i64 n) : (itoa n).length ≤ 20 := by
  unfold i64 at h
  by_cases hn : n < 0
  · rw [itoa_neg' hn, List.length_cons]
    have := dec_length n.natAbs 18 (by omega)
    omega
  · rw [itoa_pos' hn]
    have := dec_length n.toNat 18 (by omega)
    omega
theorem itoa_ne_nil (n : Int) : itoa n ≠ [] := by
  by_cases hn : n < 0
  · rw [itoa_neg' hn]; simp
  · rw [itoa_pos' hn]; exact dec_ne_nil _

-- cutting at a byte
/-- the text of a right ratio -/
def textL (n d : Int) : List UInt8 := if d = 1 then itoa n else itoa n ++ 47 :: itoa d
def textV (n d : Int) : List UInt8 := if rightB n d then textL n d else []
theorem itoa_slash (n : Int) : (47 : UInt8) ∉ itoa n := by
  intro h
  by_cases hn : n < 0
  · rw [itoa_neg' hn, List.mem_cons] at h
    rcases h with h | h
    · exact absurd h (by decide)
    · have := dec_digits _ _ h; exact absurd this.1 (by decide)
  · rw [itoa_pos' hn] at h
    have := dec_digits _ _ h; exact absurd this.1 (by decide)
theorem right_i64 {n d : Int} (h : rightB n d = true) : i64 n ∧ i64 d := by
  obtain ⟨a, b, c, e, _⟩ := (right_iff n d).1 h
  exact ⟨⟨by omega, by omega⟩, by omega, by omega⟩
theorem textL_ne (n d : Int) : textL n d ≠ [] := by
  unfold textL
  split
  · exact itoa_ne_nil _
  · simp
theorem index_no {l : List UInt8} (h : (47 : UInt8) ∉ l) : index l [47] = -1 := by
  induction l with
  | nil => rfl
  | cons b l ih =>
    rw [List.mem_cons, not_or] at h
    unfold index
    rw [ih h.2]
    have : ([47] : List UInt8).isPrefixOf (b :: l) = false := by simp [List.isPrefixOf, h.1]
    simp [this]
theorem index_slash {f t : List UInt8} (h : (47 : UInt8) ∉ f) : index (f ++ 47 :: t) [47] = f.length := by
  induction f with
  | nil => simp [index, List.isPrefixOf]
  | cons b l ih =>
    rw [List.mem_cons, not_or] at h
    show index (b :: (l ++ 47 :: t)) [47] = _
    unfold index
    rw [ih h.2]
    have : ([47] : List UInt8).isPrefixOf (b :: (l ++ 47 :: t)) = false := by simp [List.isPrefixOf, h.1]
    have h2 : ((l.length : Int) == -1) = false := by simp; try omega
    simp [this, h2]
theorem cut_no {l : List UInt8} (h : (47 : UInt8) ∉ l) : cut l [47] = (l, [], false) := by
  unfold cut
  rw [index_no h, if_neg (by decide)]
theorem cut_slash {f t : List UInt8} (h : (47 : UInt8) ∉ f) : cut (f ++ 47 :: t) [47] = (f, t, true) := by
  unfold cut
  rw [index_slash h, if_pos (by omega)]
  have e : (f.length : Int).toNat = f.length := by simp
  rw [e]
  simp
/-- the number that a text of digits is, if it is one -/
def numO (l : List UInt8) : Option Int := match atoiAll l with
  | .ok n => some n
  | _ => none
theorem numO_itoa {n : Int} (h : i64 n) : numO (itoa n) = some n := by unfold numO; rw [atoi_itoa n h]
theorem numO_ok {l : List UInt8} {n : Int} (h : numO l = some n) : atoiAll l = .ok n := by
  unfold numO at h
  split at h
  · rename_i v hv; rw [hv]; cases h; rfl
  · cases h
theorem numO_i64 {l : List UInt8} {n : Int} (h : numO l = some n) : i64 n := atoi_range' (numO_ok h)
/-- the denominator's text -/
def botL (s : List UInt8) : List UInt8 := if (cut s [47]).2.2 then (cut s [47]).2.1 else [49]
/-- the ratio whose text is s, if there is one -/
def parO (s : List UInt8) : Option (Int × Int) := match numO (cut s [47]).1 with
  | none => none
  | some n => match numO (botL s) with
    | none => none
    | some d => if rightB n d = true ∧ textL n d = s then some (n, d) else none
def parN (s : List UInt8) : Int := ((parO s).getD (0, 0)).1
def parD (s : List UInt8) : Int := ((parO s).getD (0, 0)).2
def parB (s : List UInt8) : Bool := (parO s).isSome
theorem par_text {n d : Int} (h : rightB n d = true) : parO (textL n d) = some (n, d) := by
  obtain ⟨h1, h2⟩ := right_i64 h
  have hcut : cut (textL n d) [47] = (itoa n, if d = 1 then [] else itoa d, decide (d ≠ 1)) := by
    unfold textL
    by_cases hd : d = 1
    · rw [if_pos hd, if_pos hd, cut_no (itoa_slash n)]; simp [hd]
    · rw [if_neg hd, if_neg hd, cut_slash (itoa_slash n)]; simp [hd]
  have hbot : numO (botL (textL n d)) = some d := by
    unfold botL
    rw [hcut]
    by_cases hd : d = 1
    · subst hd; rfl
    · simp only [hd, ne_eq, not_false_eq_true, decide_true, if_true, if_false]
      exact numO_itoa h2
  unfold parO
  rw [hbot, hcut]
  simp only
  rw [numO_itoa h1]
  simp [h]
theorem par_some {s : List UInt8} {n d : Int} (h : parO s = some (n, d)) : rightB n d = true ∧ textL n d = s := by
  unfold parO at h
  split at h
  · cases h
  · split at h
    · cases h
    · split at h
      · rename_i h'; cases h; exact h'
      · cases h
theorem par_none {s : List UInt8} (h : parO s = none) (n d : Int) (hr : rightB n d = true) : textL n d ≠ s := by
  rintro rfl
  rw [par_text hr] at h
  cases h
end Go.Proofs.YtekhdcfnpgkodaaDoor
