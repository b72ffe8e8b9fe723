/-
  Parse of the reference, by its contract.
-/
import Derived.Test.YtekhdcfnpgkodaaDoorTextR
import Derived.Test.YtekhdcfnpgkodaaDoorParse
namespace Go.Proofs.YtekhdcfnpgkodaaDoor
open Go.RowKit
attribute [local go_sem] get_mk extract_mk
/-- where the last slash of the first k bytes is; the length, if there is none -/
def lastAt (l : List UInt8) : Nat → Nat
  | 0 => l.length
  | k + 1 => if l[k]? = some 47 then k else lastAt l k
theorem lastAt_le (l : List UInt8) (k : Nat) (h : k ≤ l.length) : lastAt l k ≤ l.length := by
  induction k with
  | zero => exact Nat.le_refl _
  | succ k ih =>
    unfold lastAt
    split
    · omega
    · exact ih (by omega)
theorem lastAt_no (l : List UInt8) (k : Nat) (h : ∀ j, j < k → l[j]? ≠ some 47) : lastAt l k = l.length := by
  induction k with
  | zero => rfl
  | succ k ih =>
    unfold lastAt
    rw [if_neg (h k (by omega))]
    exact ih (fun j hj => h j (by omega))
theorem lastAt_at (l : List UInt8) (a : Nat) (ha : l[a]? = some 47) (k : Nat) (hk : a < k) (h : ∀ j, a < j → j < k → l[j]? ≠ some 47) : lastAt l k = a := by
  induction k with
  | zero => omega
  | succ k ih =>
    unfold lastAt
    by_cases e : k = a
    · subst e; rw [if_pos ha]
    · rw [if_neg (h k (by omega) (by omega))]
      exact ih (by omega) (fun j h1 h2 => h j h1 (by omega))
theorem not_slash {l : List UInt8} (h : (47 : UInt8) ∉ l) (j : Nat) : l[j]? ≠ some 47 := fun e => h (List.mem_of_getElem? e)
/-- the two numbers that the reference reads -/
def topV (s : List UInt8) : Int := numV (s.take (min (lastAt s s.length) 11))
def botV (s : List UInt8) : Int := if lastAt s s.length < s.length then numV ((s.take (min s.length (lastAt s s.length + 12))).drop (lastAt s s.length + 1)) else 1
theorem itoa_short {n : Int} (h1 : -1073741824 ≤ n) (h2 : n ≤ 1073741824) : (Lib.itoa n).length ≤ 11 := by
  rcases Int.lt_or_le n 0 with h | h
  · rw [itoa_neg' h, List.length_cons]
    have := dec_length n.natAbs 9 (by have : (10 : Nat) ^ 10 = 10000000000 := by decide
                                      omega)
    omega
  · rw [itoa_pos' (by omega)]
    have := dec_length n.toNat 9 (by have : (10 : Nat) ^ 10 = 10000000000 := by decide
                                     omega)
    omega
theorem read_text {n d : Int} (h : rightB n d = true) : topV (textL n d) = n ∧ botV (textL n d) = d := by
  obtain ⟨r1, r2, r3, r4, _⟩ := (right_iff n d).1 h
  have hn := itoa_short r3 r4
  have hd := itoa_short (n := d) (by omega) r2
  unfold textL
  by_cases h1 : d = 1
  · rw [if_pos h1]
    have e : lastAt (Lib.itoa n) (Lib.itoa n).length = (Lib.itoa n).length := lastAt_no _ _ (fun j _ => not_slash (itoa_slash n) j)
    unfold topV botV
    rw [e, if_neg (by omega), List.take_of_length_le (by omega), numV_itoa]
    exact ⟨rfl, h1.symm⟩
  · rw [if_neg h1]
    have e : lastAt (Lib.itoa n ++ 47 :: Lib.itoa d) (Lib.itoa n ++ 47 :: Lib.itoa d).length = (Lib.itoa n).length := by
      apply lastAt_at
      · simp
      · simp
      · intro j h1 h2
        obtain ⟨i, rfl⟩ : ∃ i, j = (Lib.itoa n).length + 1 + i := ⟨j - (Lib.itoa n).length - 1, by omega⟩
        rw [List.getElem?_append_right (by omega), show (Lib.itoa n).length + 1 + i - (Lib.itoa n).length = i + 1 by omega, List.getElem?_cons_succ]
        exact not_slash (itoa_slash d) i
    unfold topV botV
    rw [e, if_pos (by simp)]
    constructor
    · rw [show min (Lib.itoa n).length 11 = (Lib.itoa n).length by omega, List.take_left, numV_itoa]
    · have h3 : (Lib.itoa n ++ 47 :: Lib.itoa d).length = (Lib.itoa n).length + 1 + (Lib.itoa d).length := by simp; omega
      rw [List.take_of_length_le (by rw [h3]; omega)]
      have : (Lib.itoa n ++ 47 :: Lib.itoa d).drop ((Lib.itoa n).length + 1) = Lib.itoa d := by
        rw [← List.drop_drop, List.drop_left]; rfl
      rw [this, numV_itoa]
/-- the reference's Parse, as mathematics -/
theorem par_ref (s : List UInt8) : (textV (topV s) (botV s) ≠ [] ∧ textV (topV s) (botV s) = s ∧ parO s = some (topV s, botV s)) ∨ ((textV (topV s) (botV s) = [] ∨ textV (topV s) (botV s) ≠ s) ∧ parO s = none) := by
  cases hp : parO s with
  | some x =>
    obtain ⟨n, d⟩ := x
    obtain ⟨h1, h2⟩ := par_some hp
    obtain ⟨e1, e2⟩ := read_text h1
    rw [h2] at e1 e2
    left
    rw [e1, e2, textV_right h1]
    exact ⟨textL_ne _ _, h2, rfl⟩
  | none =>
    right
    refine ⟨?_, rfl⟩
    by_cases h : textV (topV s) (botV s) = []
    · exact .inl h
    · right
      intro h2
      obtain ⟨h3, h4⟩ := textV_ne h2 (h2 ▸ h)
      exact par_none hp _ _ h3 h4
end Go.Proofs.YtekhdcfnpgkodaaDoor
