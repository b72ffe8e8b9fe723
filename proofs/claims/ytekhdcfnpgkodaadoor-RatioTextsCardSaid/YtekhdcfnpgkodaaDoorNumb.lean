/-
  The reference's number, by its contract.
-/
import Derived.Test.YtekhdcfnpgkodaaDoorDecim
namespace Go.Proofs.YtekhdcfnpgkodaaDoor
open Go.RowKit
attribute [local go_sem] get_mk extract_mk
/-- one byte more -/
def numStep (p : Int × Int) (c : UInt8) : Int × Int := if (c.toNat : Int) = 45 then (p.1, -1) else (10 * p.1 + (c.toNat : Int) - 48, p.2)
def numF (l : List UInt8) (p : Int × Int) : Int × Int := l.foldl numStep p
def numV (l : List UInt8) : Int := (numF l (0, 1)).2 * (numF l (0, 1)).1
theorem numF_digits (u : Nat) (s : Int) : numF (Lib.decDigits u) (0, s) = ((u : Int), s) := by
  induction u using Nat.strongRecOn with
  | ind u ih =>
    by_cases h : u < 10
    · rw [dec_small h]
      have e := ofNat_digit h
      simp only [numF, List.foldl_cons, List.foldl_nil, numStep, e]
      rw [if_neg (by omega)]
      congr 1
      omega
    · rw [dec_big h]
      have e := ofNat_digit (d := u % 10) (by omega)
      have := ih (u / 10) (by omega)
      unfold numF at this ⊢
      rw [List.foldl_append, this]
      simp only [List.foldl_cons, List.foldl_nil, numStep, e]
      rw [if_neg (by omega)]
      congr 1
      omega
theorem numV_itoa (n : Int) : numV (Lib.itoa n) = n := by
  rcases Int.lt_or_le n 0 with h | h
  · rw [itoa_neg' h]
    have e : numF (45 :: Lib.decDigits n.natAbs) (0, 1) = (((n.natAbs : Nat) : Int), -1) := by
      have := numF_digits n.natAbs (-1)
      unfold numF at this ⊢
      rw [List.foldl_cons]
      have e2 : numStep (0, 1) 45 = (0, -1) := by decide
      rw [e2]; exact this
    unfold numV
    rw [e]
    simp only
    omega
  · rw [itoa_pos' (by omega)]
    unfold numV
    rw [numF_digits]
    simp only
    omega
theorem numF_from : ∀ (l : List UInt8) (p : Int × Int) (j : Nat), p.1.natAbs + 23 ≤ 23 * 10 ^ j → (p.2 = 1 ∨ p.2 = -1) → ((numF l p).1.natAbs + 23 ≤ 23 * 10 ^ (j + l.length)) ∧ ((numF l p).2 = 1 ∨ (numF l p).2 = -1)
  | [], p, j, h1, h2 => ⟨h1, h2⟩
  | c :: l, p, j, h1, h2 => by
    have hc : c.toNat ≤ 255 := by have := c.toNat_lt; omega
    have h3 : (numStep p c).1.natAbs + 23 ≤ 23 * 10 ^ (j + 1) ∧ ((numStep p c).2 = 1 ∨ (numStep p c).2 = -1) := by
      rw [Nat.pow_succ]
      generalize 10 ^ j = k at *
      unfold numStep
      split
      · exact ⟨by simp only; omega, .inr rfl⟩
      · exact ⟨by simp only; omega, h2⟩
    have := numF_from l (numStep p c) (j + 1) h3.1 h3.2
    rw [List.length_cons, show j + (l.length + 1) = j + 1 + l.length by omega]
    exact this
theorem numF_bound (l : List UInt8) : ((numF l (0, 1)).1.natAbs + 23 ≤ 23 * 10 ^ l.length) ∧ ((numF l (0, 1)).2 = 1 ∨ (numF l (0, 1)).2 = -1) := by
  have := numF_from l (0, 1) 0 (by decide) (.inl rfl)
  rwa [Nat.zero_add] at this
theorem num_next (l : List UInt8) (k : Nat) (h : k < l.length) : numF (l.take (k + 1)) (0, 1) = numStep (numF (l.take k) (0, 1)) l[k] := by
  rw [List.take_succ_eq_append_getElem h]; unfold numF; rw [List.foldl_append]; rfl
theorem pow_le (k : Nat) (h : k ≤ 11) : 23 * 10 ^ k ≤ 2300000000000 := by
  have : 10 ^ k ≤ 10 ^ 11 := Nat.pow_le_pow_right (by decide) h
  omega
theorem numV_in (l : List UInt8) (h : l.length ≤ 11) : -4611686018427387904 ≤ numV l ∧ numV l ≤ 4611686018427387904 := by
  obtain ⟨h1, h2⟩ := numF_bound l
  have := pow_le _ h
  unfold numV
  rcases h2 with h2 | h2 <;> rw [h2] <;> omega
set_option maxRecDepth 100000 in
set_option maxHeartbeats 1000000 in
theorem number_k (l : List UInt8) (hl : l.length ≤ 11) (w : World) :
    Calls Tryd.prog 44 #[.string ⟨l.toArray⟩] w fun e w' => e = .returned (.int .i64 (numV l)) ∧ w = w' := by
  go_enter Tryd.func44, Tryd.ntmps44
  go_wp2_with fail
  go_loop [3, 4, 5] (fun n s i => ∃ k : Nat, k ≤ l.length ∧ i = .int .i64 k ∧ n = .int .i64 (numF (l.take k) (0, 1)).1 ∧ s = .int .i64 (numF (l.take k) (0, 1)).2) (fun _ _ i => l.length - (intOf i).toNat)
  case atStart => exact ⟨0, Nat.zero_le _, rfl, rfl, rfl⟩
  case round =>
    obtain ⟨k, hk, rfl, rfl, rfl⟩ := hrel
    obtain ⟨b1, b2⟩ := numF_bound (l.take k)
    have b3 := pow_le (l.take k).length (by rw [List.length_take]; omega)
    by_cases hlt : k < l.length
    · have HN := Lib.hid (num_next l k hlt)
      have hc : l[k].toNat ≤ 255 := by have := l[k].toNat_lt; omega
      generalize numF (l.take k) (0, 1) = p at *
      obtain ⟨pn, ps⟩ := p
      simp only at b1 b2
      have b4 : -2300000000000 ≤ pn := by omega
      have b5 : pn ≤ 2300000000000 := by omega
      clear b1 b2 b3
      by_cases h45 : (l[k].toNat : Int) = 45
      · have H : Hid (numF (l.take (k + 1)) (0, 1) = (pn, -1)) := Lib.hid (by rw [HN.out]; unfold numStep; rw [if_pos h45])
        have h46 : ((l[k].toNat : Int) == 45) = true := by simpa using h45
        have H45 := Lib.hid h45
        clear h45
        go_wp2_with fail
        go_round
        case rel => exact ⟨k + 1, by omega, by go_num, by rw [H.out], by rw [H.out]⟩
        case measure => simp [intOf]; omega
      · have H : Hid (numF (l.take (k + 1)) (0, 1) = (10 * pn + (l[k].toNat : Int) - 48, ps)) := Lib.hid (by rw [HN.out]; unfold numStep; rw [if_neg h45])
        have h46 : ((l[k].toNat : Int) == 45) = false := by simpa using h45
        go_wp2_with fail
        go_round
        case rel => exact ⟨k + 1, by omega, by go_num, by rw [H.out], by rw [H.out]⟩
        case measure => simp [intOf]; omega
    · obtain rfl : k = l.length := by omega
      have HV : Hid (numV l = (numF l (0, 1)).2 * (numF l (0, 1)).1) := Lib.hid rfl
      rw [List.take_of_length_le (Nat.le_refl _)] at b1 b2 b3 ⊢
      obtain ⟨v1, v2⟩ := numV_in l hl
      rw [HV.out] at v1 v2
      generalize numF l (0, 1) = p at *
      clear b1 b2 b3
      go_wp2_with fail
      go_ret
      exact ⟨ret_int HV.out.symm, rfl⟩
end Go.Proofs.YtekhdcfnpgkodaaDoor
