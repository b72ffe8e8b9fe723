/-
  The reference's decimals; what is marked, of both; Sign and Valid of both.
-/
import Derived.Test.YtecobgjkodmaiaaDoorIdx
import Derived.Test.YtecobgjkodmaiaaDoorChk
namespace Go.Proofs.YtecobgjkodmaiaaDoor
open Go.RowKit
attribute [local go_sem] get_mk extract_mk
theorem itoa_nat (u : Nat) : Lib.itoa (u : Int) = Lib.decDigits u := by
  rw [itoa_pos' (by omega)]; simp
set_option maxRecDepth 100000 in
theorem decimal_digit (u : Nat) (h9 : u < 10) (w : World) :
    Calls Tryd.prog 47 #[.int .i64 (u : Int)] w fun e w' => e = .returned (.string ⟨(Lib.itoa u).toArray⟩) ∧ w.grownBy w' none := by
  have hu : (UInt8.ofNat (48 + u)).toNat = 48 + u := by rw [UInt8.toNat_ofNat']; omega
  have hk := run_convert_bytes_back (P := Tryd.prog) (w.alloc (.cells #[.int .u8 (48 + (u : Int))] 5)) 84 9 5 ⟨w.heap.size, 0, none⟩ 1 [UInt8.ofNat (48 + u)] Tryd.underlying84 Tryd.underlying5 Tryd.underlying9 (by
    intro j hj
    obtain rfl : j = 0 := by simpa using hj
    refine (cell_at (i := 0) rfl).trans ?_
    show some (Value.int .u8 (48 + (u : Int))) = some (.int .u8 (((UInt8.ofNat (48 + u)).toNat : Nat) : Int))
    rw [hu]; simp)
  have HE : Hid (Lib.itoa (u : Int) = [UInt8.ofNat (48 + u)]) := Lib.hid (by rw [itoa_nat, dec_small h9])
  simp only [List.length_singleton] at hk
  clear hu
  have h3 : 0 ≤ (u : Int) := by omega
  have h4 : (u : Int) < 10 := by omega
  go_enter Tryd.func47, Tryd.ntmps47
  go_wp2_with fail
  go_ret
  exact ⟨ret_str (by rw [HE.out]; first | rfl | (rw [UInt8.ofNat_add]; rfl)), grown_al (grown_refl _)⟩
set_option maxRecDepth 100000 in
theorem decimal_nat (u : Nat) (hb : u ≤ 9223372036854775807) : ∀ (w : World),
    Calls Tryd.prog 47 #[.int .i64 (u : Int)] w fun e w' => e = .returned (.string ⟨(Lib.itoa u).toArray⟩) ∧ w.grownBy w' none := by
  induction u using Nat.strongRecOn with
  | ind u ih =>
    intro w
    by_cases hu9 : u < 10
    · exact decimal_digit u hu9 w
    · have HE : Hid (Lib.itoa (u : Int) = Lib.itoa ((u / 10 : Nat) : Int) ++ Lib.itoa ((u % 10 : Nat) : Int)) := Lib.hid (by
        rw [itoa_nat, itoa_nat, itoa_nat, dec_big hu9, dec_small (u := u % 10) (by omega)])
      have K1 := Lib.hid (ih (u / 10) (by omega) (by omega))
      have K2 := Lib.hid (ih (u % 10) (by omega) (by omega))
      have hl1 : (Lib.itoa ((u / 10 : Nat) : Int)).length ≤ 20 := itoa_len ⟨by omega, by omega⟩
      have hl2 : (Lib.itoa ((u % 10 : Nat) : Int)).length ≤ 20 := itoa_len ⟨by omega, by omega⟩
      have h1 : (u : Int) / 10 = ((u / 10 : Nat) : Int) := rfl
      have h2 : (u : Int) % 10 = ((u % 10 : Nat) : Int) := rfl
      have h4 : decide ((u : Int) < 10) = false := by simp; omega
      have h8 : ((((u / 10 : Nat) : Int)) == 0) = false := by simp; omega
      have h9 : decide ((u : Int) < 0) = false := by simp
      have h5 : 0 ≤ (u : Int) := by omega
      have h6 : u / 10 ≤ 9223372036854775807 := by omega
      have h7 : u % 10 ≤ 9223372036854775807 := by omega
      generalize u / 10 = a at *
      generalize u % 10 = b at *
      have hl3 : ¬ 9223372036854775807 < (Lib.itoa (a : Int)).length + (Lib.itoa (b : Int)).length := by omega
      clear ih hb hu9
      go_enter Tryd.func47, Tryd.ntmps47
      go_wp2_with fail
      refine (K1.out _).mono ?_
      rintro e w1 ⟨rfl, g1⟩
      go_wp2_with fail
      refine (K2.out _).mono ?_
      rintro e w2 ⟨rfl, g2⟩
      go_wp2_with fail
      go_ret
      exact ⟨ret_str (by rw [HE.out, str_app]), g1.trans g2⟩
theorem itoa_neg (u : Nat) (h : 0 < u) : Lib.itoa (-(u : Int)) = 45 :: Lib.decDigits u := by
  rw [itoa_neg' (by omega)]
  congr 2
  omega
theorem tdiv_neg (u : Nat) : (-(u : Int)).tdiv 10 = -((u / 10 : Nat) : Int) := by rw [Int.neg_tdiv, Int.tdiv_eq_ediv_of_nonneg (by omega)]; omega
theorem tmod_neg (u : Nat) : (-(u : Int)).tmod 10 = -((u % 10 : Nat) : Int) := by rw [Int.neg_tmod, Int.tmod_eq_emod_of_nonneg (by omega)]; omega
set_option maxRecDepth 100000 in
theorem decimal_neg (u : Nat) (h0 : 0 < u) (hb : u ≤ 9223372036854775808) : ∀ (w : World),
    Calls Tryd.prog 47 #[.int .i64 (-(u : Int))] w fun e w' => e = .returned (.string ⟨(Lib.itoa (-(u : Int))).toArray⟩) ∧ w.grownBy w' none := by
  induction u using Nat.strongRecOn with
  | ind u ih =>
    intro w
    have m1 := tdiv_neg u
    have m2 := tmod_neg u
    have hw : IntKind.i64.wrap (((u % 10 : Nat) : Int)) = ((u % 10 : Nat) : Int) := by rw [IntKind.wrap_i64]; omega
    have hw2 : IntKind.i64.wrap (-(((u / 10 : Nat) : Int))) = -((u / 10 : Nat) : Int) := by rw [IntKind.wrap_i64]; omega
    have hw3 : IntKind.i64.wrap (-(-(((u % 10 : Nat) : Int)))) = ((u % 10 : Nat) : Int) := by rw [IntKind.wrap_i64]; omega
    have K2 := Lib.hid (decimal_nat (u % 10) (by omega))
    have c1 : decide (0 ≤ -(u : Int)) = false := by simp; omega
    have c2 : decide (-(u : Int) < 0) = true := by simp; omega
    have c3 : decide (-(u : Int) ≥ 0) = false := by simp; omega
    have hl2 : (Lib.itoa ((u % 10 : Nat) : Int)).length ≤ 20 := itoa_len ⟨by omega, by omega⟩
    by_cases hu9 : u < 10
    · have HE : Hid (Lib.itoa (-(u : Int)) = 45 :: Lib.itoa ((u % 10 : Nat) : Int)) := Lib.hid (by rw [itoa_neg u h0, itoa_nat, Nat.mod_eq_of_lt hu9])
      have m3 : (-(u : Int)).tdiv 10 = 0 := by rw [m1]; omega
      have hl3 : ¬ 9223372036854775807 < 1 + (Lib.itoa ((u % 10 : Nat) : Int)).length := by omega
      have h7 : u % 10 < 10 := by omega
      clear ih hb hu9 m1 hw2
      generalize u % 10 = b at *
      go_enter Tryd.func47, Tryd.ntmps47
      go_wp2_with fail
      refine (K2.out _).mono ?_
      rintro e w2 ⟨rfl, g2⟩
      go_wp2_with fail
      go_ret
      exact ⟨ret_str (by rw [HE.out, str_app [45]]; rfl), g2⟩
    · have HE : Hid (Lib.itoa (-(u : Int)) = Lib.itoa (-((u / 10 : Nat) : Int)) ++ Lib.itoa ((u % 10 : Nat) : Int)) := Lib.hid (by
        rw [itoa_neg u h0, itoa_neg (u / 10) (by omega), itoa_nat, dec_big hu9, dec_small (u := u % 10) (by omega)]
        rfl)
      have K1 := Lib.hid (ih (u / 10) (by omega) (by omega) (by omega))
      have c4 : ((-((u / 10 : Nat) : Int)) == 0) = false := by simp; omega
      have hl1 : (Lib.itoa (-((u / 10 : Nat) : Int))).length ≤ 20 := itoa_len ⟨by omega, by omega⟩
      have hl3 : ¬ 9223372036854775807 < (Lib.itoa (-((u / 10 : Nat) : Int))).length + (Lib.itoa ((u % 10 : Nat) : Int)).length := by omega
      have h7 : u % 10 < 10 := by omega
      have h8 : u / 10 ≤ 922337203685477580 := by omega
      clear ih hb hu9
      generalize u % 10 = b at *
      generalize u / 10 = a at *
      go_enter Tryd.func47, Tryd.ntmps47
      go_wp2_with fail
      refine (K1.out _).mono ?_
      rintro e w1 ⟨rfl, g1⟩
      go_wp2_with fail
      refine (K2.out _).mono ?_
      rintro e w2 ⟨rfl, g2⟩
      go_wp2_with fail
      go_ret
      exact ⟨ret_str (by rw [HE.out, str_app]), g1.trans g2⟩
theorem decimal_r (n : Int) (h : i64 n) (w : World) : Calls Tryd.prog 47 #[.int .i64 n] w fun e w' => e = .returned (.string ⟨(Lib.itoa n).toArray⟩) ∧ w.grownBy w' none := by
  obtain ⟨h1, h2⟩ := h
  rcases Int.lt_or_le n 0 with hn | hn
  · have := decimal_neg n.natAbs (by omega) (by omega) w
    rwa [show -((n.natAbs : Nat) : Int) = n by omega] at this
  · obtain ⟨u, rfl⟩ := Int.eq_ofNat_of_zero_le hn
    exact decimal_nat u (by omega) w
end Go.Proofs.YtecobgjkodmaiaaDoor
