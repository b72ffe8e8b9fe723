/-
  The reference's decimals, by their contracts.
-/
import Derived.Test.YtekhdcfnpgkodaaDoorText
namespace Go.Proofs.YtekhdcfnpgkodaaDoor
open Go.RowKit
attribute [local go_sem] get_mk extract_mk
theorem itoa_nat (u : Nat) : Lib.itoa (u : Int) = Lib.decDigits u := by
  rw [itoa_pos' (by omega)]; simp
set_option maxRecDepth 100000 in
theorem decimal_digit (u : Nat) (h9 : u < 10) (w : World) :
    Calls Tryd.prog 43 #[.int .i64 (u : Int)] w fun e w' => e = .returned (.string ⟨(Lib.itoa u).toArray⟩) ∧ w.grownBy w' none := by
  have hu : (UInt8.ofNat (48 + u)).toNat = 48 + u := by rw [UInt8.toNat_ofNat']; omega
  have hk := run_convert_bytes_back (P := Tryd.prog) (w.alloc (.cells #[.int .u8 (48 + (u : Int))] 5)) 80 9 5 ⟨w.heap.size, 0, none⟩ 1 [UInt8.ofNat (48 + u)] Tryd.underlying80 Tryd.underlying5 Tryd.underlying9 (by
    intro j hj
    obtain rfl : j = 0 := by simpa using hj
    refine (cell_at (i := 0) rfl).trans ?_
    show some (Value.int .u8 (48 + (u : Int))) = some (.int .u8 (((UInt8.ofNat (48 + u)).toNat : Nat) : Int))
    rw [hu]; simp)
  have HE : Hid (Lib.itoa (u : Int) = [UInt8.ofNat (48 + u)]) := Lib.hid (by rw [itoa_nat, dec_small h9])
  simp only [List.length_singleton] at hk
  clear hu
  have h3 : ¬ (u : Int) < 0 := by omega
  have h4 : (u : Int) < 10 := by omega
  go_enter Tryd.func43, Tryd.ntmps43
  go_wp2_with fail
  go_ret
  exact ⟨ret_str (by rw [HE.out]; first | rfl | (rw [UInt8.ofNat_add]; rfl)), grown_al (grown_refl _)⟩
set_option maxRecDepth 100000 in
theorem decimal_nat (u : Nat) (hb : u ≤ 9223372036854775807) : ∀ (w : World),
    Calls Tryd.prog 43 #[.int .i64 (u : Int)] w fun e w' => e = .returned (.string ⟨(Lib.itoa u).toArray⟩) ∧ w.grownBy w' none := by
  induction u using Nat.strongRecOn with
  | ind u ih =>
    intro w
    by_cases h9 : u < 10
    · exact decimal_digit u h9 w
    · have HE : Hid (Lib.itoa (u : Int) = Lib.itoa ((u / 10 : Nat) : Int) ++ Lib.itoa ((u % 10 : Nat) : Int)) := Lib.hid (by
        rw [itoa_nat, itoa_nat, itoa_nat, dec_big h9, dec_small (u := u % 10) (by omega)])
      have K1 := Lib.hid (ih (u / 10) (by omega) (by omega))
      have K2 := Lib.hid (ih (u % 10) (by omega) (by omega))
      have hl1 : (Lib.itoa ((u / 10 : Nat) : Int)).length ≤ 20 := itoa_len ⟨by omega, by omega⟩
      have hl2 : (Lib.itoa ((u % 10 : Nat) : Int)).length ≤ 20 := itoa_len ⟨by omega, by omega⟩
      have h1 : (u : Int) / 10 = ((u / 10 : Nat) : Int) := rfl
      have h2 : (u : Int) % 10 = ((u % 10 : Nat) : Int) := rfl
      have h3 : ¬ (u : Int) < 0 := by omega
      have h4 : ¬ (u : Int) < 10 := by omega
      have h5 : 0 ≤ (u : Int) := by omega
      have h6 : u / 10 ≤ 9223372036854775807 := by omega
      have h7 : u % 10 ≤ 9223372036854775807 := by omega
      generalize u / 10 = a at *
      generalize u % 10 = b at *
      have hl3 : ¬ 9223372036854775807 < (Lib.itoa (a : Int)).length + (Lib.itoa (b : Int)).length := by omega
      clear ih hb h9
      go_enter Tryd.func43, Tryd.ntmps43
      go_wp2_with fail
      refine (K1.out _).mono ?_
      rintro e w1 ⟨rfl, g1⟩
      go_wp2_with fail
      refine (K2.out _).mono ?_
      rintro e w2 ⟨rfl, g2⟩
      go_wp2_with fail
      go_ret
      exact ⟨ret_str (by rw [HE.out, str_app]), g1.trans g2⟩
set_option maxRecDepth 100000 in
theorem decimal_k (n : Int) (h1 : -9223372036854775807 ≤ n) (h2 : n ≤ 9223372036854775807) (w : World) :
    Calls Tryd.prog 43 #[.int .i64 n] w fun e w' => e = .returned (.string ⟨(Lib.itoa n).toArray⟩) ∧ w.grownBy w' none := by
  rcases Int.lt_or_le n 0 with hn | hn
  · have K := decimal_nat n.natAbs (by omega)
    rw [show ((n.natAbs : Nat) : Int) = -n by omega] at K
    have HK := Lib.hid K
    have hl : (Lib.itoa (-n)).length ≤ 20 := itoa_len ⟨by omega, by omega⟩
    have HE : Hid (Lib.itoa n = 45 :: Lib.itoa (-n)) := Lib.hid (by rw [itoa_neg' hn, itoa_pos' (show ¬ -n < 0 by omega)]; congr 2; omega)
    have hl3 : ¬ 9223372036854775807 < 1 + (Lib.itoa (-n)).length := by omega
    clear K
    go_enter Tryd.func43, Tryd.ntmps43
    go_wp2_with fail
    refine (HK.out _).mono ?_
    rintro e w1 ⟨rfl, g1⟩
    go_wp2_with fail
    go_ret
    exact ⟨ret_str (by rw [HE.out, str_app [45]]; rfl), g1⟩
  · obtain ⟨u, rfl⟩ := Int.eq_ofNat_of_zero_le hn
    exact decimal_nat u (by omega) w
end Go.Proofs.YtekhdcfnpgkodaaDoor
