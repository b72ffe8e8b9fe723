/-
  The law DateTerms.
-/
import Derived.Test.YtgfifpbmjkjnpaaSane
namespace Go.Proofs.Ytgfifpbmjkjnpaa
open Go.RowKit
set_option maxRecDepth 100000 in
set_option maxHeartbeats 2000000 in
theorem terms_walk (day : Int) (w : World) : Calls Try.prog 4 #[.int .i64 day] w fun e w' => e = .returned (.bool true) ∧ w.grownBy w' none := by
  have h1 := Int.tmod_lt_of_pos day (b := 10000000) (by omega)
  have h2 := Int.lt_tmod_of_pos day (b := 10000000) (by omega)

  go_enter Try.func4, Try.ntmps4
  go_wp2_with fail
  refine (sane_k w).mono ?_
  rintro e w1 ⟨rfl, g1⟩
  go_wp2_with fail
  generalize day.tmod 10000000 = m at *
  have T := Lib.hid (term_k m ⟨by omega, by omega⟩)
  have Y := Lib.hid (year_k m ⟨by omega, by omega⟩)
  have f1 : 100 * (m / 100) ≤ m := by omega
  have f2 : m ≤ 100 * (m / 100) + 99 := by omega
  generalize m / 100 = t at *
  have f3 : 2 * (t / 2) ≤ t := by omega
  have f4 : t ≤ 2 * (t / 2) + 1 := by omega
  generalize t / 2 = y at *
  have b1 : -100001 ≤ t := by omega
  have b2 : t ≤ 100001 := by omega
  have b3 : -100001 ≤ y := by omega
  have b4 : y ≤ 100001 := by omega
  have L := Lib.hid (last_s t (by omega) (by omega))
  have B := Lib.hid (begin_s t (by omega) (by omega))
  have B1 : Hid (∀ w, Calls Try.prog 15 #[.int .i64 (t + 1)] w fun e w' => e = .returned (.int .i64 (100 * t + 100)) ∧ w = w') := Lib.hid (fun w => by
    have := begin_s (t + 1) (by omega) (by omega) w
    rwa [show 100 * (t + 1) = 100 * t + 100 by omega] at this)
  have T1 : Hid (∀ w, Calls Try.prog 13 #[.int .i64 (100 * t)] w fun e w' => e = .returned (.int .i64 t) ∧ w = w') := Lib.hid (fun w => by
    have := term_k (100 * t) ⟨by omega, by omega⟩ w
    rwa [show 100 * t / 100 = t by omega] at this)
  have T2 : Hid (∀ w, Calls Try.prog 13 #[.int .i64 (100 * t + 99)] w fun e w' => e = .returned (.int .i64 t) ∧ w = w') := Lib.hid (fun w => by
    have := term_k (100 * t + 99) ⟨by omega, by omega⟩ w
    rwa [show (100 * t + 99) / 100 = t by omega] at this)
  have T3 : Hid (∀ w, Calls Try.prog 13 #[.int .i64 (100 * t + 99 + 1)] w fun e w' => e = .returned (.int .i64 (t + 1)) ∧ w = w') := Lib.hid (fun w => by
    have := term_k (100 * t + 99 + 1) ⟨by omega, by omega⟩ w
    rwa [show (100 * t + 99 + 1) / 100 = t + 1 by omega] at this)
  refine (T.out w1).mono ?_
  rintro e w1 ⟨rfl, rfl⟩
  go_wp2_with fail
  refine (Y.out w1).mono ?_
  rintro e w1 ⟨rfl, rfl⟩
  go_wp2_with fail
  refine (B.out w1).mono ?_
  rintro e w1 ⟨rfl, rfl⟩
  go_wp2_with fail
  refine (L.out w1).mono ?_
  rintro e w1 ⟨rfl, rfl⟩
  go_wp2_with fail
  refine (B1.out w1).mono ?_
  rintro e w1 ⟨rfl, rfl⟩
  go_wp2_with fail
  refine (L.out w1).mono ?_
  rintro e w1 ⟨rfl, rfl⟩
  go_wp2_with fail
  refine (L.out w1).mono ?_
  rintro e w1 ⟨rfl, rfl⟩
  go_wp2_with fail
  refine (B.out w1).mono ?_
  rintro e w1 ⟨rfl, rfl⟩
  go_wp2_with fail
  refine (B.out w1).mono ?_
  rintro e w1 ⟨rfl, rfl⟩
  go_wp2_with fail
  refine (T1.out w1).mono ?_
  rintro e w1 ⟨rfl, rfl⟩
  go_wp2_with fail
  refine (L.out w1).mono ?_
  rintro e w1 ⟨rfl, rfl⟩
  go_wp2_with fail
  refine (T2.out w1).mono ?_
  rintro e w1 ⟨rfl, rfl⟩
  go_wp2_with fail
  refine (L.out w1).mono ?_
  rintro e w1 ⟨rfl, rfl⟩
  go_wp2_with fail
  refine (T3.out w1).mono ?_
  rintro e w1 ⟨rfl, rfl⟩
  go_wp2_with fail
  go_ret
  exact ⟨rfl, g1⟩
end Go.Proofs.Ytgfifpbmjkjnpaa
