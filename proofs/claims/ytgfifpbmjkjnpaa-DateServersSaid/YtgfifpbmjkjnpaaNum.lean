/-
  The days, terms and intervals of date and of the reference, by their contracts.
-/
import Derived.Test.YtgfifpbmjkjnpaaProg
import Derived.WalkKit
import Derived.WalkSpells
import Derived.WalkLawsBesides
import Derived.Lib.Hide
import Derived.Outline
namespace Go.Proofs.Ytgfifpbmjkjnpaa
open Go.RowKit

theorem ret_int {k : IntKind} {a b : Int} (h : a = b) : Ending.returned (.int k a) = .returned (.int k b) := by rw [h]
theorem ret_bool {a b : Bool} (h : a = b) : Ending.returned (.bool a) = .returned (.bool b) := by rw [h]
def rightB (d : Int) : Bool := decide (0 ≤ d ∧ d ≤ 100000)
def serverB (d : Int) : Bool := decide (1 ≤ d ∧ d ≤ 8)
def withinB (d b e : Int) : Bool := decide (b ≤ d ∧ (e = 0 ∨ d < e))
def meetB (b1 e1 b2 e2 : Int) : Bool := withinB (max b1 b2) b1 e1 && withinB (max b1 b2) b2 e2
def i64 (n : Int) : Prop := -9223372036854775808 ≤ n ∧ n ≤ 9223372036854775807
theorem tq (n k : Int) (hk : k = 100 ∨ k = 2) (hn : i64 n) : -9223372036854775808 ≤ n.tdiv k - 1 ∧ n.tdiv k - 1 ≤ 9223372036854775807 ∧ (n.tmod k < 0 → n.tdiv k - 1 = n / k) ∧ (0 ≤ n.tmod k → n.tdiv k = n / k) := by
  have h1 := Int.mul_tdiv_add_tmod n k
  have h2 := Int.tmod_lt_of_pos n (b := k) (by omega)
  have h3 := Int.lt_tmod_of_pos n (b := k) (by omega)
  unfold i64 at hn
  generalize n.tdiv k = q at *
  generalize n.tmod k = r at *
  rcases hk with rfl | rfl <;> refine ⟨by omega, by omega, fun _ => by omega, fun _ => by omega⟩
theorem right_k (d : Int) (w : World) : Calls Try.prog 11 #[.int .i64 d] w fun e w' => e = .returned (.bool (rightB d)) ∧ w = w' := by
  by_cases h : 0 ≤ d
  · go_enter Try.func11, Try.ntmps11
    go_wp2
    go_ret
    exact ⟨ret_bool (by unfold rightB; simp [h]), rfl⟩
  · go_enter Try.func11, Try.ntmps11
    go_wp2
    go_ret
    exact ⟨ret_bool (by unfold rightB; simp; omega), rfl⟩
theorem right_r (d : Int) (w : World) : Calls Try.prog 12 #[.int .i64 d] w fun e w' => e = .returned (.bool (rightB d)) ∧ w = w' := by
  by_cases h : 0 ≤ d
  · go_enter Try.func12, Try.ntmps12
    go_wp2
    go_ret
    exact ⟨ret_bool (by unfold rightB; simp [h]), rfl⟩
  · go_enter Try.func12, Try.ntmps12
    go_wp2
    go_ret
    exact ⟨ret_bool (by unfold rightB; simp; omega), rfl⟩
theorem server_k (d : Int) (w : World) : Calls Try.prog 37 #[.int .i64 d] w fun e w' => e = .returned (.bool (serverB d)) ∧ w = w' := by
  by_cases h : 1 ≤ d
  · go_enter Try.func37, Try.ntmps37
    go_wp2
    go_ret
    exact ⟨ret_bool (by unfold serverB; simp [h]), rfl⟩
  · go_enter Try.func37, Try.ntmps37
    go_wp2
    go_ret
    exact ⟨ret_bool (by unfold serverB; simp; omega), rfl⟩
theorem floor_k (n k : Int) (hk : k = 100 ∨ k = 2) (hn : i64 n) (w : World) : Calls Try.prog 35 #[.int .i64 n, .int .i64 k] w fun e w' => e = .returned (.int .i64 (n / k)) ∧ w = w' := by
  obtain ⟨h3, h4, h5, h6⟩ := tq n k hk hn
  obtain ⟨h1, h2⟩ := hn
  have hk0 : (k == 0) = false := by rcases hk with rfl | rfl <;> rfl
  have hk2 : 0 < k := by omega
  clear hk
  by_cases h : n.tmod k < 0
  · have H := Lib.hid (h5 h)
    clear h5 h6
    go_enter Try.func35, Try.ntmps35
    go_wp2
    go_ret
    exact ⟨ret_int H.out, rfl⟩
  · have H := Lib.hid (h6 (by omega))
    clear h5 h6
    go_enter Try.func35, Try.ntmps35
    go_wp2
    go_ret
    exact ⟨ret_int H.out, rfl⟩
theorem floor_r (n k : Int) (hk : k = 100 ∨ k = 2) (hn : i64 n) (w : World) : Calls Try.prog 36 #[.int .i64 n, .int .i64 k] w fun e w' => e = .returned (.int .i64 (n / k)) ∧ w = w' := by
  obtain ⟨h3, h4, h5, h6⟩ := tq n k hk hn
  obtain ⟨h1, h2⟩ := hn
  have hk0 : (k == 0) = false := by rcases hk with rfl | rfl <;> rfl
  have hk2 : 0 < k := by omega
  clear hk
  by_cases h : n.tmod k < 0
  · have H := Lib.hid (h5 h)
    clear h5 h6
    go_enter Try.func36, Try.ntmps36
    go_wp2
    go_ret
    exact ⟨ret_int H.out, rfl⟩
  · have H := Lib.hid (h6 (by omega))
    clear h5 h6
    go_enter Try.func36, Try.ntmps36
    go_wp2
    go_ret
    exact ⟨ret_int H.out, rfl⟩
theorem term_k (n : Int) (hn : i64 n) (w : World) : Calls Try.prog 13 #[.int .i64 n] w fun e w' => e = .returned (.int .i64 (n / 100)) ∧ w = w' := by
  go_enter Try.func13, Try.ntmps13
  go_wp2_with fail
  refine (floor_k n 100 (.inl rfl) hn w).mono ?_
  rintro e w' ⟨rfl, rfl⟩
  go_wp2_with fail
  go_ret
  exact ⟨rfl, rfl⟩
theorem term_r (n : Int) (hn : i64 n) (w : World) : Calls Try.prog 14 #[.int .i64 n] w fun e w' => e = .returned (.int .i64 (n / 100)) ∧ w = w' := by
  go_enter Try.func14, Try.ntmps14
  go_wp2_with fail
  refine (floor_r n 100 (.inl rfl) hn w).mono ?_
  rintro e w' ⟨rfl, rfl⟩
  go_wp2_with fail
  go_ret
  exact ⟨rfl, rfl⟩
theorem i64_div (n : Int) (hn : i64 n) : i64 (n / 100) := by unfold i64 at *; omega
theorem year_k (n : Int) (hn : i64 n) (w : World) : Calls Try.prog 19 #[.int .i64 n] w fun e w' => e = .returned (.int .i64 (n / 100 / 2)) ∧ w = w' := by
  have h2 := i64_div n hn
  go_enter Try.func19, Try.ntmps19
  go_wp2_with fail
  refine (term_k n hn w).mono ?_
  rintro e w' ⟨rfl, rfl⟩
  go_wp2_with fail
  refine (floor_k (n / 100) 2 (.inr rfl) h2 w).mono ?_
  rintro e w' ⟨rfl, rfl⟩
  go_wp2_with fail
  go_ret
  exact ⟨rfl, rfl⟩
theorem year_r (n : Int) (hn : i64 n) (w : World) : Calls Try.prog 20 #[.int .i64 n] w fun e w' => e = .returned (.int .i64 (n / 100 / 2)) ∧ w = w' := by
  have h2 := i64_div n hn
  go_enter Try.func20, Try.ntmps20
  go_wp2_with fail
  refine (term_r n hn w).mono ?_
  rintro e w' ⟨rfl, rfl⟩
  go_wp2_with fail
  refine (floor_r (n / 100) 2 (.inr rfl) h2 w).mono ?_
  rintro e w' ⟨rfl, rfl⟩
  go_wp2_with fail
  go_ret
  exact ⟨rfl, rfl⟩
theorem begin_k (n : Int) (w : World) : Calls Try.prog 15 #[.int .i64 n] w fun e w' => e = .returned (.int .i64 (wrap64 (100 * n))) ∧ w = w' := by
  go_enter Try.func15, Try.ntmps15
  go_wp2_with fail
  go_ret
  exact ⟨ret_int (by first | rfl | (rw [Int.mul_comm])), rfl⟩
theorem begin_r (n : Int) (w : World) : Calls Try.prog 16 #[.int .i64 n] w fun e w' => e = .returned (.int .i64 (wrap64 (100 * n))) ∧ w = w' := by
  go_enter Try.func16, Try.ntmps16
  go_wp2_with fail
  go_ret
  exact ⟨ret_int (by first | rfl | (rw [Int.mul_comm])), rfl⟩
theorem last_k (n : Int) (w : World) : Calls Try.prog 17 #[.int .i64 n] w fun e w' => e = .returned (.int .i64 (wrap64 (wrap64 (wrap64 (100 * n) + 100) - 1))) ∧ w = w' := by
  go_enter Try.func17, Try.ntmps17
  go_wp2_with fail
  refine (begin_k n w).mono ?_
  rintro e w' ⟨rfl, rfl⟩
  go_wp2_with fail
  go_ret
  exact ⟨rfl, rfl⟩
theorem last_r (n : Int) (w : World) : Calls Try.prog 18 #[.int .i64 n] w fun e w' => e = .returned (.int .i64 (wrap64 (wrap64 (wrap64 (100 * n) + 100) - 1))) ∧ w = w' := by
  rw [Int.mul_comm]
  go_enter Try.func18, Try.ntmps18
  go_wp2_with fail
  go_ret
  exact ⟨rfl, rfl⟩
theorem within_k (d b e : Int) (w : World) : Calls Try.prog 21 #[.int .i64 d, .int .i64 b, .int .i64 e] w fun r w' => r = .returned (.bool (withinB d b e)) ∧ w = w' := by
  by_cases h1 : b ≤ d
  · have h2 : decide (b ≤ d) = true := by simpa using h1
    by_cases h3 : e = 0
    · have h4 : (e == 0) = true := by simpa using h3
      have H := Lib.hid h3
      clear h3
      go_enter Try.func21, Try.ntmps21
      go_wp2
      go_ret
      have := H.out
      exact ⟨ret_bool (by unfold withinB; simp [*]), rfl⟩
    · have h4 : (e == 0) = false := by simpa using h3
      go_enter Try.func21, Try.ntmps21
      go_wp2
      go_ret
      exact ⟨ret_bool (by unfold withinB; simp [h1, h3]), rfl⟩
  · have h2 : decide (b ≤ d) = false := by simpa using h1
    go_enter Try.func21, Try.ntmps21
    go_wp2
    go_ret
    exact ⟨ret_bool (by unfold withinB; simp [*]), rfl⟩
theorem within_r (d b e : Int) (w : World) : Calls Try.prog 22 #[.int .i64 d, .int .i64 b, .int .i64 e] w fun r w' => r = .returned (.bool (withinB d b e)) ∧ w = w' := by
  by_cases h1 : b ≤ d
  · have h2 : decide (b ≤ d) = true := by simpa using h1
    by_cases h3 : e = 0
    · have h4 : (e == 0) = true := by simpa using h3
      have H := Lib.hid h3
      clear h3
      go_enter Try.func22, Try.ntmps22
      go_wp2
      go_ret
      have := H.out
      exact ⟨ret_bool (by unfold withinB; simp [*]), rfl⟩
    · have h4 : (e == 0) = false := by simpa using h3
      go_enter Try.func22, Try.ntmps22
      go_wp2
      go_ret
      exact ⟨ret_bool (by unfold withinB; simp [h1, h3]), rfl⟩
  · have h2 : decide (b ≤ d) = false := by simpa using h1
    go_enter Try.func22, Try.ntmps22
    go_wp2
    go_ret
    exact ⟨ret_bool (by unfold withinB; simp [*]), rfl⟩
theorem meet_k (b1 e1 b2 e2 : Int) (w : World) : Calls Try.prog 23 #[.int .i64 b1, .int .i64 e1, .int .i64 b2, .int .i64 e2] w fun r w' => r = .returned (.bool (meetB b1 e1 b2 e2)) ∧ w = w' := by
  by_cases h : b2 ≤ b1
  · have M := Int.max_eq_left h
    unfold meetB
    rw [M]
    clear M
    have K1 := within_k b1 b1 e1 w
    have K2 := Lib.hid (within_k b1 b2 e2 w)
    generalize withinB b1 b1 e1 = x at *
    generalize withinB b1 b2 e2 = y at *
    cases x
    · go_enter Try.func23, Try.ntmps23
      go_wp2_with fail
      refine K1.mono ?_
      rintro e w' ⟨rfl, rfl⟩
      go_wp2_with fail
      go_ret
      exact ⟨rfl, rfl⟩
    · go_enter Try.func23, Try.ntmps23
      go_wp2_with fail
      refine K1.mono ?_
      rintro e w' ⟨rfl, rfl⟩
      go_wp2_with fail
      refine K2.out.mono ?_
      rintro e w' ⟨rfl, rfl⟩
      go_wp2_with fail
      go_ret
      exact ⟨rfl, rfl⟩
  · have M := Int.max_eq_right (a := b1) (b := b2) (by omega)
    unfold meetB
    rw [M]
    clear M
    have K1 := within_k b2 b1 e1 w
    have K2 := Lib.hid (within_k b2 b2 e2 w)
    generalize withinB b2 b1 e1 = x at *
    generalize withinB b2 b2 e2 = y at *
    cases x
    · go_enter Try.func23, Try.ntmps23
      go_wp2_with fail
      refine K1.mono ?_
      rintro e w' ⟨rfl, rfl⟩
      go_wp2_with fail
      go_ret
      exact ⟨rfl, rfl⟩
    · go_enter Try.func23, Try.ntmps23
      go_wp2_with fail
      refine K1.mono ?_
      rintro e w' ⟨rfl, rfl⟩
      go_wp2_with fail
      refine K2.out.mono ?_
      rintro e w' ⟨rfl, rfl⟩
      go_wp2_with fail
      go_ret
      exact ⟨rfl, rfl⟩
theorem meet_r (b1 e1 b2 e2 : Int) (w : World) : Calls Try.prog 24 #[.int .i64 b1, .int .i64 e1, .int .i64 b2, .int .i64 e2] w fun r w' => r = .returned (.bool (meetB b1 e1 b2 e2)) ∧ w = w' := by
  by_cases h : b2 ≤ b1
  · have M := Int.max_eq_left h
    unfold meetB
    rw [M]
    clear M
    have K1 := within_r b1 b1 e1 w
    have K2 := Lib.hid (within_r b1 b2 e2 w)
    generalize withinB b1 b1 e1 = x at *
    generalize withinB b1 b2 e2 = y at *
    cases x
    · go_enter Try.func24, Try.ntmps24
      go_wp2_with fail
      refine K1.mono ?_
      rintro e w' ⟨rfl, rfl⟩
      go_wp2_with fail
      go_ret
      exact ⟨rfl, rfl⟩
    · go_enter Try.func24, Try.ntmps24
      go_wp2_with fail
      refine K1.mono ?_
      rintro e w' ⟨rfl, rfl⟩
      go_wp2_with fail
      refine K2.out.mono ?_
      rintro e w' ⟨rfl, rfl⟩
      go_wp2_with fail
      go_ret
      exact ⟨rfl, rfl⟩
  · have M := Int.max_eq_right (a := b1) (b := b2) (by omega)
    unfold meetB
    rw [M]
    clear M
    have K1 := within_r b2 b1 e1 w
    have K2 := Lib.hid (within_r b2 b2 e2 w)
    generalize withinB b2 b1 e1 = x at *
    generalize withinB b2 b2 e2 = y at *
    cases x
    · go_enter Try.func24, Try.ntmps24
      go_wp2_with fail
      refine K1.mono ?_
      rintro e w' ⟨rfl, rfl⟩
      go_wp2_with fail
      go_ret
      exact ⟨rfl, rfl⟩
    · go_enter Try.func24, Try.ntmps24
      go_wp2_with fail
      refine K1.mono ?_
      rintro e w' ⟨rfl, rfl⟩
      go_wp2_with fail
      refine K2.out.mono ?_
      rintro e w' ⟨rfl, rfl⟩
      go_wp2_with fail
      go_ret
      exact ⟨rfl, rfl⟩
theorem begin_s (n : Int) (h1 : -1000000000000 ≤ n) (h2 : n ≤ 1000000000000) (w : World) : Calls Try.prog 15 #[.int .i64 n] w fun e w' => e = .returned (.int .i64 (100 * n)) ∧ w = w' := by
  have := begin_k n w
  rwa [IntWalk.wrap64_in _ (by omega)] at this
theorem last_s (n : Int) (h1 : -1000000000000 ≤ n) (h2 : n ≤ 1000000000000) (w : World) : Calls Try.prog 17 #[.int .i64 n] w fun e w' => e = .returned (.int .i64 (100 * n + 99)) ∧ w = w' := by
  have := last_k n w
  rw [IntWalk.wrap64_in (100 * n) (by omega), IntWalk.wrap64_in (100 * n + 100) (by omega), IntWalk.wrap64_in (100 * n + 100 - 1) (by omega)] at this
  rwa [show 100 * n + 100 - 1 = 100 * n + 99 by omega] at this
end Go.Proofs.Ytgfifpbmjkjnpaa
