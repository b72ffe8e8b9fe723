/-
  Round of both, by its contract.
-/
import Derived.Test.YtekhdcfnpgkodaaDoorSub
import Derived.Test.YtekhdcfnpgkodaaDoorRnd
namespace Go.Proofs.YtekhdcfnpgkodaaDoor
open Go.RowKit
/-- a fraction's bounds, as Round needs them -/
theorem down_k (n d : Int) (hn1 : -4294967296 ≤ n) (hn2 : n ≤ 4294967296) (hd1 : 1 ≤ d) (hd2 : d ≤ 4294967296) (w : World) :
    Calls Tryd.prog 36 #[.agg #[.int .i64 n, .int .i64 d]] w fun e w' => e = .returned (.int .i64 (dnQ n d)) ∧ w.grownBy w' none := by
  have g1 := World.grownBy_alloc w (.cells #[.int .i64 n, .int .i64 d] 65) none
  have h1 := Int.mul_tdiv_add_tmod n d
  have h2 := Int.tmod_lt_of_pos n (b := d) (by omega)
  have h3 := Int.lt_tmod_of_pos n (b := d) (by omega)
  have h4 : -4294967296 ≤ n.tdiv d ∧ n.tdiv d ≤ 4294967296 := by
    have : (n.tdiv d).natAbs ≤ n.natAbs := by rw [Int.natAbs_tdiv]; exact Nat.div_le_self _ _
    omega
  obtain ⟨h4, h5⟩ := h4
  have hd0 : (d == 0) = false := by simp; omega
  have HD : Hid (dnQ n d = if n.tmod d < 0 then n.tdiv d - 1 else n.tdiv d) := Lib.hid (by
    unfold dnQ
    rw [fl _ _ _ (by omega)]
    rw [Int.mul_comm] at h1
    split
    · rw [Int.sub_mul, Int.one_mul]; omega
    · omega)
  generalize dnQ n d = r at *
  clear h1 h2 h3
  by_cases h : n.tmod d < 0
  · rw [if_pos h] at HD
    go_enter Tryd.func36, Tryd.ntmps36
    go_wp2_with fail
    go_ret
    exact ⟨ret_int HD.out.symm, g1⟩
  · rw [if_neg h] at HD
    go_enter Tryd.func36, Tryd.ntmps36
    go_wp2_with fail
    go_ret
    exact ⟨ret_int HD.out.symm, g1⟩
theorem up_k (n d : Int) (hn1 : -4294967296 ≤ n) (hn2 : n ≤ 4294967296) (hd1 : 1 ≤ d) (hd2 : d ≤ 4294967296) (w : World) :
    Calls Tryd.prog 37 #[.agg #[.int .i64 n, .int .i64 d]] w fun e w' => e = .returned (.int .i64 (upQ n d)) ∧ w.grownBy w' none := by
  have g1 := World.grownBy_alloc w (.cells #[.int .i64 n, .int .i64 d] 65) none
  have K := Lib.hid (down_k (-n) d (by omega) (by omega) hd1 hd2)
  have HU : Hid (upQ n d = -dnQ (-n) d) := Lib.hid rfl
  have b1 : -4294967296 ≤ dnQ (-n) d ∧ dnQ (-n) d ≤ 4294967296 := by
    unfold dnQ
    obtain ⟨f1, f2⟩ := fl_of (-n) d (by omega)
    constructor
    · exact (Int.le_ediv_iff_mul_le (by omega)).2 (by omega)
    · have : -n / d < 4294967297 := (Int.ediv_lt_iff_lt_mul (by omega)).2 (by omega)
      omega
  obtain ⟨b1, b2⟩ := b1
  go_enter Tryd.func37, Tryd.ntmps37
  go_wp2_with fail
  refine (K.out _).mono ?_
  rintro e w1 ⟨rfl, g⟩
  have g1 := g1.trans g
  clear g K
  go_wp2_with fail
  go_ret
  exact ⟨ret_int HU.out.symm, g1⟩
theorem half_k (n d : Int) (hn1 : -1073741824 ≤ n) (hn2 : n ≤ 1073741824) (hd1 : 1 ≤ d) (hd2 : d ≤ 1073741824) (w : World) :
    Calls Tryd.prog 38 #[.agg #[.int .i64 n, .int .i64 d]] w fun e w' => e = .returned (.int .i64 (hfQ n d)) ∧ w.grownBy w' none := by
  have g1 := World.grownBy_alloc w (.cells #[.int .i64 n, .int .i64 d] 65) none
  have K := Lib.hid (down_k (2 * n + d) (2 * d) (by omega) (by omega) (by omega) (by omega))
  go_enter Tryd.func38, Tryd.ntmps38
  go_wp2_with fail
  refine (K.out _).mono ?_
  rintro e w1 ⟨rfl, g⟩
  have g1 := g1.trans g
  clear g K
  go_wp2_with fail
  go_ret
  exact ⟨rfl, g1⟩
theorem hf_in (n d : Int) (hn1 : -1073741824 ≤ n) (hn2 : n ≤ 1073741824) (hd1 : 1 ≤ d) (hd2 : d ≤ 1073741824) : -4294967296 ≤ hfQ n d ∧ hfQ n d ≤ 4294967296 := by
  obtain ⟨k1, k2⟩ := (hf_iff n d _ (by omega)).1 rfl
  generalize hfQ n d = q at *
  constructor
  · rcases Int.lt_or_le q (-4294967296) with h | h
    · have : q * d ≤ -4294967297 * d := Int.mul_le_mul_of_nonneg_right (by omega) (by omega)
      omega
    · exact h
  · rcases Int.lt_or_le 4294967296 q with h | h
    · have : 4294967297 * d ≤ q * d := Int.mul_le_mul_of_nonneg_right (by omega) (by omega)
      omega
    · exact h
theorem tm2 (h : Int) : h.tmod 2 = 0 ↔ h % 2 = 0 := by
  have h1 := Int.mul_tdiv_add_tmod h 2
  have h2 := Int.tmod_lt_of_pos h (b := 2) (by omega)
  have h3 := Int.lt_tmod_of_pos h (b := 2) (by omega)
  generalize h.tdiv 2 = q at *
  generalize h.tmod 2 = t at *
  omega
theorem even_k (n d : Int) (hn1 : -1073741824 ≤ n) (hn2 : n ≤ 1073741824) (hd1 : 1 ≤ d) (hd2 : d ≤ 1073741824) (w : World) :
    Calls Tryd.prog 39 #[.agg #[.int .i64 n, .int .i64 d]] w fun e w' => e = .returned (.int .i64 (evQ n d)) ∧ w.grownBy w' none := by
  have g1 := World.grownBy_alloc w (.cells #[.int .i64 n, .int .i64 d] 65) none
  have K := Lib.hid (half_k n d hn1 hn2 hd1 hd2)
  obtain ⟨q1, q2⟩ := hf_in n d hn1 hn2 hd1 hd2
  have q0 : (w.alloc (.cells #[.int .i64 n, .int .i64 d] 65)).cell? ⟨w.heap.size, 0, none⟩ = some (.int .i64 n) := cell_at rfl
  have q3 : (w.alloc (.cells #[.int .i64 n, .int .i64 d] 65)).cell? ⟨w.heap.size, 1, none⟩ = some (.int .i64 d) := cell_at rfl
  have HE : Hid (evQ n d = if d = 2 ∧ hfQ n d % 2 ≠ 0 then hfQ n d - 1 else hfQ n d) := Lib.hid rfl
  generalize evQ n d = r at *
  generalize hfQ n d = h at *
  by_cases h2 : d = 2
  · subst h2
    by_cases h3 : h % 2 = 0
    · have h4 : h.tmod 2 = 0 := (tm2 h).2 h3
      obtain rfl : h = r := by rw [HE.out, if_neg (by omega)]
      clear HE
      go_enter Tryd.func39, Tryd.ntmps39
      go_wp2_with fail
      refine (K.out _).mono ?_
      rintro e w1 ⟨rfl, g⟩
      have q0 := gcell g q0
      have q3 := gcell g q3
      have g1 := g1.trans g
      clear g K
      go_wp2_with fail
      go_ret
      exact ⟨rfl, g1⟩
    · obtain rfl : r = h - 1 := by rw [HE.out, if_pos ⟨rfl, h3⟩]
      have h4 : (h.tmod 2 != 0) = true := by simpa using fun e => h3 ((tm2 h).1 e)
      clear HE
      go_enter Tryd.func39, Tryd.ntmps39
      go_wp2_with fail
      refine (K.out _).mono ?_
      rintro e w1 ⟨rfl, g⟩
      have q0 := gcell g q0
      have q3 := gcell g q3
      have g1 := g1.trans g
      clear g K
      go_wp2_with fail
      go_ret
      exact ⟨rfl, g1⟩
  · obtain rfl : h = r := by rw [HE.out, if_neg (by omega)]
    have h4 : (d == 2) = false := by simpa using h2
    clear HE
    go_enter Tryd.func39, Tryd.ntmps39
    go_wp2_with fail
    refine (K.out _).mono ?_
    rintro e w1 ⟨rfl, g⟩
    have q0 := gcell g q0
    have q3 := gcell g q3
    have g1 := g1.trans g
    clear g K
    go_wp2_with fail
    go_ret
    exact ⟨rfl, g1⟩
end Go.Proofs.YtekhdcfnpgkodaaDoor
