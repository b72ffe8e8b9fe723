/-
  The reference's Round, by its contract.
-/
import Derived.Test.YtekhdcfnpgkodaaDoorRndK
namespace Go.Proofs.YtekhdcfnpgkodaaDoor
open Go.RowKit
theorem ret2 {a b c d : Int} (h1 : a = b) (h2 : c = d) : Ending.returned (.tuple #[.int .i64 a, .int .i64 c]) = .returned (.tuple #[.int .i64 b, .int .i64 d]) := by rw [h1, h2]
set_option maxRecDepth 100000 in
set_option maxHeartbeats 2000000 in
theorem roundr_1n (n d rv : Int) (hn : i64 n) (hd : i64 d) (hr : rightB n d = true) (hs : n.tmod d < 0) (hrv : rndQ 1 n d = rv) (w : World) :
    Calls Tryd.prog 23 #[.agg #[.int .i64 n, .int .i64 d], .int .i64 1] w fun e w' => e = .returned (.tuple #[.int .i64 rv, .int .i64 0]) ∧ w.grownBy w' none := by
  obtain ⟨a1, a2, a3, a4, a5⟩ := (right_iff n d).1 hr
  have Kr := Lib.hid (right_r n d hn hd)
  rw [hr] at Kr
  have gg := World.grownBy_alloc w (.cells #[.int .i64 n, .int .i64 d] 24) none
  have q0 : (w.alloc (.cells #[.int .i64 n, .int .i64 d] 24)).cell? ⟨w.heap.size, 0, none⟩ = some (.int .i64 n) := cell_at rfl
  have q1 : (w.alloc (.cells #[.int .i64 n, .int .i64 d] 24)).cell? ⟨w.heap.size, 1, none⟩ = some (.int .i64 d) := cell_at rfl
  have h1 := Int.mul_tdiv_add_tmod n d
  have h2 := Int.tmod_lt_of_pos n (b := d) (by omega)
  have h3 := Int.lt_tmod_of_pos n (b := d) (by omega)
  have h4 : -1073741824 ≤ n.tdiv d ∧ n.tdiv d ≤ 1073741824 := by
    have : (n.tdiv d).natAbs ≤ n.natAbs := by rw [Int.natAbs_tdiv]; exact Nat.div_le_self _ _
    omega
  obtain ⟨h4, h5⟩ := h4
  have hd0 : (d == 0) = false := by simp; omega
  have HR := ref_rnd a5 (show 0 < d by omega) 1
  rw [hrv] at HR
  obtain ⟨f1, f2⟩ := fl_of n d (by omega)
  clear hr a5 hn hd hrv
  rw [Int.mul_comm] at h1
  have hL : n.tdiv d - 1 = n / d := by
    have := (fl n d (n.tdiv d - 1) (by omega)).2 ⟨by rw [Int.sub_mul, Int.one_mul]; omega, by rw [Int.sub_mul, Int.one_mul]; omega⟩
    omega
  have k1 : n < n.tdiv d * d := by omega
  have k2 : n.tdiv d * d ≤ 4294967296 := by omega
  have k3 : -4294967296 ≤ n.tdiv d * d := by omega
  clear h1 h2 h3 hs
  have k4 : -4294967296 ≤ n / d * d := by omega
  have k5 : n / d * d ≤ 4294967296 := by omega
  have k6 : -1073741825 ≤ n / d := by omega
  have k7 : n / d ≤ 1073741824 := by omega
  obtain ⟨t, ht⟩ : ∃ t, n - n / d * d = t := ⟨_, rfl⟩
  rw [ht] at HR
  have t5 : 0 ≤ t := by omega
  have t6 : t < d := by omega
  replace HR := Lib.hid HR
  generalize n / d = L at *
  generalize hq : n.tdiv d = q at *
  clear f1 f2
  by_cases t0 : t = 0
  · subst t0
    obtain rfl : L = rv := by
      have := HR.out
      rw [if_pos (by omega)] at this
      exact this.symm
    clear HR
    go_enter Tryd.func23, Tryd.ntmps23
    go_wp2_with fail
    refine (Kr.out _).mono ?_
    rintro e w1 ⟨rfl, g⟩
    have q0 := gcell g q0
    have q1 := gcell g q1
    have gg := gg.trans g
    clear g Kr
    go_wp2_with fail
    go_ret2
    exact ⟨rfl, gg⟩
  · have t1 : (t == 0) = false := by simpa using t0
    obtain rfl : L = rv := by
      have := HR.out
      rw [if_pos (by omega)] at this
      exact this.symm
    clear HR
    go_enter Tryd.func23, Tryd.ntmps23
    go_wp2_with fail
    refine (Kr.out _).mono ?_
    rintro e w1 ⟨rfl, g⟩
    have q0 := gcell g q0
    have q1 := gcell g q1
    have gg := gg.trans g
    clear g Kr
    go_wp2_with fail
    go_ret2
    exact ⟨rfl, gg⟩
set_option maxRecDepth 100000 in
set_option maxHeartbeats 2000000 in
theorem roundr_1p (n d rv : Int) (hn : i64 n) (hd : i64 d) (hr : rightB n d = true) (hs : 0 ≤ n.tmod d) (hrv : rndQ 1 n d = rv) (w : World) :
    Calls Tryd.prog 23 #[.agg #[.int .i64 n, .int .i64 d], .int .i64 1] w fun e w' => e = .returned (.tuple #[.int .i64 rv, .int .i64 0]) ∧ w.grownBy w' none := by
  obtain ⟨a1, a2, a3, a4, a5⟩ := (right_iff n d).1 hr
  have Kr := Lib.hid (right_r n d hn hd)
  rw [hr] at Kr
  have gg := World.grownBy_alloc w (.cells #[.int .i64 n, .int .i64 d] 24) none
  have q0 : (w.alloc (.cells #[.int .i64 n, .int .i64 d] 24)).cell? ⟨w.heap.size, 0, none⟩ = some (.int .i64 n) := cell_at rfl
  have q1 : (w.alloc (.cells #[.int .i64 n, .int .i64 d] 24)).cell? ⟨w.heap.size, 1, none⟩ = some (.int .i64 d) := cell_at rfl
  have h1 := Int.mul_tdiv_add_tmod n d
  have h2 := Int.tmod_lt_of_pos n (b := d) (by omega)
  have h3 := Int.lt_tmod_of_pos n (b := d) (by omega)
  have h4 : -1073741824 ≤ n.tdiv d ∧ n.tdiv d ≤ 1073741824 := by
    have : (n.tdiv d).natAbs ≤ n.natAbs := by rw [Int.natAbs_tdiv]; exact Nat.div_le_self _ _
    omega
  obtain ⟨h4, h5⟩ := h4
  have hd0 : (d == 0) = false := by simp; omega
  have HR := ref_rnd a5 (show 0 < d by omega) 1
  rw [hrv] at HR
  obtain ⟨f1, f2⟩ := fl_of n d (by omega)
  clear hr a5 hn hd hrv
  rw [Int.mul_comm] at h1
  have hL : n.tdiv d = n / d := by
    have := (fl n d (n.tdiv d) (by omega)).2 ⟨by omega, by omega⟩
    omega
  have k1 : ¬ n < n / d * d := by rw [← hL]; omega
  clear h1 h2 h3 hs
  have k4 : -4294967296 ≤ n / d * d := by omega
  have k5 : n / d * d ≤ 4294967296 := by omega
  have k6 : -1073741825 ≤ n / d := by omega
  have k7 : n / d ≤ 1073741824 := by omega
  obtain ⟨t, ht⟩ : ∃ t, n - n / d * d = t := ⟨_, rfl⟩
  rw [ht] at HR
  have t5 : 0 ≤ t := by omega
  have t6 : t < d := by omega
  replace HR := Lib.hid HR
  generalize n / d = L at *
  clear f1 f2
  by_cases t0 : t = 0
  · subst t0
    obtain rfl : L = rv := by
      have := HR.out
      rw [if_pos (by omega)] at this
      exact this.symm
    clear HR
    go_enter Tryd.func23, Tryd.ntmps23
    go_wp2_with fail
    refine (Kr.out _).mono ?_
    rintro e w1 ⟨rfl, g⟩
    have q0 := gcell g q0
    have q1 := gcell g q1
    have gg := gg.trans g
    clear g Kr
    go_wp2_with fail
    go_ret2
    exact ⟨rfl, gg⟩
  · have t1 : (t == 0) = false := by simpa using t0
    obtain rfl : L = rv := by
      have := HR.out
      rw [if_pos (by omega)] at this
      exact this.symm
    clear HR
    go_enter Tryd.func23, Tryd.ntmps23
    go_wp2_with fail
    refine (Kr.out _).mono ?_
    rintro e w1 ⟨rfl, g⟩
    have q0 := gcell g q0
    have q1 := gcell g q1
    have gg := gg.trans g
    clear g Kr
    go_wp2_with fail
    go_ret2
    exact ⟨rfl, gg⟩
set_option maxRecDepth 100000 in
set_option maxHeartbeats 2000000 in
theorem roundr_2n (n d rv : Int) (hn : i64 n) (hd : i64 d) (hr : rightB n d = true) (hs : n.tmod d < 0) (hrv : rndQ 2 n d = rv) (w : World) :
    Calls Tryd.prog 23 #[.agg #[.int .i64 n, .int .i64 d], .int .i64 2] w fun e w' => e = .returned (.tuple #[.int .i64 rv, .int .i64 0]) ∧ w.grownBy w' none := by
  obtain ⟨a1, a2, a3, a4, a5⟩ := (right_iff n d).1 hr
  have Kr := Lib.hid (right_r n d hn hd)
  rw [hr] at Kr
  have gg := World.grownBy_alloc w (.cells #[.int .i64 n, .int .i64 d] 24) none
  have q0 : (w.alloc (.cells #[.int .i64 n, .int .i64 d] 24)).cell? ⟨w.heap.size, 0, none⟩ = some (.int .i64 n) := cell_at rfl
  have q1 : (w.alloc (.cells #[.int .i64 n, .int .i64 d] 24)).cell? ⟨w.heap.size, 1, none⟩ = some (.int .i64 d) := cell_at rfl
  have h1 := Int.mul_tdiv_add_tmod n d
  have h2 := Int.tmod_lt_of_pos n (b := d) (by omega)
  have h3 := Int.lt_tmod_of_pos n (b := d) (by omega)
  have h4 : -1073741824 ≤ n.tdiv d ∧ n.tdiv d ≤ 1073741824 := by
    have : (n.tdiv d).natAbs ≤ n.natAbs := by rw [Int.natAbs_tdiv]; exact Nat.div_le_self _ _
    omega
  obtain ⟨h4, h5⟩ := h4
  have hd0 : (d == 0) = false := by simp; omega
  have HR := ref_rnd a5 (show 0 < d by omega) 2
  rw [hrv] at HR
  obtain ⟨f1, f2⟩ := fl_of n d (by omega)
  clear hr a5 hn hd hrv
  rw [Int.mul_comm] at h1
  have hL : n.tdiv d - 1 = n / d := by
    have := (fl n d (n.tdiv d - 1) (by omega)).2 ⟨by rw [Int.sub_mul, Int.one_mul]; omega, by rw [Int.sub_mul, Int.one_mul]; omega⟩
    omega
  have k1 : n < n.tdiv d * d := by omega
  have k2 : n.tdiv d * d ≤ 4294967296 := by omega
  have k3 : -4294967296 ≤ n.tdiv d * d := by omega
  clear h1 h2 h3 hs
  have k4 : -4294967296 ≤ n / d * d := by omega
  have k5 : n / d * d ≤ 4294967296 := by omega
  have k6 : -1073741825 ≤ n / d := by omega
  have k7 : n / d ≤ 1073741824 := by omega
  obtain ⟨t, ht⟩ : ∃ t, n - n / d * d = t := ⟨_, rfl⟩
  rw [ht] at HR
  have t5 : 0 ≤ t := by omega
  have t6 : t < d := by omega
  replace HR := Lib.hid HR
  generalize n / d = L at *
  generalize hq : n.tdiv d = q at *
  clear f1 f2
  by_cases t0 : t = 0
  · subst t0
    obtain rfl : L = rv := by
      have := HR.out
      rw [if_pos (by omega)] at this
      exact this.symm
    clear HR
    go_enter Tryd.func23, Tryd.ntmps23
    go_wp2_with fail
    refine (Kr.out _).mono ?_
    rintro e w1 ⟨rfl, g⟩
    have q0 := gcell g q0
    have q1 := gcell g q1
    have gg := gg.trans g
    clear g Kr
    go_wp2_with fail
    go_ret2
    exact ⟨rfl, gg⟩
  · have t1 : (t == 0) = false := by simpa using t0
    obtain rfl : L + 1 = rv := by
      have := HR.out
      rw [if_neg (by omega), if_pos (by omega)] at this
      exact this.symm
    clear HR
    go_enter Tryd.func23, Tryd.ntmps23
    go_wp2_with fail
    refine (Kr.out _).mono ?_
    rintro e w1 ⟨rfl, g⟩
    have q0 := gcell g q0
    have q1 := gcell g q1
    have gg := gg.trans g
    clear g Kr
    go_wp2_with fail
    go_ret2
    exact ⟨rfl, gg⟩
set_option maxRecDepth 100000 in
set_option maxHeartbeats 2000000 in
theorem roundr_2p (n d rv : Int) (hn : i64 n) (hd : i64 d) (hr : rightB n d = true) (hs : 0 ≤ n.tmod d) (hrv : rndQ 2 n d = rv) (w : World) :
    Calls Tryd.prog 23 #[.agg #[.int .i64 n, .int .i64 d], .int .i64 2] w fun e w' => e = .returned (.tuple #[.int .i64 rv, .int .i64 0]) ∧ w.grownBy w' none := by
  obtain ⟨a1, a2, a3, a4, a5⟩ := (right_iff n d).1 hr
  have Kr := Lib.hid (right_r n d hn hd)
  rw [hr] at Kr
  have gg := World.grownBy_alloc w (.cells #[.int .i64 n, .int .i64 d] 24) none
  have q0 : (w.alloc (.cells #[.int .i64 n, .int .i64 d] 24)).cell? ⟨w.heap.size, 0, none⟩ = some (.int .i64 n) := cell_at rfl
  have q1 : (w.alloc (.cells #[.int .i64 n, .int .i64 d] 24)).cell? ⟨w.heap.size, 1, none⟩ = some (.int .i64 d) := cell_at rfl
  have h1 := Int.mul_tdiv_add_tmod n d
  have h2 := Int.tmod_lt_of_pos n (b := d) (by omega)
  have h3 := Int.lt_tmod_of_pos n (b := d) (by omega)
  have h4 : -1073741824 ≤ n.tdiv d ∧ n.tdiv d ≤ 1073741824 := by
    have : (n.tdiv d).natAbs ≤ n.natAbs := by rw [Int.natAbs_tdiv]; exact Nat.div_le_self _ _
    omega
  obtain ⟨h4, h5⟩ := h4
  have hd0 : (d == 0) = false := by simp; omega
  have HR := ref_rnd a5 (show 0 < d by omega) 2
  rw [hrv] at HR
  obtain ⟨f1, f2⟩ := fl_of n d (by omega)
  clear hr a5 hn hd hrv
  rw [Int.mul_comm] at h1
  have hL : n.tdiv d = n / d := by
    have := (fl n d (n.tdiv d) (by omega)).2 ⟨by omega, by omega⟩
    omega
  have k1 : ¬ n < n / d * d := by rw [← hL]; omega
  clear h1 h2 h3 hs
  have k4 : -4294967296 ≤ n / d * d := by omega
  have k5 : n / d * d ≤ 4294967296 := by omega
  have k6 : -1073741825 ≤ n / d := by omega
  have k7 : n / d ≤ 1073741824 := by omega
  obtain ⟨t, ht⟩ : ∃ t, n - n / d * d = t := ⟨_, rfl⟩
  rw [ht] at HR
  have t5 : 0 ≤ t := by omega
  have t6 : t < d := by omega
  replace HR := Lib.hid HR
  generalize n / d = L at *
  clear f1 f2
  by_cases t0 : t = 0
  · subst t0
    obtain rfl : L = rv := by
      have := HR.out
      rw [if_pos (by omega)] at this
      exact this.symm
    clear HR
    go_enter Tryd.func23, Tryd.ntmps23
    go_wp2_with fail
    refine (Kr.out _).mono ?_
    rintro e w1 ⟨rfl, g⟩
    have q0 := gcell g q0
    have q1 := gcell g q1
    have gg := gg.trans g
    clear g Kr
    go_wp2_with fail
    go_ret2
    exact ⟨rfl, gg⟩
  · have t1 : (t == 0) = false := by simpa using t0
    obtain rfl : L + 1 = rv := by
      have := HR.out
      rw [if_neg (by omega), if_pos (by omega)] at this
      exact this.symm
    clear HR
    go_enter Tryd.func23, Tryd.ntmps23
    go_wp2_with fail
    refine (Kr.out _).mono ?_
    rintro e w1 ⟨rfl, g⟩
    have q0 := gcell g q0
    have q1 := gcell g q1
    have gg := gg.trans g
    clear g Kr
    go_wp2_with fail
    go_ret2
    exact ⟨rfl, gg⟩
set_option maxRecDepth 100000 in
set_option maxHeartbeats 2000000 in
theorem roundr_3n (n d rv : Int) (hn : i64 n) (hd : i64 d) (hr : rightB n d = true) (hs : n.tmod d < 0) (hrv : rndQ 3 n d = rv) (w : World) :
    Calls Tryd.prog 23 #[.agg #[.int .i64 n, .int .i64 d], .int .i64 3] w fun e w' => e = .returned (.tuple #[.int .i64 rv, .int .i64 0]) ∧ w.grownBy w' none := by
  obtain ⟨a1, a2, a3, a4, a5⟩ := (right_iff n d).1 hr
  have Kr := Lib.hid (right_r n d hn hd)
  rw [hr] at Kr
  have gg := World.grownBy_alloc w (.cells #[.int .i64 n, .int .i64 d] 24) none
  have q0 : (w.alloc (.cells #[.int .i64 n, .int .i64 d] 24)).cell? ⟨w.heap.size, 0, none⟩ = some (.int .i64 n) := cell_at rfl
  have q1 : (w.alloc (.cells #[.int .i64 n, .int .i64 d] 24)).cell? ⟨w.heap.size, 1, none⟩ = some (.int .i64 d) := cell_at rfl
  have h1 := Int.mul_tdiv_add_tmod n d
  have h2 := Int.tmod_lt_of_pos n (b := d) (by omega)
  have h3 := Int.lt_tmod_of_pos n (b := d) (by omega)
  have h4 : -1073741824 ≤ n.tdiv d ∧ n.tdiv d ≤ 1073741824 := by
    have : (n.tdiv d).natAbs ≤ n.natAbs := by rw [Int.natAbs_tdiv]; exact Nat.div_le_self _ _
    omega
  obtain ⟨h4, h5⟩ := h4
  have hd0 : (d == 0) = false := by simp; omega
  have HR := ref_rnd a5 (show 0 < d by omega) 3
  rw [hrv] at HR
  obtain ⟨f1, f2⟩ := fl_of n d (by omega)
  clear hr a5 hn hd hrv
  rw [Int.mul_comm] at h1
  have hL : n.tdiv d - 1 = n / d := by
    have := (fl n d (n.tdiv d - 1) (by omega)).2 ⟨by rw [Int.sub_mul, Int.one_mul]; omega, by rw [Int.sub_mul, Int.one_mul]; omega⟩
    omega
  have k1 : n < n.tdiv d * d := by omega
  have k2 : n.tdiv d * d ≤ 4294967296 := by omega
  have k3 : -4294967296 ≤ n.tdiv d * d := by omega
  clear h1 h2 h3 hs
  have k4 : -4294967296 ≤ n / d * d := by omega
  have k5 : n / d * d ≤ 4294967296 := by omega
  have k6 : -1073741825 ≤ n / d := by omega
  have k7 : n / d ≤ 1073741824 := by omega
  obtain ⟨t, ht⟩ : ∃ t, n - n / d * d = t := ⟨_, rfl⟩
  rw [ht] at HR
  have t5 : 0 ≤ t := by omega
  have t6 : t < d := by omega
  replace HR := Lib.hid HR
  generalize n / d = L at *
  generalize hq : n.tdiv d = q at *
  clear f1 f2
  by_cases t0 : t = 0
  · subst t0
    obtain rfl : L = rv := by
      have := HR.out
      rw [if_pos (by omega)] at this
      exact this.symm
    clear HR
    go_enter Tryd.func23, Tryd.ntmps23
    go_wp2_with fail
    refine (Kr.out _).mono ?_
    rintro e w1 ⟨rfl, g⟩
    have q0 := gcell g q0
    have q1 := gcell g q1
    have gg := gg.trans g
    clear g Kr
    go_wp2_with fail
    go_ret2
    exact ⟨rfl, gg⟩
  · have t1 : (t == 0) = false := by simpa using t0
    rcases Int.lt_trichotomy (2 * t) d with t2 | t2 | t2
    · have t3 : ¬ d < 2 * t := by omega
      obtain rfl : L = rv := by
        have := HR.out
        rw [if_neg (by omega), if_neg (by omega), if_pos (by omega)] at this
        exact this.symm
      clear HR
      go_enter Tryd.func23, Tryd.ntmps23
      go_wp2_with fail
      refine (Kr.out _).mono ?_
      rintro e w1 ⟨rfl, g⟩
      have q0 := gcell g q0
      have q1 := gcell g q1
      have gg := gg.trans g
      clear g Kr
      go_wp2_with fail
      go_ret2
      exact ⟨rfl, gg⟩
    · have t3 : ¬ d < 2 * t := by omega
      have t4 : ¬ 2 * t < d := by omega
      obtain rfl : L + 1 = rv := by
        have := HR.out
        rw [if_neg (by omega), if_neg (by omega), if_neg (by omega), if_pos (by omega)] at this
        exact this.symm
      clear HR t2
      go_enter Tryd.func23, Tryd.ntmps23
      go_wp2_with fail
      refine (Kr.out _).mono ?_
      rintro e w1 ⟨rfl, g⟩
      have q0 := gcell g q0
      have q1 := gcell g q1
      have gg := gg.trans g
      clear g Kr
      go_wp2_with fail
      go_ret2
      exact ⟨rfl, gg⟩
    · have t4 : ¬ 2 * t < d := by omega
      obtain rfl : L + 1 = rv := by
        have := HR.out
        rw [if_neg (by omega), if_pos (by omega)] at this
        exact this.symm
      clear HR
      go_enter Tryd.func23, Tryd.ntmps23
      go_wp2_with fail
      refine (Kr.out _).mono ?_
      rintro e w1 ⟨rfl, g⟩
      have q0 := gcell g q0
      have q1 := gcell g q1
      have gg := gg.trans g
      clear g Kr
      go_wp2_with fail
      go_ret2
      exact ⟨rfl, gg⟩
set_option maxRecDepth 100000 in
set_option maxHeartbeats 2000000 in
theorem roundr_3p (n d rv : Int) (hn : i64 n) (hd : i64 d) (hr : rightB n d = true) (hs : 0 ≤ n.tmod d) (hrv : rndQ 3 n d = rv) (w : World) :
    Calls Tryd.prog 23 #[.agg #[.int .i64 n, .int .i64 d], .int .i64 3] w fun e w' => e = .returned (.tuple #[.int .i64 rv, .int .i64 0]) ∧ w.grownBy w' none := by
  obtain ⟨a1, a2, a3, a4, a5⟩ := (right_iff n d).1 hr
  have Kr := Lib.hid (right_r n d hn hd)
  rw [hr] at Kr
  have gg := World.grownBy_alloc w (.cells #[.int .i64 n, .int .i64 d] 24) none
  have q0 : (w.alloc (.cells #[.int .i64 n, .int .i64 d] 24)).cell? ⟨w.heap.size, 0, none⟩ = some (.int .i64 n) := cell_at rfl
  have q1 : (w.alloc (.cells #[.int .i64 n, .int .i64 d] 24)).cell? ⟨w.heap.size, 1, none⟩ = some (.int .i64 d) := cell_at rfl
  have h1 := Int.mul_tdiv_add_tmod n d
  have h2 := Int.tmod_lt_of_pos n (b := d) (by omega)
  have h3 := Int.lt_tmod_of_pos n (b := d) (by omega)
  have h4 : -1073741824 ≤ n.tdiv d ∧ n.tdiv d ≤ 1073741824 := by
    have : (n.tdiv d).natAbs ≤ n.natAbs := by rw [Int.natAbs_tdiv]; exact Nat.div_le_self _ _
    omega
  obtain ⟨h4, h5⟩ := h4
  have hd0 : (d == 0) = false := by simp; omega
  have HR := ref_rnd a5 (show 0 < d by omega) 3
  rw [hrv] at HR
  obtain ⟨f1, f2⟩ := fl_of n d (by omega)
  clear hr a5 hn hd hrv
  rw [Int.mul_comm] at h1
  have hL : n.tdiv d = n / d := by
    have := (fl n d (n.tdiv d) (by omega)).2 ⟨by omega, by omega⟩
    omega
  have k1 : ¬ n < n / d * d := by rw [← hL]; omega
  clear h1 h2 h3 hs
  have k4 : -4294967296 ≤ n / d * d := by omega
  have k5 : n / d * d ≤ 4294967296 := by omega
  have k6 : -1073741825 ≤ n / d := by omega
  have k7 : n / d ≤ 1073741824 := by omega
  obtain ⟨t, ht⟩ : ∃ t, n - n / d * d = t := ⟨_, rfl⟩
  rw [ht] at HR
  have t5 : 0 ≤ t := by omega
  have t6 : t < d := by omega
  replace HR := Lib.hid HR
  generalize n / d = L at *
  clear f1 f2
  by_cases t0 : t = 0
  · subst t0
    obtain rfl : L = rv := by
      have := HR.out
      rw [if_pos (by omega)] at this
      exact this.symm
    clear HR
    go_enter Tryd.func23, Tryd.ntmps23
    go_wp2_with fail
    refine (Kr.out _).mono ?_
    rintro e w1 ⟨rfl, g⟩
    have q0 := gcell g q0
    have q1 := gcell g q1
    have gg := gg.trans g
    clear g Kr
    go_wp2_with fail
    go_ret2
    exact ⟨rfl, gg⟩
  · have t1 : (t == 0) = false := by simpa using t0
    rcases Int.lt_trichotomy (2 * t) d with t2 | t2 | t2
    · have t3 : ¬ d < 2 * t := by omega
      obtain rfl : L = rv := by
        have := HR.out
        rw [if_neg (by omega), if_neg (by omega), if_pos (by omega)] at this
        exact this.symm
      clear HR
      go_enter Tryd.func23, Tryd.ntmps23
      go_wp2_with fail
      refine (Kr.out _).mono ?_
      rintro e w1 ⟨rfl, g⟩
      have q0 := gcell g q0
      have q1 := gcell g q1
      have gg := gg.trans g
      clear g Kr
      go_wp2_with fail
      go_ret2
      exact ⟨rfl, gg⟩
    · have t3 : ¬ d < 2 * t := by omega
      have t4 : ¬ 2 * t < d := by omega
      obtain rfl : L + 1 = rv := by
        have := HR.out
        rw [if_neg (by omega), if_neg (by omega), if_neg (by omega), if_pos (by omega)] at this
        exact this.symm
      clear HR t2
      go_enter Tryd.func23, Tryd.ntmps23
      go_wp2_with fail
      refine (Kr.out _).mono ?_
      rintro e w1 ⟨rfl, g⟩
      have q0 := gcell g q0
      have q1 := gcell g q1
      have gg := gg.trans g
      clear g Kr
      go_wp2_with fail
      go_ret2
      exact ⟨rfl, gg⟩
    · have t4 : ¬ 2 * t < d := by omega
      obtain rfl : L + 1 = rv := by
        have := HR.out
        rw [if_neg (by omega), if_pos (by omega)] at this
        exact this.symm
      clear HR
      go_enter Tryd.func23, Tryd.ntmps23
      go_wp2_with fail
      refine (Kr.out _).mono ?_
      rintro e w1 ⟨rfl, g⟩
      have q0 := gcell g q0
      have q1 := gcell g q1
      have gg := gg.trans g
      clear g Kr
      go_wp2_with fail
      go_ret2
      exact ⟨rfl, gg⟩
set_option maxRecDepth 100000 in
set_option maxHeartbeats 2000000 in
theorem roundr_4n (n d rv : Int) (hn : i64 n) (hd : i64 d) (hr : rightB n d = true) (hs : n.tmod d < 0) (hrv : rndQ 4 n d = rv) (w : World) :
    Calls Tryd.prog 23 #[.agg #[.int .i64 n, .int .i64 d], .int .i64 4] w fun e w' => e = .returned (.tuple #[.int .i64 rv, .int .i64 0]) ∧ w.grownBy w' none := by
  obtain ⟨a1, a2, a3, a4, a5⟩ := (right_iff n d).1 hr
  have Kr := Lib.hid (right_r n d hn hd)
  rw [hr] at Kr
  have gg := World.grownBy_alloc w (.cells #[.int .i64 n, .int .i64 d] 24) none
  have q0 : (w.alloc (.cells #[.int .i64 n, .int .i64 d] 24)).cell? ⟨w.heap.size, 0, none⟩ = some (.int .i64 n) := cell_at rfl
  have q1 : (w.alloc (.cells #[.int .i64 n, .int .i64 d] 24)).cell? ⟨w.heap.size, 1, none⟩ = some (.int .i64 d) := cell_at rfl
  have h1 := Int.mul_tdiv_add_tmod n d
  have h2 := Int.tmod_lt_of_pos n (b := d) (by omega)
  have h3 := Int.lt_tmod_of_pos n (b := d) (by omega)
  have h4 : -1073741824 ≤ n.tdiv d ∧ n.tdiv d ≤ 1073741824 := by
    have : (n.tdiv d).natAbs ≤ n.natAbs := by rw [Int.natAbs_tdiv]; exact Nat.div_le_self _ _
    omega
  obtain ⟨h4, h5⟩ := h4
  have hd0 : (d == 0) = false := by simp; omega
  have HR := ref_rnd a5 (show 0 < d by omega) 4
  rw [hrv] at HR
  obtain ⟨f1, f2⟩ := fl_of n d (by omega)
  clear hr a5 hn hd hrv
  rw [Int.mul_comm] at h1
  have hL : n.tdiv d - 1 = n / d := by
    have := (fl n d (n.tdiv d - 1) (by omega)).2 ⟨by rw [Int.sub_mul, Int.one_mul]; omega, by rw [Int.sub_mul, Int.one_mul]; omega⟩
    omega
  have k1 : n < n.tdiv d * d := by omega
  have k2 : n.tdiv d * d ≤ 4294967296 := by omega
  have k3 : -4294967296 ≤ n.tdiv d * d := by omega
  clear h1 h2 h3 hs
  have k4 : -4294967296 ≤ n / d * d := by omega
  have k5 : n / d * d ≤ 4294967296 := by omega
  have k6 : -1073741825 ≤ n / d := by omega
  have k7 : n / d ≤ 1073741824 := by omega
  obtain ⟨t, ht⟩ : ∃ t, n - n / d * d = t := ⟨_, rfl⟩
  rw [ht] at HR
  have t5 : 0 ≤ t := by omega
  have t6 : t < d := by omega
  replace HR := Lib.hid HR
  generalize n / d = L at *
  generalize hq : n.tdiv d = q at *
  clear f1 f2
  by_cases t0 : t = 0
  · subst t0
    obtain rfl : L = rv := by
      have := HR.out
      rw [if_pos (by omega)] at this
      exact this.symm
    clear HR
    go_enter Tryd.func23, Tryd.ntmps23
    go_wp2_with fail
    refine (Kr.out _).mono ?_
    rintro e w1 ⟨rfl, g⟩
    have q0 := gcell g q0
    have q1 := gcell g q1
    have gg := gg.trans g
    clear g Kr
    go_wp2_with fail
    go_ret2
    exact ⟨rfl, gg⟩
  · have t1 : (t == 0) = false := by simpa using t0
    rcases Int.lt_trichotomy (2 * t) d with t2 | t2 | t2
    · have t3 : ¬ d < 2 * t := by omega
      obtain rfl : L = rv := by
        have := HR.out
        rw [if_neg (by omega), if_neg (by omega), if_pos (by omega)] at this
        exact this.symm
      clear HR
      go_enter Tryd.func23, Tryd.ntmps23
      go_wp2_with fail
      refine (Kr.out _).mono ?_
      rintro e w1 ⟨rfl, g⟩
      have q0 := gcell g q0
      have q1 := gcell g q1
      have gg := gg.trans g
      clear g Kr
      go_wp2_with fail
      go_ret2
      exact ⟨rfl, gg⟩
    · have t3 : ¬ d < 2 * t := by omega
      have t4 : ¬ 2 * t < d := by omega
      by_cases h3 : L % 2 = 0
      · have h4 : L.tmod 2 = 0 := (tm2 L).2 h3
        obtain rfl : L = rv := by
          have := HR.out
          rw [if_neg (by omega), if_neg (by omega), if_neg (by omega), if_neg (by omega)] at this
          exact this.symm
        clear HR t2
        go_enter Tryd.func23, Tryd.ntmps23
        go_wp2_with fail
        refine (Kr.out _).mono ?_
        rintro e w1 ⟨rfl, g⟩
        have q0 := gcell g q0
        have q1 := gcell g q1
        have gg := gg.trans g
        clear g Kr
        go_wp2_with fail
        go_ret2
        exact ⟨rfl, gg⟩
      · have h4 : (L.tmod 2 != 0) = true := by simpa using fun e => h3 ((tm2 L).1 e)
        obtain rfl : L + 1 = rv := by
          have := HR.out
          rw [if_neg (by omega), if_neg (by omega), if_neg (by omega), if_pos (by omega)] at this
          exact this.symm
        clear HR t2
        go_enter Tryd.func23, Tryd.ntmps23
        go_wp2_with fail
        refine (Kr.out _).mono ?_
        rintro e w1 ⟨rfl, g⟩
        have q0 := gcell g q0
        have q1 := gcell g q1
        have gg := gg.trans g
        clear g Kr
        go_wp2_with fail
        go_ret2
        exact ⟨rfl, gg⟩
    · have t4 : ¬ 2 * t < d := by omega
      obtain rfl : L + 1 = rv := by
        have := HR.out
        rw [if_neg (by omega), if_pos (by omega)] at this
        exact this.symm
      clear HR
      go_enter Tryd.func23, Tryd.ntmps23
      go_wp2_with fail
      refine (Kr.out _).mono ?_
      rintro e w1 ⟨rfl, g⟩
      have q0 := gcell g q0
      have q1 := gcell g q1
      have gg := gg.trans g
      clear g Kr
      go_wp2_with fail
      go_ret2
      exact ⟨rfl, gg⟩
set_option maxRecDepth 100000 in
set_option maxHeartbeats 2000000 in
theorem roundr_4p (n d rv : Int) (hn : i64 n) (hd : i64 d) (hr : rightB n d = true) (hs : 0 ≤ n.tmod d) (hrv : rndQ 4 n d = rv) (w : World) :
    Calls Tryd.prog 23 #[.agg #[.int .i64 n, .int .i64 d], .int .i64 4] w fun e w' => e = .returned (.tuple #[.int .i64 rv, .int .i64 0]) ∧ w.grownBy w' none := by
  obtain ⟨a1, a2, a3, a4, a5⟩ := (right_iff n d).1 hr
  have Kr := Lib.hid (right_r n d hn hd)
  rw [hr] at Kr
  have gg := World.grownBy_alloc w (.cells #[.int .i64 n, .int .i64 d] 24) none
  have q0 : (w.alloc (.cells #[.int .i64 n, .int .i64 d] 24)).cell? ⟨w.heap.size, 0, none⟩ = some (.int .i64 n) := cell_at rfl
  have q1 : (w.alloc (.cells #[.int .i64 n, .int .i64 d] 24)).cell? ⟨w.heap.size, 1, none⟩ = some (.int .i64 d) := cell_at rfl
  have h1 := Int.mul_tdiv_add_tmod n d
  have h2 := Int.tmod_lt_of_pos n (b := d) (by omega)
  have h3 := Int.lt_tmod_of_pos n (b := d) (by omega)
  have h4 : -1073741824 ≤ n.tdiv d ∧ n.tdiv d ≤ 1073741824 := by
    have : (n.tdiv d).natAbs ≤ n.natAbs := by rw [Int.natAbs_tdiv]; exact Nat.div_le_self _ _
    omega
  obtain ⟨h4, h5⟩ := h4
  have hd0 : (d == 0) = false := by simp; omega
  have HR := ref_rnd a5 (show 0 < d by omega) 4
  rw [hrv] at HR
  obtain ⟨f1, f2⟩ := fl_of n d (by omega)
  clear hr a5 hn hd hrv
  rw [Int.mul_comm] at h1
  have hL : n.tdiv d = n / d := by
    have := (fl n d (n.tdiv d) (by omega)).2 ⟨by omega, by omega⟩
    omega
  have k1 : ¬ n < n / d * d := by rw [← hL]; omega
  clear h1 h2 h3 hs
  have k4 : -4294967296 ≤ n / d * d := by omega
  have k5 : n / d * d ≤ 4294967296 := by omega
  have k6 : -1073741825 ≤ n / d := by omega
  have k7 : n / d ≤ 1073741824 := by omega
  obtain ⟨t, ht⟩ : ∃ t, n - n / d * d = t := ⟨_, rfl⟩
  rw [ht] at HR
  have t5 : 0 ≤ t := by omega
  have t6 : t < d := by omega
  replace HR := Lib.hid HR
  generalize n / d = L at *
  clear f1 f2
  by_cases t0 : t = 0
  · subst t0
    obtain rfl : L = rv := by
      have := HR.out
      rw [if_pos (by omega)] at this
      exact this.symm
    clear HR
    go_enter Tryd.func23, Tryd.ntmps23
    go_wp2_with fail
    refine (Kr.out _).mono ?_
    rintro e w1 ⟨rfl, g⟩
    have q0 := gcell g q0
    have q1 := gcell g q1
    have gg := gg.trans g
    clear g Kr
    go_wp2_with fail
    go_ret2
    exact ⟨rfl, gg⟩
  · have t1 : (t == 0) = false := by simpa using t0
    rcases Int.lt_trichotomy (2 * t) d with t2 | t2 | t2
    · have t3 : ¬ d < 2 * t := by omega
      obtain rfl : L = rv := by
        have := HR.out
        rw [if_neg (by omega), if_neg (by omega), if_pos (by omega)] at this
        exact this.symm
      clear HR
      go_enter Tryd.func23, Tryd.ntmps23
      go_wp2_with fail
      refine (Kr.out _).mono ?_
      rintro e w1 ⟨rfl, g⟩
      have q0 := gcell g q0
      have q1 := gcell g q1
      have gg := gg.trans g
      clear g Kr
      go_wp2_with fail
      go_ret2
      exact ⟨rfl, gg⟩
    · have t3 : ¬ d < 2 * t := by omega
      have t4 : ¬ 2 * t < d := by omega
      by_cases h3 : L % 2 = 0
      · have h4 : L.tmod 2 = 0 := (tm2 L).2 h3
        obtain rfl : L = rv := by
          have := HR.out
          rw [if_neg (by omega), if_neg (by omega), if_neg (by omega), if_neg (by omega)] at this
          exact this.symm
        clear HR t2
        go_enter Tryd.func23, Tryd.ntmps23
        go_wp2_with fail
        refine (Kr.out _).mono ?_
        rintro e w1 ⟨rfl, g⟩
        have q0 := gcell g q0
        have q1 := gcell g q1
        have gg := gg.trans g
        clear g Kr
        go_wp2_with fail
        go_ret2
        exact ⟨rfl, gg⟩
      · have h4 : (L.tmod 2 != 0) = true := by simpa using fun e => h3 ((tm2 L).1 e)
        obtain rfl : L + 1 = rv := by
          have := HR.out
          rw [if_neg (by omega), if_neg (by omega), if_neg (by omega), if_pos (by omega)] at this
          exact this.symm
        clear HR t2
        go_enter Tryd.func23, Tryd.ntmps23
        go_wp2_with fail
        refine (Kr.out _).mono ?_
        rintro e w1 ⟨rfl, g⟩
        have q0 := gcell g q0
        have q1 := gcell g q1
        have gg := gg.trans g
        clear g Kr
        go_wp2_with fail
        go_ret2
        exact ⟨rfl, gg⟩
    · have t4 : ¬ 2 * t < d := by omega
      obtain rfl : L + 1 = rv := by
        have := HR.out
        rw [if_neg (by omega), if_pos (by omega)] at this
        exact this.symm
      clear HR
      go_enter Tryd.func23, Tryd.ntmps23
      go_wp2_with fail
      refine (Kr.out _).mono ?_
      rintro e w1 ⟨rfl, g⟩
      have q0 := gcell g q0
      have q1 := gcell g q1
      have gg := gg.trans g
      clear g Kr
      go_wp2_with fail
      go_ret2
      exact ⟨rfl, gg⟩
end Go.Proofs.YtekhdcfnpgkodaaDoor
