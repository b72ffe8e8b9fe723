/-
  The reference's orders of grades; conversions of both, by their contracts.
-/
import Derived.Test.YtcilclbolmijfaaRef
namespace Go.Proofs.Ytcilclbolmijfaa
open Go.RowKit
theorem rg_ne {a b p x : Int} (h : rgB a b p x = true) : a ≠ b := ((chk_iff _ _ _).1 ((rg_iff _ _ _ _).1 h).1).1
theorem wi_gB (n : Int) : wiB n (-1000) 1000 = gB n := rfl
theorem cv_of (n a d r : Int) : cvE n a d r = if (!decide (d < 1) && (!decide (1000 < d) && (gB n && (gB a && (!decide (r < 1) && !decide (4 < r)))))) then 0 else 3 := by
  unfold cvE
  congr 1
  rw [eq_iff_iff, cv_iff]
  simp only [Bool.and_eq_true, g_iff, Bool.not_eq_true', decide_eq_false_iff_not]
  omega
set_option maxRecDepth 100000 in
set_option maxHeartbeats 4000000 in
theorem better_r (a b p x y : Int) (w : World) : Calls Try.prog 16 #[.agg #[.int .i64 a, .int .i64 b, .int .i64 p], .int .i64 x, .int .i64 y] w fun e w' => e = .returned (.bool (betB a b p x y)) ∧ w.grownBy w' none := by
  have R := S3.new w a b p
  have G := World.grownBy_alloc w (.cells #[.int .i64 a, .int .i64 b, .int .i64 p] 24) none
  have K1 := Lib.hid (right_r a b p x)
  have K2 := Lib.hid (right_r a b p y)
  have E := Lib.hid (show betB a b p x y = (rgB a b p x && (rgB a b p y && btB a b x y)) from rfl)
  have HN := Lib.hid (rg_ne (a := a) (b := b) (p := p) (x := x))
  generalize betB a b p x y = r at *
  generalize rgB a b p x = u at *
  generalize rgB a b p y = v at *
  cases u
  · obtain rfl : r = false := E.out
    clear E
    go_enter Try.func16, Try.ntmps16
    go_wp2_with fail
    refine (K1.out _).mono ?_
    rintro e _ ⟨rfl, g⟩
    replace R := R.kept g
    replace G := G.trans g
    clear g
    have c0 := R.c0
    have c1 := R.c1
    have c2 := R.c2
    go_wp2_with fail
    clear c0 c1 c2
    go_ret
    exact ⟨ret_bool rfl, G⟩
  · cases v
    · obtain rfl : r = false := E.out
      clear E
      go_enter Try.func16, Try.ntmps16
      go_wp2_with fail
      refine (K1.out _).mono ?_
      rintro e w1 ⟨rfl, g⟩
      replace R := R.kept g
      replace G := G.trans g
      clear g
      have c0 := R.c0
      have c1 := R.c1
      have c2 := R.c2
      go_wp2_with fail
      clear c0 c1 c2
      refine (K2.out _).mono ?_
      rintro e _ ⟨rfl, g⟩
      replace R := R.kept g
      replace G := G.trans g
      clear g
      have c0 := R.c0
      have c1 := R.c1
      have c2 := R.c2
      go_wp2_with fail
      clear c0 c1 c2
      go_ret
      exact ⟨ret_bool rfl, G⟩
    · have hn := HN.out rfl
      clear HN
      by_cases h1 : a < b
      · obtain rfl : r = decide (y < x) := by have := E.out; unfold btB at this; rw [if_neg (by omega)] at this; exact this
        clear E hn
        go_enter Try.func16, Try.ntmps16
        go_wp2_with fail
        refine (K1.out _).mono ?_
        rintro e w1 ⟨rfl, g⟩
        replace R := R.kept g
        replace G := G.trans g
        clear g
        have c0 := R.c0
        have c1 := R.c1
        have c2 := R.c2
        go_wp2_with fail
        clear c0 c1 c2
        refine (K2.out _).mono ?_
        rintro e w2 ⟨rfl, g⟩
        replace R := R.kept g
        replace G := G.trans g
        clear g
        have c0 := R.c0
        have c1 := R.c1
        have c2 := R.c2
        go_wp2_with fail
        clear c0 c1 c2
        go_ret
        exact ⟨ret_bool rfl, G⟩
      · obtain rfl : r = decide (x < y) := by have := E.out; unfold btB at this; rw [if_pos (by omega)] at this; exact this
        clear E hn
        go_enter Try.func16, Try.ntmps16
        go_wp2_with fail
        refine (K1.out _).mono ?_
        rintro e w1 ⟨rfl, g⟩
        replace R := R.kept g
        replace G := G.trans g
        clear g
        have c0 := R.c0
        have c1 := R.c1
        have c2 := R.c2
        go_wp2_with fail
        clear c0 c1 c2
        refine (K2.out _).mono ?_
        rintro e w2 ⟨rfl, g⟩
        replace R := R.kept g
        replace G := G.trans g
        clear g
        have c0 := R.c0
        have c1 := R.c1
        have c2 := R.c2
        go_wp2_with fail
        clear c0 c1 c2
        go_ret
        exact ⟨ret_bool rfl, G⟩
set_option maxRecDepth 100000 in
set_option maxHeartbeats 4000000 in
theorem reaches_r (a b p x m : Int) (w : World) : Calls Try.prog 20 #[.agg #[.int .i64 a, .int .i64 b, .int .i64 p], .int .i64 x, .int .i64 m] w fun e w' => e = .returned (.bool (rchB a b p x m)) ∧ w.grownBy w' none := by
  have R := S3.new w a b p
  have G := World.grownBy_alloc w (.cells #[.int .i64 a, .int .i64 b, .int .i64 p] 24) none
  have K1 := Lib.hid (right_r a b p x)
  have E := Lib.hid (show rchB a b p x m = (rgB a b p x && !btB a b m x) from rfl)
  have HN := Lib.hid (rg_ne (a := a) (b := b) (p := p) (x := x))
  generalize rchB a b p x m = r at *
  generalize rgB a b p x = u at *
  cases u
  · obtain rfl : r = false := E.out
    clear E
    go_enter Try.func20, Try.ntmps20
    go_wp2_with fail
    refine (K1.out _).mono ?_
    rintro e _ ⟨rfl, g⟩
    replace R := R.kept g
    replace G := G.trans g
    clear g
    have c0 := R.c0
    have c1 := R.c1
    have c2 := R.c2
    go_wp2_with fail
    clear c0 c1 c2
    go_ret
    exact ⟨ret_bool rfl, G⟩
  · have hn := HN.out rfl
    clear HN
    by_cases h1 : a < b
    · obtain rfl : r = decide (m ≤ x) := by have := E.out; unfold btB at this; rw [if_neg (by omega)] at this; rw [this, Bool.eq_iff_iff]; simp
      clear E hn
      go_enter Try.func20, Try.ntmps20
      go_wp2_with fail
      refine (K1.out _).mono ?_
      rintro e w1 ⟨rfl, g⟩
      replace R := R.kept g
      replace G := G.trans g
      clear g
      have c0 := R.c0
      have c1 := R.c1
      have c2 := R.c2
      go_wp2_with fail
      clear c0 c1 c2
      go_ret
      exact ⟨ret_bool rfl, G⟩
    · obtain rfl : r = decide (x ≤ m) := by have := E.out; unfold btB at this; rw [if_pos (by omega)] at this; rw [this, Bool.eq_iff_iff]; simp
      clear E hn
      go_enter Try.func20, Try.ntmps20
      go_wp2_with fail
      refine (K1.out _).mono ?_
      rintro e w1 ⟨rfl, g⟩
      replace R := R.kept g
      replace G := G.trans g
      clear g
      have c0 := R.c0
      have c1 := R.c1
      have c2 := R.c2
      go_wp2_with fail
      clear c0 c1 c2
      go_ret
      exact ⟨ret_bool rfl, G⟩
set_option maxRecDepth 100000 in
set_option maxHeartbeats 4000000 in
theorem passed_r (a b p x : Int) (w : World) : Calls Try.prog 18 #[.agg #[.int .i64 a, .int .i64 b, .int .i64 p], .int .i64 x] w fun e w' => e = .returned (.bool (rchB a b p x p)) ∧ w.grownBy w' none := by
  have R := S3.new w a b p
  have G := World.grownBy_alloc w (.cells #[.int .i64 a, .int .i64 b, .int .i64 p] 24) none
  have K1 := Lib.hid (reaches_r a b p x p)
  generalize rchB a b p x p = r at *
  go_enter Try.func18, Try.ntmps18
  go_wp2_with fail
  refine (K1.out _).mono ?_
  rintro e _ ⟨rfl, g⟩
  replace R := R.kept g
  replace G := G.trans g
  clear g
  have c0 := R.c0
  have c1 := R.c1
  have c2 := R.c2
  go_wp2_with fail
  clear c0 c1 c2
  go_ret
  exact ⟨ret_bool rfl, G⟩
set_option maxRecDepth 100000 in
set_option maxHeartbeats 4000000 in
theorem checkConv_k (n a d r : Int) (w : World) : Calls Try.prog 21 #[.agg #[.int .i64 n, .int .i64 a, .int .i64 d, .int .i64 r]] w fun e w' => e = .returned (.int .i64 (cvE n a d r)) ∧ w.grownBy w' none := by
  have R := C4.new w n a d r
  have G := World.grownBy_alloc w (.cells #[.int .i64 n, .int .i64 a, .int .i64 d, .int .i64 r] 26) none
  have K1 := Lib.hid (within_k d 1 1000 (by decide))
  have K2 := Lib.hid (within_k n (-1000) 1000 (by decide))
  have K3 := Lib.hid (within_k a (-1000) 1000 (by decide))
  have K4 := Lib.hid (within_k r 1 4 (by decide))
  have E : Hid (cvE n a d r = if (wiB d 1 1000 && (wiB n (-1000) 1000 && (wiB a (-1000) 1000 && wiB r 1 4))) then 0 else 3) := Lib.hid rfl
  generalize cvE n a d r = q at *
  generalize wiB d 1 1000 = x at *
  generalize wiB n (-1000) 1000 = y at *
  generalize wiB a (-1000) 1000 = z at *
  generalize wiB r 1 4 = u at *
  cases x
  · obtain rfl : q = 3 := E.out
    clear E
    go_enter Try.func21, Try.ntmps21
    go_wp2_with fail
    refine (K1.out _).mono ?_
    rintro e w' ⟨rfl, rfl⟩
    go_wp2_with fail
    go_ret
    exact ⟨ret_int rfl, G⟩
  · cases y
    · obtain rfl : q = 3 := E.out
      clear E
      go_enter Try.func21, Try.ntmps21
      go_wp2_with fail
      refine (K1.out _).mono ?_
      rintro e w' ⟨rfl, rfl⟩
      go_wp2_with fail
      refine (K2.out _).mono ?_
      rintro e w' ⟨rfl, rfl⟩
      go_wp2_with fail
      go_ret
      exact ⟨ret_int rfl, G⟩
    · cases z
      · obtain rfl : q = 3 := E.out
        clear E
        go_enter Try.func21, Try.ntmps21
        go_wp2_with fail
        refine (K1.out _).mono ?_
        rintro e w' ⟨rfl, rfl⟩
        go_wp2_with fail
        refine (K2.out _).mono ?_
        rintro e w' ⟨rfl, rfl⟩
        go_wp2_with fail
        refine (K3.out _).mono ?_
        rintro e w' ⟨rfl, rfl⟩
        go_wp2_with fail
        go_ret
        exact ⟨ret_int rfl, G⟩
      · cases u
        · obtain rfl : q = 3 := E.out
          clear E
          go_enter Try.func21, Try.ntmps21
          go_wp2_with fail
          refine (K1.out _).mono ?_
          rintro e w' ⟨rfl, rfl⟩
          go_wp2_with fail
          refine (K2.out _).mono ?_
          rintro e w' ⟨rfl, rfl⟩
          go_wp2_with fail
          refine (K3.out _).mono ?_
          rintro e w' ⟨rfl, rfl⟩
          go_wp2_with fail
          refine (K4.out _).mono ?_
          rintro e w' ⟨rfl, rfl⟩
          go_wp2_with fail
          go_ret
          exact ⟨ret_int rfl, G⟩
        · obtain rfl : q = 0 := E.out
          clear E
          go_enter Try.func21, Try.ntmps21
          go_wp2_with fail
          refine (K1.out _).mono ?_
          rintro e w' ⟨rfl, rfl⟩
          go_wp2_with fail
          refine (K2.out _).mono ?_
          rintro e w' ⟨rfl, rfl⟩
          go_wp2_with fail
          refine (K3.out _).mono ?_
          rintro e w' ⟨rfl, rfl⟩
          go_wp2_with fail
          refine (K4.out _).mono ?_
          rintro e w' ⟨rfl, rfl⟩
          go_wp2_with fail
          go_ret
          exact ⟨ret_int rfl, G⟩
set_option maxRecDepth 100000 in
set_option maxHeartbeats 4000000 in
theorem checkConv_r (n a d r : Int) (w : World) : Calls Try.prog 22 #[.agg #[.int .i64 n, .int .i64 a, .int .i64 d, .int .i64 r]] w fun e w' => e = .returned (.int .i64 (cvE n a d r)) ∧ w.grownBy w' none := by
  have R := C4.new w n a d r
  have G := World.grownBy_alloc w (.cells #[.int .i64 n, .int .i64 a, .int .i64 d, .int .i64 r] 26) none
  have K1 := Lib.hid (near_r n)
  have K2 := Lib.hid (near_r a)
  have E := Lib.hid (cv_of n a d r)
  generalize cvE n a d r = q at *
  generalize gB n = x at *
  generalize gB a = y at *
  by_cases h1 : d < 1
  · have d1 : decide (d < 1) = true := by simpa using h1
    rw [d1] at E
    clear d1
    obtain rfl : q = 3 := by have := E.out; simpa using this
    clear E
    go_enter Try.func22, Try.ntmps22
    go_wp2_with fail
    go_ret
    exact ⟨ret_int rfl, G⟩
  · have d1 : decide (d < 1) = false := by simpa using h1
    rw [d1] at E
    clear d1
    by_cases h2 : 1000 < d
    · have d1 : decide (1000 < d) = true := by simpa using h2
      rw [d1] at E
      clear d1
      obtain rfl : q = 3 := by have := E.out; simpa using this
      clear E
      go_enter Try.func22, Try.ntmps22
      go_wp2_with fail
      go_ret
      exact ⟨ret_int rfl, G⟩
    · have d1 : decide (1000 < d) = false := by simpa using h2
      rw [d1] at E
      clear d1
      cases x
      · obtain rfl : q = 3 := by have := E.out; simpa using this
        clear E
        go_enter Try.func22, Try.ntmps22
        go_wp2_with fail
        refine (K1.out _).mono ?_
        rintro e w' ⟨rfl, rfl⟩
        go_wp2_with fail
        go_ret
        exact ⟨ret_int rfl, G⟩
      · cases y
        · obtain rfl : q = 3 := by have := E.out; simpa using this
          clear E
          go_enter Try.func22, Try.ntmps22
          go_wp2_with fail
          refine (K1.out _).mono ?_
          rintro e w' ⟨rfl, rfl⟩
          go_wp2_with fail
          refine (K2.out _).mono ?_
          rintro e w' ⟨rfl, rfl⟩
          go_wp2_with fail
          go_ret
          exact ⟨ret_int rfl, G⟩
        · by_cases h3 : r < 1
          · have d1 : decide (r < 1) = true := by simpa using h3
            rw [d1] at E
            clear d1
            obtain rfl : q = 3 := by have := E.out; simpa using this
            clear E
            go_enter Try.func22, Try.ntmps22
            go_wp2_with fail
            refine (K1.out _).mono ?_
            rintro e w' ⟨rfl, rfl⟩
            go_wp2_with fail
            refine (K2.out _).mono ?_
            rintro e w' ⟨rfl, rfl⟩
            go_wp2_with fail
            go_ret
            exact ⟨ret_int rfl, G⟩
          · have d1 : decide (r < 1) = false := by simpa using h3
            rw [d1] at E
            clear d1
            by_cases h4 : 4 < r
            · have d1 : decide (4 < r) = true := by simpa using h4
              rw [d1] at E
              clear d1
              obtain rfl : q = 3 := by have := E.out; simpa using this
              clear E
              go_enter Try.func22, Try.ntmps22
              go_wp2_with fail
              refine (K1.out _).mono ?_
              rintro e w' ⟨rfl, rfl⟩
              go_wp2_with fail
              refine (K2.out _).mono ?_
              rintro e w' ⟨rfl, rfl⟩
              go_wp2_with fail
              go_ret
              exact ⟨ret_int rfl, G⟩
            · have d1 : decide (4 < r) = false := by simpa using h4
              rw [d1] at E
              clear d1
              obtain rfl : q = 0 := E.out
              clear E
              go_enter Try.func22, Try.ntmps22
              go_wp2_with fail
              refine (K1.out _).mono ?_
              rintro e w' ⟨rfl, rfl⟩
              go_wp2_with fail
              refine (K2.out _).mono ?_
              rintro e w' ⟨rfl, rfl⟩
              go_wp2_with fail
              go_ret
              exact ⟨ret_int rfl, G⟩
theorem tm_le (n : Int) {k : Int} (h : 0 < k) : -k < n.tmod k ∧ n.tmod k < k := ⟨Int.lt_tmod_of_pos n h, Int.tmod_lt_of_pos n h⟩
/-- a valid conversion by the numbers of any one -/
def mk1 (n : Int) : Int := n.tmod 1001
def mkD (d : Int) : Int := 1 + d.tmod 1000 % 1000
def mkR (r : Int) : Int := 1 + r.tmod 4 % 4
theorem mk1_le (n : Int) : -1000 ≤ mk1 n ∧ mk1 n ≤ 1000 := by unfold mk1; have := tm_le n (k := 1001) (by decide); omega
theorem mkD_le (n : Int) : 1 ≤ mkD n ∧ mkD n ≤ 1000 := by unfold mkD; omega
theorem mkR_le (n : Int) : 1 ≤ mkR n ∧ mkR n ≤ 4 := by unfold mkR; omega
theorem mk_cv (n a d r : Int) : cvB (mk1 n) (mk1 a) (mkD d) (mkR r) = true := by
  have := mk1_le n; have := mk1_le a; have := mkD_le d; have := mkR_le r
  rw [cv_iff]; omega
theorem conv_k (n a d r : Int) (w : World) : Calls Try.prog 24 #[.agg #[.int .i64 n, .int .i64 a, .int .i64 d, .int .i64 r]] w fun e w' => e = .returned (.agg #[.int .i64 (mk1 n), .int .i64 (mk1 a), .int .i64 (mkD d), .int .i64 (mkR r)]) ∧ w.grownBy w' none := by
  have h1 : -1000 ≤ d.tmod 1000 ∧ d.tmod 1000 ≤ 1000 := by have := tm_le d (k := 1000) (by decide); omega
  have h2 : -4 ≤ r.tmod 4 ∧ r.tmod 4 ≤ 4 := by have := tm_le r (k := 4) (by decide); omega
  go_enter Try.func24, Try.ntmps24
  go_wp2
  unfold mk1 mkD mkR
  exact bodyPost_ret (v := .agg #[.int .i64 (n.tmod 1001), .int .i64 (a.tmod 1001), .int .i64 (1 + d.tmod 1000 % 1000), .int .i64 (1 + r.tmod 4 % 4)]) (by simp [results, Try.results24, go_sem]) rfl ⟨rfl, by
      (repeat (first | refine grown_set ?_ (.inl (by simp)) | refine grown_al ?_ | refine grown_dn ?_)); exact grown_refl _⟩
end Go.Proofs.Ytcilclbolmijfaa
