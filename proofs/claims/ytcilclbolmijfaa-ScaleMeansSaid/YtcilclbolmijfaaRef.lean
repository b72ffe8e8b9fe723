/-
  The reference's scales; conversions of both, by their contracts.
-/
import Derived.Test.YtcilclbolmijfaaChk
namespace Go.Proofs.Ytcilclbolmijfaa
open Go.RowKit
theorem near_r (n : Int) (w : World) : Calls Try.prog 32 #[.int .i64 n, .int .i64 1000] w fun e w' => e = .returned (.bool (gB n)) ∧ w = w' := by
  by_cases h1 : -1000 ≤ n
  · by_cases h2 : n ≤ 1000
    · go_enter Try.func32, Try.ntmps32
      go_wp2
      go_ret
      exact ⟨ret_bool (by unfold gB; simp [h1, h2]), rfl⟩
    · go_enter Try.func32, Try.ntmps32
      go_wp2
      go_ret
      exact ⟨ret_bool (by unfold gB; simp; omega), rfl⟩
  · go_enter Try.func32, Try.ntmps32
    go_wp2
    go_ret
    exact ⟨ret_bool (by unfold gB; simp; omega), rfl⟩
theorem chk_lt {a b p : Int} (h : a < b) : chkE a b p = if (gB a && (gB b && (!decide (p < a) && !decide (b < p)))) then 0 else 10 := by
  unfold chkE
  congr 1
  rw [eq_iff_iff, chk_iff]
  simp only [Bool.and_eq_true, g_iff, Bool.not_eq_true', decide_eq_false_iff_not]
  omega
theorem chk_gt {a b p : Int} (h : b < a) : chkE a b p = if (gB b && (gB a && (!decide (p < b) && !decide (a < p)))) then 0 else 10 := by
  unfold chkE
  congr 1
  rw [eq_iff_iff, chk_iff]
  simp only [Bool.and_eq_true, g_iff, Bool.not_eq_true', decide_eq_false_iff_not]
  omega
theorem rg_lt {a b p g : Int} (h : a < b) : rgB a b p g = (chkB a b p && (decide (a ≤ g) && decide (g ≤ b))) := by
  rw [Bool.eq_iff_iff, rg_iff]
  simp only [Bool.and_eq_true, decide_eq_true_eq]
  constructor <;> (rintro ⟨h1, h2, h3⟩; exact ⟨h1, by omega, by omega⟩)
theorem rg_gt {a b p g : Int} (h : b < a) : rgB a b p g = (chkB a b p && (decide (b ≤ g) && decide (g ≤ a))) := by
  rw [Bool.eq_iff_iff, rg_iff]
  simp only [Bool.and_eq_true, decide_eq_true_eq]
  constructor <;> (rintro ⟨h1, h2, h3⟩; exact ⟨h1, by omega, by omega⟩)
theorem rg_eq (a p g : Int) : rgB a a p g = false := by
  rw [Bool.eq_false_iff]; intro h; have := (rg_iff _ _ _ _).1 h; have := (chk_iff _ _ _).1 this.1; omega
theorem chk_eq (a p : Int) : chkB a a p = false := by
  rw [Bool.eq_false_iff]; intro h; have := (chk_iff _ _ _).1 h; omega
set_option maxRecDepth 100000 in
set_option maxHeartbeats 4000000 in
theorem check_r (a b p : Int) (w : World) : Calls Try.prog 12 #[.agg #[.int .i64 a, .int .i64 b, .int .i64 p]] w fun e w' => e = .returned (.int .i64 (chkE a b p)) ∧ w.grownBy w' none := by
  have R := S3.new w a b p
  have G := World.grownBy_alloc w (.cells #[.int .i64 a, .int .i64 b, .int .i64 p] 24) none
  rcases Int.lt_trichotomy a b with hab | hab | hab
  · have hab2 : a ≤ b := by omega
    have hab3 : (a == b) = false := by simp; omega
    have K1 := Lib.hid (near_r a)
    have K2 := Lib.hid (near_r b)
    have E := Lib.hid (chk_lt (p := p) hab)
    generalize chkE a b p = r at *
    generalize gB a = x at *
    generalize gB b = y at *
    by_cases h1 : p < a
    · have d1 : decide (p < a) = true := by simpa using h1
      rw [d1] at E
      clear d1
      obtain rfl : r = 10 := by have := E.out; simpa using this
      clear E
      cases x
      · go_enter Try.func12, Try.ntmps12
        go_wp2_with fail
        refine (K1.out _).mono ?_
        rintro e w' ⟨rfl, rfl⟩
        go_wp2_with fail
        go_ret
        exact ⟨ret_int rfl, G⟩
      · cases y
        · go_enter Try.func12, Try.ntmps12
          go_wp2_with fail
          refine (K1.out _).mono ?_
          rintro e w' ⟨rfl, rfl⟩
          go_wp2_with fail
          refine (K2.out _).mono ?_
          rintro e w' ⟨rfl, rfl⟩
          go_wp2_with fail
          go_ret
          exact ⟨ret_int rfl, G⟩
        · go_enter Try.func12, Try.ntmps12
          go_wp2_with fail
          refine (K1.out _).mono ?_
          rintro e w' ⟨rfl, rfl⟩
          go_wp2_with fail
          refine (K2.out _).mono ?_
          rintro e w' ⟨rfl, rfl⟩
          go_wp2_with fail
          go_ret
          exact ⟨ret_int rfl, G⟩
    · have d1 : decide (p < a) = false := by simpa using h1
      rw [d1] at E
      clear d1
      by_cases h2 : b < p
      · have d2 : decide (b < p) = true := by simpa using h2
        rw [d2] at E
        clear d2
        obtain rfl : r = 10 := by have := E.out; simpa using this
        clear E
        cases x
        · go_enter Try.func12, Try.ntmps12
          go_wp2_with fail
          refine (K1.out _).mono ?_
          rintro e w' ⟨rfl, rfl⟩
          go_wp2_with fail
          go_ret
          exact ⟨ret_int rfl, G⟩
        · cases y
          · go_enter Try.func12, Try.ntmps12
            go_wp2_with fail
            refine (K1.out _).mono ?_
            rintro e w' ⟨rfl, rfl⟩
            go_wp2_with fail
            refine (K2.out _).mono ?_
            rintro e w' ⟨rfl, rfl⟩
            go_wp2_with fail
            go_ret
            exact ⟨ret_int rfl, G⟩
          · go_enter Try.func12, Try.ntmps12
            go_wp2_with fail
            refine (K1.out _).mono ?_
            rintro e w' ⟨rfl, rfl⟩
            go_wp2_with fail
            refine (K2.out _).mono ?_
            rintro e w' ⟨rfl, rfl⟩
            go_wp2_with fail
            go_ret
            exact ⟨ret_int rfl, G⟩
      · have d2 : decide (b < p) = false := by simpa using h2
        rw [d2] at E
        clear d2
        cases x
        · obtain rfl : r = 10 := E.out
          clear E
          go_enter Try.func12, Try.ntmps12
          go_wp2_with fail
          refine (K1.out _).mono ?_
          rintro e w' ⟨rfl, rfl⟩
          go_wp2_with fail
          go_ret
          exact ⟨ret_int rfl, G⟩
        · cases y
          · obtain rfl : r = 10 := E.out
            clear E
            go_enter Try.func12, Try.ntmps12
            go_wp2_with fail
            refine (K1.out _).mono ?_
            rintro e w' ⟨rfl, rfl⟩
            go_wp2_with fail
            refine (K2.out _).mono ?_
            rintro e w' ⟨rfl, rfl⟩
            go_wp2_with fail
            go_ret
            exact ⟨ret_int rfl, G⟩
          · obtain rfl : r = 0 := E.out
            clear E
            go_enter Try.func12, Try.ntmps12
            go_wp2_with fail
            refine (K1.out _).mono ?_
            rintro e w' ⟨rfl, rfl⟩
            go_wp2_with fail
            refine (K2.out _).mono ?_
            rintro e w' ⟨rfl, rfl⟩
            go_wp2_with fail
            go_ret
            exact ⟨ret_int rfl, G⟩
  · subst hab
    have E := Lib.hid (chkE_no (chk_eq a p))
    generalize chkE a a p = r at *
    obtain rfl : r = 10 := E.out
    clear E
    go_enter Try.func12, Try.ntmps12
    go_wp2_with fail
    go_ret
    exact ⟨ret_int rfl, G⟩
  · have hab2 : b ≤ a := by omega
    have hab3 : (b == a) = false := by simp; omega
    have K1 := Lib.hid (near_r b)
    have K2 := Lib.hid (near_r a)
    have E := Lib.hid (chk_gt (p := p) hab)
    generalize chkE a b p = r at *
    generalize gB a = x at *
    generalize gB b = y at *
    by_cases h1 : p < b
    · have d1 : decide (p < b) = true := by simpa using h1
      rw [d1] at E
      clear d1
      obtain rfl : r = 10 := by have := E.out; simpa using this
      clear E
      cases y
      · go_enter Try.func12, Try.ntmps12
        go_wp2_with fail
        refine (K1.out _).mono ?_
        rintro e w' ⟨rfl, rfl⟩
        go_wp2_with fail
        go_ret
        exact ⟨ret_int rfl, G⟩
      · cases x
        · go_enter Try.func12, Try.ntmps12
          go_wp2_with fail
          refine (K1.out _).mono ?_
          rintro e w' ⟨rfl, rfl⟩
          go_wp2_with fail
          refine (K2.out _).mono ?_
          rintro e w' ⟨rfl, rfl⟩
          go_wp2_with fail
          go_ret
          exact ⟨ret_int rfl, G⟩
        · go_enter Try.func12, Try.ntmps12
          go_wp2_with fail
          refine (K1.out _).mono ?_
          rintro e w' ⟨rfl, rfl⟩
          go_wp2_with fail
          refine (K2.out _).mono ?_
          rintro e w' ⟨rfl, rfl⟩
          go_wp2_with fail
          go_ret
          exact ⟨ret_int rfl, G⟩
    · have d1 : decide (p < b) = false := by simpa using h1
      rw [d1] at E
      clear d1
      by_cases h2 : a < p
      · have d2 : decide (a < p) = true := by simpa using h2
        rw [d2] at E
        clear d2
        obtain rfl : r = 10 := by have := E.out; simpa using this
        clear E
        cases y
        · go_enter Try.func12, Try.ntmps12
          go_wp2_with fail
          refine (K1.out _).mono ?_
          rintro e w' ⟨rfl, rfl⟩
          go_wp2_with fail
          go_ret
          exact ⟨ret_int rfl, G⟩
        · cases x
          · go_enter Try.func12, Try.ntmps12
            go_wp2_with fail
            refine (K1.out _).mono ?_
            rintro e w' ⟨rfl, rfl⟩
            go_wp2_with fail
            refine (K2.out _).mono ?_
            rintro e w' ⟨rfl, rfl⟩
            go_wp2_with fail
            go_ret
            exact ⟨ret_int rfl, G⟩
          · go_enter Try.func12, Try.ntmps12
            go_wp2_with fail
            refine (K1.out _).mono ?_
            rintro e w' ⟨rfl, rfl⟩
            go_wp2_with fail
            refine (K2.out _).mono ?_
            rintro e w' ⟨rfl, rfl⟩
            go_wp2_with fail
            go_ret
            exact ⟨ret_int rfl, G⟩
      · have d2 : decide (a < p) = false := by simpa using h2
        rw [d2] at E
        clear d2
        cases y
        · obtain rfl : r = 10 := E.out
          clear E
          go_enter Try.func12, Try.ntmps12
          go_wp2_with fail
          refine (K1.out _).mono ?_
          rintro e w' ⟨rfl, rfl⟩
          go_wp2_with fail
          go_ret
          exact ⟨ret_int rfl, G⟩
        · cases x
          · obtain rfl : r = 10 := E.out
            clear E
            go_enter Try.func12, Try.ntmps12
            go_wp2_with fail
            refine (K1.out _).mono ?_
            rintro e w' ⟨rfl, rfl⟩
            go_wp2_with fail
            refine (K2.out _).mono ?_
            rintro e w' ⟨rfl, rfl⟩
            go_wp2_with fail
            go_ret
            exact ⟨ret_int rfl, G⟩
          · obtain rfl : r = 0 := E.out
            clear E
            go_enter Try.func12, Try.ntmps12
            go_wp2_with fail
            refine (K1.out _).mono ?_
            rintro e w' ⟨rfl, rfl⟩
            go_wp2_with fail
            refine (K2.out _).mono ?_
            rintro e w' ⟨rfl, rfl⟩
            go_wp2_with fail
            go_ret
            exact ⟨ret_int rfl, G⟩
set_option maxRecDepth 100000 in
set_option maxHeartbeats 4000000 in
theorem right_r (a b p g : Int) (w : World) : Calls Try.prog 14 #[.agg #[.int .i64 a, .int .i64 b, .int .i64 p], .int .i64 g] w fun e w' => e = .returned (.bool (rgB a b p g)) ∧ w.grownBy w' none := by
  have R := S3.new w a b p
  have G := World.grownBy_alloc w (.cells #[.int .i64 a, .int .i64 b, .int .i64 p] 24) none
  have K1 := Lib.hid (check_r a b p)
  rcases Int.lt_trichotomy a b with hab | hab | hab
  · have hab2 : a ≤ b := by omega
    have hab3 : (a == b) = false := by simp; omega
    have E := Lib.hid (rg_lt (p := p) (g := g) hab)
    generalize rgB a b p g = r at *
    cases h : chkB a b p
    · rw [chkE_no h] at K1
      rw [h] at E
      clear h
      obtain rfl : r = false := E.out
      clear E
      go_enter Try.func14, Try.ntmps14
      go_wp2_with fail
      refine (K1.out _).mono ?_
      rintro e _ ⟨rfl, g⟩
      replace R := R.kept g
      replace G := G.trans g
      clear g
      have c0 := R.c0
      have c1 := R.c1
      have c2 := R.c2
      go_wp2_with fail
      clear c0 c1 c2
      go_ret
      exact ⟨ret_bool rfl, G⟩
    · rw [chkE_yes h] at K1
      rw [h] at E
      clear h
      by_cases h1 : a ≤ g
      · have d1 : decide (a ≤ g) = true := by simpa using h1
        rw [d1] at E
        clear d1
        by_cases h2 : g ≤ b
        · have d1 : decide (g ≤ b) = true := by simpa using h2
          rw [d1] at E
          clear d1
          obtain rfl : r = true := E.out
          clear E
          go_enter Try.func14, Try.ntmps14
          go_wp2_with fail
          refine (K1.out _).mono ?_
          rintro e _ ⟨rfl, g⟩
          replace R := R.kept g
          replace G := G.trans g
          clear g
          have c0 := R.c0
          have c1 := R.c1
          have c2 := R.c2
          go_wp2_with fail
          clear c0 c1 c2
          go_ret
          exact ⟨ret_bool (by first | rfl | (simp; done) | (simp; omega)), G⟩
        · have d1 : decide (g ≤ b) = false := by simpa using h2
          rw [d1] at E
          clear d1
          obtain rfl : r = false := E.out
          clear E
          go_enter Try.func14, Try.ntmps14
          go_wp2_with fail
          refine (K1.out _).mono ?_
          rintro e _ ⟨rfl, g⟩
          replace R := R.kept g
          replace G := G.trans g
          clear g
          have c0 := R.c0
          have c1 := R.c1
          have c2 := R.c2
          go_wp2_with fail
          clear c0 c1 c2
          go_ret
          exact ⟨ret_bool (by first | rfl | (simp; done) | (simp; omega)), G⟩
      · have d1 : decide (a ≤ g) = false := by simpa using h1
        rw [d1] at E
        clear d1
        obtain rfl : r = false := E.out
        clear E
        go_enter Try.func14, Try.ntmps14
        go_wp2_with fail
        refine (K1.out _).mono ?_
        rintro e _ ⟨rfl, g⟩
        replace R := R.kept g
        replace G := G.trans g
        clear g
        have c0 := R.c0
        have c1 := R.c1
        have c2 := R.c2
        go_wp2_with fail
        clear c0 c1 c2
        go_ret
        exact ⟨ret_bool (by first | rfl | (simp; omega)), G⟩
  · subst hab
    rw [chkE_no (chk_eq a p)] at K1
    have E := Lib.hid (rg_eq a p g)
    generalize rgB a a p g = r at *
    obtain rfl : r = false := E.out
    clear E
    go_enter Try.func14, Try.ntmps14
    go_wp2_with fail
    refine (K1.out _).mono ?_
    rintro e _ ⟨rfl, g⟩
    replace R := R.kept g
    replace G := G.trans g
    clear g
    have c0 := R.c0
    have c1 := R.c1
    have c2 := R.c2
    go_wp2_with fail
    clear c0 c1 c2
    go_ret
    exact ⟨ret_bool rfl, G⟩
  · have hab2 : b ≤ a := by omega
    have hab3 : (b == a) = false := by simp; omega
    have E := Lib.hid (rg_gt (p := p) (g := g) hab)
    generalize rgB a b p g = r at *
    cases h : chkB a b p
    · rw [chkE_no h] at K1
      rw [h] at E
      clear h
      obtain rfl : r = false := E.out
      clear E
      go_enter Try.func14, Try.ntmps14
      go_wp2_with fail
      refine (K1.out _).mono ?_
      rintro e _ ⟨rfl, g⟩
      replace R := R.kept g
      replace G := G.trans g
      clear g
      have c0 := R.c0
      have c1 := R.c1
      have c2 := R.c2
      go_wp2_with fail
      clear c0 c1 c2
      go_ret
      exact ⟨ret_bool rfl, G⟩
    · rw [chkE_yes h] at K1
      rw [h] at E
      clear h
      by_cases h1 : b ≤ g
      · have d1 : decide (b ≤ g) = true := by simpa using h1
        rw [d1] at E
        clear d1
        by_cases h2 : g ≤ a
        · have d1 : decide (g ≤ a) = true := by simpa using h2
          rw [d1] at E
          clear d1
          obtain rfl : r = true := E.out
          clear E
          go_enter Try.func14, Try.ntmps14
          go_wp2_with fail
          refine (K1.out _).mono ?_
          rintro e _ ⟨rfl, g⟩
          replace R := R.kept g
          replace G := G.trans g
          clear g
          have c0 := R.c0
          have c1 := R.c1
          have c2 := R.c2
          go_wp2_with fail
          clear c0 c1 c2
          go_ret
          exact ⟨ret_bool (by first | rfl | (simp; done) | (simp; omega)), G⟩
        · have d1 : decide (g ≤ a) = false := by simpa using h2
          rw [d1] at E
          clear d1
          obtain rfl : r = false := E.out
          clear E
          go_enter Try.func14, Try.ntmps14
          go_wp2_with fail
          refine (K1.out _).mono ?_
          rintro e _ ⟨rfl, g⟩
          replace R := R.kept g
          replace G := G.trans g
          clear g
          have c0 := R.c0
          have c1 := R.c1
          have c2 := R.c2
          go_wp2_with fail
          clear c0 c1 c2
          go_ret
          exact ⟨ret_bool (by first | rfl | (simp; done) | (simp; omega)), G⟩
      · have d1 : decide (b ≤ g) = false := by simpa using h1
        rw [d1] at E
        clear d1
        obtain rfl : r = false := E.out
        clear E
        go_enter Try.func14, Try.ntmps14
        go_wp2_with fail
        refine (K1.out _).mono ?_
        rintro e _ ⟨rfl, g⟩
        replace R := R.kept g
        replace G := G.trans g
        clear g
        have c0 := R.c0
        have c1 := R.c1
        have c2 := R.c2
        go_wp2_with fail
        clear c0 c1 c2
        go_ret
        exact ⟨ret_bool (by first | rfl | (simp; omega)), G⟩
end Go.Proofs.Ytcilclbolmijfaa
