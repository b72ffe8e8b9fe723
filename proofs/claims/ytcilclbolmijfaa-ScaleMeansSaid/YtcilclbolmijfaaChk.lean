/-
  Scales, of the program and of the reference, by their contracts.
-/
import Derived.Test.YtcilclbolmijfaaOf
import Derived.Test.YtcilclbolmijfaaSM
import Derived.Deep.DeepCutAuto
import Derived.Deep.RegionHeld3
namespace Go.Proofs.Ytcilclbolmijfaa
open Go.RowKit
/-- a scale at block b -/
def S3 (w : World) (B : Nat) (a b p : Int) : Prop := w.heap[B]? = some (.cells #[.int .i64 a, .int .i64 b, .int .i64 p] 24 (0, 0))
theorem S3.c0 {w : World} {B : Nat} {a b p : Int} (h : S3 w B a b p) : w.cell? ⟨B, 0, none⟩ = some (.int .i64 a) := by unfold S3 at h; simp [World.cell?, h]
theorem S3.c1 {w : World} {B : Nat} {a b p : Int} (h : S3 w B a b p) : w.cell? ⟨B, 1, none⟩ = some (.int .i64 b) := by unfold S3 at h; simp [World.cell?, h]
theorem S3.c2 {w : World} {B : Nat} {a b p : Int} (h : S3 w B a b p) : w.cell? ⟨B, 2, none⟩ = some (.int .i64 p) := by unfold S3 at h; simp [World.cell?, h]
theorem S3.lt {w : World} {B : Nat} {a b p : Int} (h : S3 w B a b p) : B < w.heap.size := by
  rcases Nat.lt_or_ge B w.heap.size with hlt | hge
  · exact hlt
  · unfold S3 at h; rw [Array.getElem?_eq_none hge] at h; cases h
theorem S3.kept {w w' : World} {B : Nat} {a b p : Int} (h : S3 w B a b p) (hg : w.grownBy w' none) : S3 w' B a b p := (hg.block B h.lt (by simp)).trans h
theorem S3.new (w : World) (a b p : Int) : S3 (w.alloc (.cells #[.int .i64 a, .int .i64 b, .int .i64 p] 24)) w.heap.size a b p := World.alloc_heap_new w _
/-- a conversion at block b -/
def C4 (w : World) (B : Nat) (n a d r : Int) : Prop := w.heap[B]? = some (.cells #[.int .i64 n, .int .i64 a, .int .i64 d, .int .i64 r] 26 (0, 0))
theorem C4.c0 {w : World} {B : Nat} {n a d r : Int} (h : C4 w B n a d r) : w.cell? ⟨B, 0, none⟩ = some (.int .i64 n) := by unfold C4 at h; simp [World.cell?, h]
theorem C4.c1 {w : World} {B : Nat} {n a d r : Int} (h : C4 w B n a d r) : w.cell? ⟨B, 1, none⟩ = some (.int .i64 a) := by unfold C4 at h; simp [World.cell?, h]
theorem C4.c2 {w : World} {B : Nat} {n a d r : Int} (h : C4 w B n a d r) : w.cell? ⟨B, 2, none⟩ = some (.int .i64 d) := by unfold C4 at h; simp [World.cell?, h]
theorem C4.c3 {w : World} {B : Nat} {n a d r : Int} (h : C4 w B n a d r) : w.cell? ⟨B, 3, none⟩ = some (.int .i64 r) := by unfold C4 at h; simp [World.cell?, h]
theorem C4.lt {w : World} {B : Nat} {n a d r : Int} (h : C4 w B n a d r) : B < w.heap.size := by
  rcases Nat.lt_or_ge B w.heap.size with hlt | hge
  · exact hlt
  · unfold C4 at h; rw [Array.getElem?_eq_none hge] at h; cases h
theorem C4.kept {w w' : World} {B : Nat} {n a d r : Int} (h : C4 w B n a d r) (hg : w.grownBy w' none) : C4 w' B n a d r := (hg.block B h.lt (by simp)).trans h
theorem C4.new (w : World) (n a d r : Int) : C4 (w.alloc (.cells #[.int .i64 n, .int .i64 a, .int .i64 d, .int .i64 r] 26)) w.heap.size n a d r := World.alloc_heap_new w _
theorem limit_k (n lo hi : Int) (w : World) : Calls Try.prog 44 #[.int .i64 n, .int .i64 lo, .int .i64 hi] w fun e w' => e = .returned (.int .i64 (limV n lo hi)) ∧ w = w' := by
  go_enter Try.func44, Try.ntmps44
  go_wp2
  all_goals
    go_ret
    exact ⟨ret_int (by unfold limV; omega), rfl⟩
theorem within_k (n lo hi : Int) (h : lo ≤ hi) (w : World) : Calls Try.prog 34 #[.int .i64 n, .int .i64 lo, .int .i64 hi] w fun e w' => e = .returned (.bool (wiB n lo hi)) ∧ w = w' := by
  have K := Lib.hid (limit_k n lo hi)
  have E := Lib.hid (lim_eq n lo hi h)
  clear h
  generalize limV n lo hi = m at *
  go_enter Try.func34, Try.ntmps34
  go_wp2_with fail
  refine (K.out _).mono ?_
  rintro e w' ⟨rfl, rfl⟩
  go_wp2_with fail
  go_ret
  exact ⟨ret_bool E.out, rfl⟩
theorem graded_k (n : Int) (w : World) : Calls Try.prog 30 #[.int .i64 n] w fun e w' => e = .returned (.bool (gB n)) ∧ w = w' := by
  have K := Lib.hid (within_k n (-1000) 1000 (by decide))
  go_enter Try.func30, Try.ntmps30
  go_wp2_with fail
  refine (K.out _).mono ?_
  rintro e w' ⟨rfl, rfl⟩
  go_wp2_with fail
  go_ret
  exact ⟨ret_bool rfl, rfl⟩
theorem place_k (a b p g : Int) (w : World) : Calls Try.prog 41 #[.agg #[.int .i64 a, .int .i64 b, .int .i64 p], .int .i64 g] w fun e w' => e = .returned (.int .i64 (placeV a b g)) ∧ w.grownBy w' none := by
  have g0 := World.grownBy_alloc w (.cells #[.int .i64 a, .int .i64 b, .int .i64 p] 24) none
  have K := Lib.hid (limit_k g)
  have E := Lib.hid (show placeV a b g = limV g (min a b) (max a b) from rfl)
  go_enter Try.func41, Try.ntmps41
  go_wp2_with fail
  all_goals
    refine (K.out _ _ _).mono ?_
    rintro e w' ⟨rfl, rfl⟩
    go_wp2_with fail
    go_ret
    exact ⟨ret_int (by rw [E.out]; congr 1 <;> omega), g0⟩
theorem on_k (a b p g : Int) (w : World) : Calls Try.prog 31 #[.agg #[.int .i64 a, .int .i64 b, .int .i64 p], .int .i64 g] w fun e w' => e = .returned (.bool (onB a b g)) ∧ w.grownBy w' none := by
  have R := S3.new w a b p
  have G := World.grownBy_alloc w (.cells #[.int .i64 a, .int .i64 b, .int .i64 p] 24) none
  have K := Lib.hid (place_k a b p g)
  have E := Lib.hid (place_eq a b g)
  generalize placeV a b g = m at *
  go_enter Try.func31, Try.ntmps31
  go_wp2_with fail
  refine (K.out _).mono ?_
  rintro e _ ⟨rfl, g⟩
  replace R := R.kept g
  replace G := G.trans g
  clear g
  have c0 := R.c0
  have c1 := R.c1
  have c2 := R.c2
  go_wp2_with fail
  clear c0 c1 c2
  go_ret
  exact ⟨ret_bool E.out, G⟩
theorem better_k (a b p x y : Int) (w : World) : Calls Try.prog 33 #[.agg #[.int .i64 a, .int .i64 b, .int .i64 p], .int .i64 x, .int .i64 y] w fun e w' => e = .returned (.bool (btB a b x y)) ∧ w.grownBy w' none := by
  have R := S3.new w a b p
  have G := World.grownBy_alloc w (.cells #[.int .i64 a, .int .i64 b, .int .i64 p] 24) none
  by_cases h1 : b < a
  · go_enter Try.func33, Try.ntmps33
    go_wp2_with fail
    go_ret
    exact ⟨ret_bool (by unfold btB; rw [if_pos h1]), G⟩
  · go_enter Try.func33, Try.ntmps33
    go_wp2_with fail
    go_ret
    exact ⟨ret_bool (by unfold btB; rw [if_neg (by omega)]), G⟩
theorem check_k (a b p : Int) (w : World) : Calls Try.prog 11 #[.agg #[.int .i64 a, .int .i64 b, .int .i64 p]] w fun e w' => e = .returned (.int .i64 (chkE a b p)) ∧ w.grownBy w' none := by
  have R := S3.new w a b p
  have G := World.grownBy_alloc w (.cells #[.int .i64 a, .int .i64 b, .int .i64 p] 24) none
  have K1 := Lib.hid (graded_k a)
  have K2 := Lib.hid (graded_k b)
  have K3 := Lib.hid (on_k a b p p)
  have E : Hid (chkE a b p = if (decide (a ≠ b) && (gB a && (gB b && onB a b p))) then 0 else 10) := Lib.hid rfl
  generalize chkE a b p = r at *
  generalize gB a = x at *
  generalize gB b = y at *
  generalize onB a b p = z at *
  by_cases h : a = b
  · have h1 : (a == b) = true := by simpa using h
    have h2 : decide (a ≠ b) = false := by simpa using h
    rw [h2] at E
    obtain rfl : r = 10 := E.out
    clear h h2 E
    go_enter Try.func11, Try.ntmps11
    go_wp2_with fail
    go_ret
    exact ⟨ret_int rfl, G⟩
  · have h1 : (a == b) = false := by simpa using h
    have h2 : decide (a ≠ b) = true := by simpa using h
    rw [h2] at E
    clear h h2
    cases x
    · obtain rfl : r = 10 := E.out
      clear E
      go_enter Try.func11, Try.ntmps11
      go_wp2_with fail
      refine (K1.out _).mono ?_
      rintro e w' ⟨rfl, rfl⟩
      go_wp2_with fail
      go_ret
      exact ⟨ret_int rfl, G⟩
    · cases y
      · obtain rfl : r = 10 := E.out
        clear E
        go_enter Try.func11, Try.ntmps11
        go_wp2_with fail
        refine (K1.out _).mono ?_
        rintro e w' ⟨rfl, rfl⟩
        go_wp2_with fail
        refine (K2.out _).mono ?_
        rintro e w' ⟨rfl, rfl⟩
        go_wp2_with fail
        go_ret
        exact ⟨ret_int rfl, G⟩
      · cases z
        · obtain rfl : r = 10 := E.out
          clear E
          go_enter Try.func11, Try.ntmps11
          go_wp2_with fail
          refine (K1.out _).mono ?_
          rintro e w' ⟨rfl, rfl⟩
          go_wp2_with fail
          refine (K2.out _).mono ?_
          rintro e w' ⟨rfl, rfl⟩
          go_wp2_with fail
          refine (K3.out _).mono ?_
          rintro e _ ⟨rfl, g⟩
          replace R := R.kept g
          replace G := G.trans g
          clear g
          have c0 := R.c0
          have c1 := R.c1
          have c2 := R.c2
          go_wp2_with fail
          clear c0 c1 c2
          go_ret
          exact ⟨ret_int rfl, G⟩
        · obtain rfl : r = 0 := E.out
          clear E
          go_enter Try.func11, Try.ntmps11
          go_wp2_with fail
          refine (K1.out _).mono ?_
          rintro e w' ⟨rfl, rfl⟩
          go_wp2_with fail
          refine (K2.out _).mono ?_
          rintro e w' ⟨rfl, rfl⟩
          go_wp2_with fail
          refine (K3.out _).mono ?_
          rintro e _ ⟨rfl, g⟩
          replace R := R.kept g
          replace G := G.trans g
          clear g
          have c0 := R.c0
          have c1 := R.c1
          have c2 := R.c2
          go_wp2_with fail
          clear c0 c1 c2
          go_ret
          exact ⟨ret_int rfl, G⟩
theorem right_k (a b p g : Int) (w : World) : Calls Try.prog 13 #[.agg #[.int .i64 a, .int .i64 b, .int .i64 p], .int .i64 g] w fun e w' => e = .returned (.bool (rgB a b p g)) ∧ w.grownBy w' none := by
  have R := S3.new w a b p
  have G := World.grownBy_alloc w (.cells #[.int .i64 a, .int .i64 b, .int .i64 p] 24) none
  have K1 := Lib.hid (check_k a b p)
  have K2 := Lib.hid (on_k a b p g)
  have E := Lib.hid (show rgB a b p g = (chkB a b p && onB a b g) from rfl)
  generalize rgB a b p g = r at *
  generalize onB a b g = z at *
  cases h : chkB a b p
  · rw [chkE_no h] at K1
    rw [h] at E
    clear h
    obtain rfl : r = false := E.out
    clear E
    go_enter Try.func13, Try.ntmps13
    go_wp2_with fail
    refine (K1.out _).mono ?_
    rintro e _ ⟨rfl, g⟩
    replace R := R.kept g
    replace G := G.trans g
    clear g
    have c0 := R.c0
    have c1 := R.c1
    have c2 := R.c2
    go_wp2_with fail
    clear c0 c1 c2
    go_ret
    exact ⟨ret_bool rfl, G⟩
  · rw [chkE_yes h] at K1
    rw [h] at E
    clear h
    obtain rfl : r = z := E.out
    clear E
    go_enter Try.func13, Try.ntmps13
    go_wp2_with fail
    refine (K1.out _).mono ?_
    rintro e w1 ⟨rfl, g⟩
    replace R := R.kept g
    replace G := G.trans g
    clear g
    have c0 := R.c0
    have c1 := R.c1
    have c2 := R.c2
    go_wp2_with fail
    clear c0 c1 c2
    refine (K2.out _).mono ?_
    rintro e _ ⟨rfl, g⟩
    replace R := R.kept g
    replace G := G.trans g
    clear g
    have c0 := R.c0
    have c1 := R.c1
    have c2 := R.c2
    go_wp2_with fail
    clear c0 c1 c2
    go_ret
    exact ⟨ret_bool rfl, G⟩
theorem better2_k (a b p x y : Int) (w : World) : Calls Try.prog 15 #[.agg #[.int .i64 a, .int .i64 b, .int .i64 p], .int .i64 x, .int .i64 y] w fun e w' => e = .returned (.bool (betB a b p x y)) ∧ w.grownBy w' none := by
  have R := S3.new w a b p
  have G := World.grownBy_alloc w (.cells #[.int .i64 a, .int .i64 b, .int .i64 p] 24) none
  have K1 := Lib.hid (right_k a b p x)
  have K2 := Lib.hid (right_k a b p y)
  have K3 := Lib.hid (better_k a b p x y)
  have E := Lib.hid (show betB a b p x y = (rgB a b p x && (rgB a b p y && btB a b x y)) from rfl)
  generalize betB a b p x y = r at *
  generalize rgB a b p x = u at *
  generalize rgB a b p y = v at *
  generalize btB a b x y = z at *
  cases u
  · obtain rfl : r = false := E.out
    clear E
    go_enter Try.func15, Try.ntmps15
    go_wp2_with fail
    refine (K1.out _).mono ?_
    rintro e _ ⟨rfl, g⟩
    replace R := R.kept g
    replace G := G.trans g
    clear g
    have c0 := R.c0
    have c1 := R.c1
    have c2 := R.c2
    go_wp2_with fail
    clear c0 c1 c2
    go_ret
    exact ⟨ret_bool rfl, G⟩
  · cases v
    · obtain rfl : r = false := E.out
      clear E
      go_enter Try.func15, Try.ntmps15
      go_wp2_with fail
      refine (K1.out _).mono ?_
      rintro e w1 ⟨rfl, g⟩
      replace R := R.kept g
      replace G := G.trans g
      clear g
      have c0 := R.c0
      have c1 := R.c1
      have c2 := R.c2
      go_wp2_with fail
      clear c0 c1 c2
      refine (K2.out _).mono ?_
      rintro e _ ⟨rfl, g⟩
      replace R := R.kept g
      replace G := G.trans g
      clear g
      have c0 := R.c0
      have c1 := R.c1
      have c2 := R.c2
      go_wp2_with fail
      clear c0 c1 c2
      go_ret
      exact ⟨ret_bool rfl, G⟩
    · obtain rfl : r = z := E.out
      clear E
      go_enter Try.func15, Try.ntmps15
      go_wp2_with fail
      refine (K1.out _).mono ?_
      rintro e w1 ⟨rfl, g⟩
      replace R := R.kept g
      replace G := G.trans g
      clear g
      have c0 := R.c0
      have c1 := R.c1
      have c2 := R.c2
      go_wp2_with fail
      clear c0 c1 c2
      refine (K2.out _).mono ?_
      rintro e w2 ⟨rfl, g⟩
      replace R := R.kept g
      replace G := G.trans g
      clear g
      have c0 := R.c0
      have c1 := R.c1
      have c2 := R.c2
      go_wp2_with fail
      clear c0 c1 c2
      refine (K3.out _).mono ?_
      rintro e _ ⟨rfl, g⟩
      replace R := R.kept g
      replace G := G.trans g
      clear g
      have c0 := R.c0
      have c1 := R.c1
      have c2 := R.c2
      go_wp2_with fail
      clear c0 c1 c2
      go_ret
      exact ⟨ret_bool rfl, G⟩
theorem reaches_k (a b p x m : Int) (w : World) : Calls Try.prog 19 #[.agg #[.int .i64 a, .int .i64 b, .int .i64 p], .int .i64 x, .int .i64 m] w fun e w' => e = .returned (.bool (rchB a b p x m)) ∧ w.grownBy w' none := by
  have R := S3.new w a b p
  have G := World.grownBy_alloc w (.cells #[.int .i64 a, .int .i64 b, .int .i64 p] 24) none
  have K1 := Lib.hid (right_k a b p x)
  have K2 := Lib.hid (better_k a b p m x)
  have E := Lib.hid (show rchB a b p x m = (rgB a b p x && !btB a b m x) from rfl)
  generalize rchB a b p x m = r at *
  generalize rgB a b p x = u at *
  generalize btB a b m x = z at *
  cases u
  · obtain rfl : r = false := E.out
    clear E
    go_enter Try.func19, Try.ntmps19
    go_wp2_with fail
    refine (K1.out _).mono ?_
    rintro e _ ⟨rfl, g⟩
    replace R := R.kept g
    replace G := G.trans g
    clear g
    have c0 := R.c0
    have c1 := R.c1
    have c2 := R.c2
    go_wp2_with fail
    clear c0 c1 c2
    go_ret
    exact ⟨ret_bool rfl, G⟩
  · obtain rfl : r = !z := E.out
    clear E
    go_enter Try.func19, Try.ntmps19
    go_wp2_with fail
    refine (K1.out _).mono ?_
    rintro e w1 ⟨rfl, g⟩
    replace R := R.kept g
    replace G := G.trans g
    clear g
    have c0 := R.c0
    have c1 := R.c1
    have c2 := R.c2
    go_wp2_with fail
    clear c0 c1 c2
    refine (K2.out _).mono ?_
    rintro e _ ⟨rfl, g⟩
    replace R := R.kept g
    replace G := G.trans g
    clear g
    have c0 := R.c0
    have c1 := R.c1
    have c2 := R.c2
    go_wp2_with fail
    clear c0 c1 c2
    go_ret
    exact ⟨ret_bool rfl, G⟩
theorem passed_k (a b p x : Int) (w : World) : Calls Try.prog 17 #[.agg #[.int .i64 a, .int .i64 b, .int .i64 p], .int .i64 x] w fun e w' => e = .returned (.bool (rchB a b p x p)) ∧ w.grownBy w' none := by
  have R := S3.new w a b p
  have G := World.grownBy_alloc w (.cells #[.int .i64 a, .int .i64 b, .int .i64 p] 24) none
  have K1 := Lib.hid (reaches_k a b p x p)
  generalize rchB a b p x p = r at *
  go_enter Try.func17, Try.ntmps17
  go_wp2_with fail
  refine (K1.out _).mono ?_
  rintro e _ ⟨rfl, g⟩
  replace R := R.kept g
  replace G := G.trans g
  clear g
  have c0 := R.c0
  have c1 := R.c1
  have c2 := R.c2
  go_wp2_with fail
  clear c0 c1 c2
  go_ret
  exact ⟨ret_bool rfl, G⟩
end Go.Proofs.Ytcilclbolmijfaa
