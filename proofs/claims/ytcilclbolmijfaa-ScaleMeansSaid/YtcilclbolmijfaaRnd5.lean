/-
  Rounding of both, by contracts.
-/
import Derived.Test.YtcilclbolmijfaaRef2
import Derived.Deep.RegionWith
import Derived.Laws.EntriesVeiled
import Derived.IntWalk
namespace Go.Proofs.Ytcilclbolmijfaa
open Go.RowKit
def cmpV (x y : Int) : Int := if x < y then -1 else if y < x then 1 else 0
theorem notNan (n : Int) (w : World) : Calls Try.prog 56 #[.int .i64 n] w fun e w' => e = .returned (.bool false) ∧ w = w' := by
  go_enter Try.func56, Try.ntmps56
  go_wp2
  go_ret
  exact ⟨rfl, rfl⟩
theorem compare_k (x y : Int) (w : World) : Calls Try.prog 52 #[.int .i64 x, .int .i64 y] w fun e w' => e = .returned (.int .i64 (cmpV x y)) ∧ w = w' := by
  have K1 := Lib.hid (notNan x)
  have K2 := Lib.hid (notNan y)
  have E : Hid (cmpV x y = if x < y then -1 else if y < x then 1 else 0) := Lib.hid rfl
  generalize cmpV x y = c at *
  by_cases h1 : x < y
  · obtain rfl : c = -1 := by rw [E.out, if_pos h1]
    clear E
    go_enter Try.func52, Try.ntmps52
    go_wp2_with fail
    refine (K1.out _).mono ?_
    rintro e w' ⟨rfl, rfl⟩
    go_wp2_with fail
    refine (K2.out _).mono ?_
    rintro e w' ⟨rfl, rfl⟩
    go_wp2_with fail
    go_ret
    exact ⟨rfl, rfl⟩
  · by_cases h2 : y < x
    · obtain rfl : c = 1 := by rw [E.out, if_neg h1, if_pos h2]
      clear E
      go_enter Try.func52, Try.ntmps52
      go_wp2_with fail
      refine (K1.out _).mono ?_
      rintro e w' ⟨rfl, rfl⟩
      go_wp2_with fail
      refine (K2.out _).mono ?_
      rintro e w' ⟨rfl, rfl⟩
      go_wp2_with fail
      go_ret
      exact ⟨rfl, rfl⟩
    · obtain rfl : c = 0 := by rw [E.out, if_neg h1, if_neg h2]
      clear E
      go_enter Try.func52, Try.ntmps52
      go_wp2_with fail
      refine (K1.out _).mono ?_
      rintro e w' ⟨rfl, rfl⟩
      go_wp2_with fail
      refine (K2.out _).mono ?_
      rintro e w' ⟨rfl, rfl⟩
      go_wp2_with fail
      go_ret
      exact ⟨rfl, rfl⟩
def up1 (_ _ : Int) : Bool := false
def up2 (_ _ : Int) : Bool := true
def up3 (_ y : Int) : Bool := decide (0 ≤ y)
def up4 (x y : Int) : Bool := decide (0 < y ∨ (y = 0 ∧ x % 2 ≠ 0))
theorem way1 (x y : Int) (w : World) : Calls Try.prog 48 #[.int .i64 x, .int .i64 y] w fun e w' => e = .returned (.bool (up1 x y)) ∧ w = w' := by
  go_enter Try.func48, Try.ntmps48
  go_wp2
  go_ret
  exact ⟨rfl, rfl⟩
theorem way2 (x y : Int) (w : World) : Calls Try.prog 49 #[.int .i64 x, .int .i64 y] w fun e w' => e = .returned (.bool (up2 x y)) ∧ w = w' := by
  go_enter Try.func49, Try.ntmps49
  go_wp2
  go_ret
  exact ⟨rfl, rfl⟩
theorem way3 (x y : Int) (w : World) : Calls Try.prog 50 #[.int .i64 x, .int .i64 y] w fun e w' => e = .returned (.bool (up3 x y)) ∧ w = w' := by
  go_enter Try.func50, Try.ntmps50
  go_wp2
  go_ret
  exact ⟨rfl, rfl⟩
theorem odd_iff (x : Int) : x.tmod 2 = 0 ↔ x % 2 = 0 := by
  have h1 := Int.mul_tdiv_add_tmod x 2
  have h2 := tm_le x (k := 2) (by decide)
  generalize x.tdiv 2 = q at *
  omega
theorem way4 (x y : Int) (w : World) : Calls Try.prog 51 #[.int .i64 x, .int .i64 y] w fun e w' => e = .returned (.bool (up4 x y)) ∧ w = w' := by
  have ho := odd_iff x
  have E : Hid (up4 x y = decide (0 < y ∨ (y = 0 ∧ x % 2 ≠ 0))) := Lib.hid rfl
  generalize up4 x y = u at *
  by_cases h1 : 0 < y
  · obtain rfl : u = true := by rw [E.out]; simp; omega
    clear E ho
    go_enter Try.func51, Try.ntmps51
    go_wp2
    go_ret
    exact ⟨rfl, rfl⟩
  · by_cases h2 : y = 0
    · have h3 : (y == 0) = true := by simpa using h2
      by_cases h4 : x % 2 = 0
      · have h5 : (x.tmod 2 != 0) = false := by simp; omega
        obtain rfl : u = false := by rw [E.out]; simp; omega
        have H2 := Lib.hid h2
        clear E ho h4 h2
        go_enter Try.func51, Try.ntmps51
        go_wp2
        go_ret
        exact ⟨rfl, rfl⟩
      · have h5 : (x.tmod 2 != 0) = true := by simp; omega
        obtain rfl : u = true := by rw [E.out]; simp; omega
        have H2 := Lib.hid h2
        clear E ho h4 h2
        go_enter Try.func51, Try.ntmps51
        go_wp2
        go_ret
        exact ⟨rfl, rfl⟩
    · have h3 : (y == 0) = false := by simpa using h2
      obtain rfl : u = false := by rw [E.out]; simp; omega
      clear E ho
      go_enter Try.func51, Try.ntmps51
      go_wp2
      go_ret
      exact ⟨rfl, rfl⟩
theorem split_td (n d : Int) (hd : 0 < d) : n.tdiv d * d + n.tmod d = n ∧ -d < n.tmod d ∧ n.tmod d < d ∧ (n.tmod d < 0 → n / d = n.tdiv d - 1 ∧ n % d = n.tmod d + d) ∧ (0 ≤ n.tmod d → n / d = n.tdiv d ∧ n % d = n.tmod d) := by
  have h1 := Int.mul_tdiv_add_tmod n d
  obtain ⟨h2, h3⟩ := tm_le n hd
  refine ⟨by rw [Int.mul_comm]; exact h1, h2, h3, fun h => ?_, fun h => ?_⟩
  · exact (Int.ediv_emod_unique hd).2 ⟨by rw [Int.mul_sub, Int.mul_one]; omega, by omega, by omega⟩
  · exact (Int.ediv_emod_unique hd).2 ⟨by omega, h, h3⟩
/-- one more than the number rounded down, or not -/
theorem ro_up (n d how : Int) (_ : 0 < d) (hw : 1 ≤ how) (hw4 : how ≤ 4) (u : Bool) (hu : u = if how = 1 then false else if how = 2 then true else if how = 3 then up3 (n / d) (cmpV (2 * (n % d)) d) else up4 (n / d) (cmpV (2 * (n % d)) d)) (h : n % d ≠ 0) :
    roV n d how = if u then n / d + 1 else n / d := by
  unfold roV
  subst hu
  have h5 : cmpV (2 * (n % d)) d = if 2 * (n % d) < d then -1 else if d < 2 * (n % d) then 1 else 0 := rfl
  rcases (show how = 1 ∨ how = 2 ∨ how = 3 ∨ how = 4 by omega) with rfl | rfl | rfl | rfl
  · rfl
  · simp [h]
  · simp only [show ¬ (3 : Int) = 1 by decide, show ¬ (3 : Int) = 2 by decide, if_false, if_true]
    unfold up3
    rw [h5]
    by_cases h6 : 2 * (n % d) < d
    · rw [if_pos h6, if_pos h6]; rfl
    · rw [if_neg h6, if_neg h6]; split <;> rfl
  · simp only [show ¬ (4 : Int) = 1 by decide, show ¬ (4 : Int) = 2 by decide, show ¬ (4 : Int) = 3 by decide, if_false]
    unfold up4
    rw [h5]
    by_cases h6 : 2 * (n % d) < d
    · rw [if_pos (.inl h6), if_pos h6]; rfl
    · rw [if_neg h6]
      by_cases h7 : d < 2 * (n % d)
      · rw [if_pos h7, if_neg (by omega)]; rfl
      · rw [if_neg h7]
        by_cases h8 : n / d % 2 = 0
        · rw [if_pos (.inr ⟨by omega, h8⟩)]; simp [h8]
        · rw [if_neg (by omega)]; simp [h8]
theorem ro_whole (n d how : Int) (hd : 0 < d) (h : n % d = 0) : roV n d how = n / d := by
  unfold roV; simp only [h]; split
  · rfl
  · split
    · rfl
    · split
      · rw [if_pos (by omega)]
      · rw [if_pos (.inl (by omega))]
set_option maxRecDepth 100000 in
set_option maxHeartbeats 2000000 in
theorem ro1n (n d q r : Int) (u : Bool) (hn : n.tdiv d = q) (hr : n.tmod d = r) (hd : 1 ≤ d) (hd2 : d ≤ 1152921504606846976) (q1 : -4611686018427387904 ≤ q) (q2 : q ≤ 4611686018427387904) (r1 : -d < r) (r2 : r < 0)
    (hu : up1 (q - 1) (cmpV (2 * (r + d)) d) = u) (w : World) :
    Calls Try.prog 42 #[.int .i64 n, .int .i64 d, .int .i64 1] w fun e w' => e = .returned (.int .i64 (if u then (q - 1) + 1 else (q - 1))) ∧ w.grownBy w' none := by
  have KC := Lib.hid (compare_k (2 * (r + d)) d)
  have KF := Lib.hid (way1 (q - 1) (cmpV (2 * (r + d)) d))
  rw [hu] at KF
  generalize cmpV (2 * (r + d)) d = c at *
  clear hu
  have hw9 : IntKind.i64.wrap (2 * (r + d)) = 2 * (r + d) := IntWalk.i64_in _ (by omega)
  have d0 : (d == 0) = false := by simp; omega
  have e1 : ((r + d) != 0) = true := by simp; omega
  have HN := Lib.hid hn
  have HR := Lib.hid hr
  clear hr hn
  obtain ⟨w1, hw1⟩ : ∃ w1, w1 = w.alloc (.cells #[Value.nilFunc, Value.func (Fn.func 48) #[] #[], Value.func (Fn.func 49) #[] #[], Value.func (Fn.func 50) #[] #[], Value.func (Fn.func 51) #[] #[]] 77) := ⟨_, rfl⟩
  have gg : w.grownBy w1 none := by rw [hw1]; exact World.grownBy_alloc w _ none
  have v1 : w1.cell? ⟨w.heap.size, 1, none⟩ = some (.func (.func 48) #[] #[]) := by rw [hw1]; exact (cell_at rfl).trans rfl
  have H0 := Lib.hid hw1
  clear hw1
  go_enter Try.func42, Try.ntmps42
  go_wp2_with fail
  rw [← H0.out]
  have hq := HN.out
  have hr := HR.out
  go_quiet (fail)
  clear hq hr
  go_wp2_with fail
  refine wp_region_noPanic ?_
  refine wp_region_held_drew (S := (fun w' => w1.grownBy w' none)) (by kernel_rfl) ?_ (fun hHeld => ?_)
  · (try dsimp only); (repeat (first | assumption | exact grown_refl _ | refine grown_dr ?_ | refine grown_dn ?_ | refine grown_al ?_))
  refine wpAnyH_take (i := 0) (oi := _) (v := ?_) rfl (by kernel_rfl) (by kernel_rfl) (by kernel_rfl) (fun _ _ _ h => h) (Or.inl ⟨by rfl, ?_⟩) (by assumption) ?_
  rotate_left 1
  · (intro w hSw; (try dsimp only at hSw); go_simp; first | done | with_reducible rfl)
  try go_simp
  refine wpAnyH_take (i := 1) (oi := _) (v := .bool true) rfl (by kernel_rfl) (by kernel_rfl) (by kernel_rfl) (fun _ _ _ h => h) (Or.inl ⟨by kernel_rfl, ?_⟩) (by assumption) ?_
  · (intro w hSw; (try dsimp only at hSw); go_simp; first | done | with_reducible rfl)
  try go_simp
  refine wpAnyH_take (i := 2) (oi := _) (v := ?_) rfl (by kernel_rfl) (by kernel_rfl) (by kernel_rfl) (fun _ _ _ h => h) (Or.inl ⟨by rfl, ?_⟩) (by assumption) ?_
  rotate_left 1
  · (intro w hSw; (try dsimp only at hSw); go_simp; first | done | with_reducible rfl)
  try go_simp
  refine wpAnyH_take (i := 3) (oi := _) (v := ?_) rfl (by kernel_rfl) (by kernel_rfl) (by kernel_rfl) (fun _ _ _ h => h) (Or.inl ⟨by kernel_rfl, ?_⟩) (by assumption) ?_
  rotate_left 1
  · (intro w hSw; (try dsimp only at hSw); go_simp; first | done | with_reducible rfl)
  try go_simp
  refine wpAnyH_take (i := 4) (oi := _) (v := ?_) rfl (by kernel_rfl) (by kernel_rfl) (by kernel_rfl) (fun _ _ _ h => h) (Or.inl ⟨by kernel_rfl, ?_⟩) (by assumption) ?_
  rotate_left 1
  · (intro w hSw; (try dsimp only at hSw); go_simp; first | done | with_reducible rfl)
  try go_simp
  refine wpAnyH_take (i := 5) (oi := _) (v := ?_) rfl (by kernel_rfl) (by kernel_rfl) (by kernel_rfl) (fun _ _ _ h => h) (Or.inl ⟨by kernel_rfl, ?_⟩) (by assumption) ?_
  rotate_left 1
  · (intro w hSw; (try dsimp only at hSw); go_simp; first | done | with_reducible rfl)
  try go_simp
  refine wpAnyH_take (i := 6) (oi := _) (v := .func (.func 48) #[] #[]) rfl (by kernel_rfl) (by kernel_rfl) (by kernel_rfl) (fun _ _ _ h => h) (Or.inl ⟨by kernel_rfl, ?_⟩) (by assumption) ?_
  · (intro w hSw; (try dsimp only at hSw); go_simp; have y := gcell hSw v1; clear hSw; go_simp; first | done | with_reducible rfl)
  try go_simp
  refine wpAnyH_take (i := 7) (oi := _) (v := ?_) rfl (by kernel_rfl) (by kernel_rfl) (by kernel_rfl) (fun _ _ _ h => h) (Or.inl ⟨by kernel_rfl, ?_⟩) (by assumption) ?_
  rotate_left 1
  · (intro w hSw; (try dsimp only at hSw); go_simp; first | done | with_reducible rfl)
  try go_simp
  refine wpAnyH_take (i := 8) (oi := _) (v := ?_) rfl (by kernel_rfl) (by kernel_rfl) (by kernel_rfl) (fun _ _ _ h => h) (Or.inl ⟨by kernel_rfl, ?_⟩) (by assumption) ?_
  rotate_left 1
  · (intro w hSw; (try dsimp only at hSw); go_simp; first | done | with_reducible rfl)
  try go_simp
  refine wpAnyH_take (i := 9) (oi := _) (v := ?_) rfl (by kernel_rfl) (by kernel_rfl) (by kernel_rfl) (fun _ _ _ h => h) (Or.inl ⟨by kernel_rfl, ?_⟩) (by assumption) ?_
  rotate_left 1
  · (intro w hSw; (try dsimp only at hSw); go_simp; first | done | with_reducible rfl)
  try go_simp
  refine wpAnyH_take (i := 10) (oi := _) (v := ?_) rfl (by kernel_rfl) (by kernel_rfl) (by kernel_rfl) (fun _ _ _ h => h) (Or.inl ⟨by kernel_rfl, ?_⟩) (by assumption) ?_
  rotate_left 1
  · (intro w hSw; (try dsimp only at hSw); go_simp; first | done | with_reducible rfl)
  try go_simp
  refine wpAnyH_ready (rs := [11]) (by kernel_rfl) (by simp) ?_
  refine AllReadyH.cons (o := _) rfl (fun K hK => ?_) AllReadyH.nil
  go_simp
  refine (KC.out _).mono ?_
  rintro e w2 ⟨rfl, rfl⟩
  first | (refine hK.out _ _ ?_ (fun hHeld => ?_)) | (go_wp2_with fail; refine hK.out _ _ ?_ (fun hHeld => ?_))
  · (try dsimp only); (repeat (first | assumption | exact grown_refl _ | refine grown_dr ?_ | refine grown_dn ?_ | refine grown_al ?_))
  clear hK K
  refine wpAnyH_ready (rs := [12]) (by kernel_rfl) (by simp) ?_
  refine AllReadyH.cons (o := _) rfl (fun K hK => ?_) AllReadyH.nil
  go_simp
  refine (KF.out _).mono ?_
  rintro e w2 ⟨rfl, rfl⟩
  first | (refine hK.out _ _ ?_ (fun hHeld => ?_)) | (go_wp2_with fail; refine hK.out _ _ ?_ (fun hHeld => ?_))
  · (try dsimp only); (repeat (first | assumption | exact grown_refl _ | refine grown_dr ?_ | refine grown_dn ?_ | refine grown_al ?_))
  clear hK K
  refine wpAnyH_take (i := 13) (oi := _) (v := ?_) rfl (by kernel_rfl) (by kernel_rfl) (by kernel_rfl) (fun _ _ _ h => h) (Or.inl ⟨by rfl, ?_⟩) (by assumption) ?_
  rotate_left 1
  · (intro w hSw; (try dsimp only at hSw); go_simp; first | done | with_reducible rfl)
  try go_simp
  refine wpAnyH_done (by kernel_rfl) ?_ _
  refine NoPanic.normal ?_
  go_simp
  cases u
  · go_wp2_with fail
    go_ret
    exact ⟨rfl, gg.trans hHeld⟩
  · go_wp2_with fail
    go_ret
    exact ⟨rfl, gg.trans hHeld⟩
set_option maxRecDepth 100000 in
set_option maxHeartbeats 2000000 in
theorem ro1p (n d q r : Int) (u : Bool) (hn : n.tdiv d = q) (hr : n.tmod d = r) (hd : 1 ≤ d) (hd2 : d ≤ 1152921504606846976) (q1 : -4611686018427387904 ≤ q) (q2 : q ≤ 4611686018427387904) (r1 : 0 < r) (r2 : r < d)
    (hu : up1 q (cmpV (2 * r) d) = u) (w : World) :
    Calls Try.prog 42 #[.int .i64 n, .int .i64 d, .int .i64 1] w fun e w' => e = .returned (.int .i64 (if u then q + 1 else q)) ∧ w.grownBy w' none := by
  have KC := Lib.hid (compare_k (2 * r) d)
  have KF := Lib.hid (way1 q (cmpV (2 * r) d))
  rw [hu] at KF
  generalize cmpV (2 * r) d = c at *
  clear hu
  have hw9 : IntKind.i64.wrap (2 * r) = 2 * r := IntWalk.i64_in _ (by omega)
  have d0 : (d == 0) = false := by simp; omega
  have e1 : (r != 0) = true := by simp; omega
  have HN := Lib.hid hn
  have HR := Lib.hid hr
  clear hr hn
  obtain ⟨w1, hw1⟩ : ∃ w1, w1 = w.alloc (.cells #[Value.nilFunc, Value.func (Fn.func 48) #[] #[], Value.func (Fn.func 49) #[] #[], Value.func (Fn.func 50) #[] #[], Value.func (Fn.func 51) #[] #[]] 77) := ⟨_, rfl⟩
  have gg : w.grownBy w1 none := by rw [hw1]; exact World.grownBy_alloc w _ none
  have v1 : w1.cell? ⟨w.heap.size, 1, none⟩ = some (.func (.func 48) #[] #[]) := by rw [hw1]; exact (cell_at rfl).trans rfl
  have H0 := Lib.hid hw1
  clear hw1
  go_enter Try.func42, Try.ntmps42
  go_wp2_with fail
  rw [← H0.out]
  have hq := HN.out
  have hr := HR.out
  go_quiet (fail)
  clear hq hr
  go_wp2_with fail
  refine wp_region_noPanic ?_
  refine wp_region_held_drew (S := (fun w' => w1.grownBy w' none)) (by kernel_rfl) ?_ (fun hHeld => ?_)
  · (try dsimp only); (repeat (first | assumption | exact grown_refl _ | refine grown_dr ?_ | refine grown_dn ?_ | refine grown_al ?_))
  refine wpAnyH_take (i := 0) (oi := _) (v := ?_) rfl (by kernel_rfl) (by kernel_rfl) (by kernel_rfl) (fun _ _ _ h => h) (Or.inl ⟨by rfl, ?_⟩) (by assumption) ?_
  rotate_left 1
  · (intro w hSw; (try dsimp only at hSw); go_simp; first | done | with_reducible rfl)
  try go_simp
  refine wpAnyH_take (i := 1) (oi := _) (v := .bool true) rfl (by kernel_rfl) (by kernel_rfl) (by kernel_rfl) (fun _ _ _ h => h) (Or.inl ⟨by kernel_rfl, ?_⟩) (by assumption) ?_
  · (intro w hSw; (try dsimp only at hSw); go_simp; first | done | with_reducible rfl)
  try go_simp
  refine wpAnyH_take (i := 2) (oi := _) (v := ?_) rfl (by kernel_rfl) (by kernel_rfl) (by kernel_rfl) (fun _ _ _ h => h) (Or.inl ⟨by rfl, ?_⟩) (by assumption) ?_
  rotate_left 1
  · (intro w hSw; (try dsimp only at hSw); go_simp; first | done | with_reducible rfl)
  try go_simp
  refine wpAnyH_take (i := 3) (oi := _) (v := ?_) rfl (by kernel_rfl) (by kernel_rfl) (by kernel_rfl) (fun _ _ _ h => h) (Or.inl ⟨by kernel_rfl, ?_⟩) (by assumption) ?_
  rotate_left 1
  · (intro w hSw; (try dsimp only at hSw); go_simp; first | done | with_reducible rfl)
  try go_simp
  refine wpAnyH_take (i := 4) (oi := _) (v := ?_) rfl (by kernel_rfl) (by kernel_rfl) (by kernel_rfl) (fun _ _ _ h => h) (Or.inl ⟨by kernel_rfl, ?_⟩) (by assumption) ?_
  rotate_left 1
  · (intro w hSw; (try dsimp only at hSw); go_simp; first | done | with_reducible rfl)
  try go_simp
  refine wpAnyH_take (i := 5) (oi := _) (v := ?_) rfl (by kernel_rfl) (by kernel_rfl) (by kernel_rfl) (fun _ _ _ h => h) (Or.inl ⟨by kernel_rfl, ?_⟩) (by assumption) ?_
  rotate_left 1
  · (intro w hSw; (try dsimp only at hSw); go_simp; first | done | with_reducible rfl)
  try go_simp
  refine wpAnyH_take (i := 6) (oi := _) (v := .func (.func 48) #[] #[]) rfl (by kernel_rfl) (by kernel_rfl) (by kernel_rfl) (fun _ _ _ h => h) (Or.inl ⟨by kernel_rfl, ?_⟩) (by assumption) ?_
  · (intro w hSw; (try dsimp only at hSw); go_simp; have y := gcell hSw v1; clear hSw; go_simp; first | done | with_reducible rfl)
  try go_simp
  refine wpAnyH_take (i := 7) (oi := _) (v := ?_) rfl (by kernel_rfl) (by kernel_rfl) (by kernel_rfl) (fun _ _ _ h => h) (Or.inl ⟨by kernel_rfl, ?_⟩) (by assumption) ?_
  rotate_left 1
  · (intro w hSw; (try dsimp only at hSw); go_simp; first | done | with_reducible rfl)
  try go_simp
  refine wpAnyH_take (i := 8) (oi := _) (v := ?_) rfl (by kernel_rfl) (by kernel_rfl) (by kernel_rfl) (fun _ _ _ h => h) (Or.inl ⟨by kernel_rfl, ?_⟩) (by assumption) ?_
  rotate_left 1
  · (intro w hSw; (try dsimp only at hSw); go_simp; first | done | with_reducible rfl)
  try go_simp
  refine wpAnyH_take (i := 9) (oi := _) (v := ?_) rfl (by kernel_rfl) (by kernel_rfl) (by kernel_rfl) (fun _ _ _ h => h) (Or.inl ⟨by kernel_rfl, ?_⟩) (by assumption) ?_
  rotate_left 1
  · (intro w hSw; (try dsimp only at hSw); go_simp; first | done | with_reducible rfl)
  try go_simp
  refine wpAnyH_take (i := 10) (oi := _) (v := ?_) rfl (by kernel_rfl) (by kernel_rfl) (by kernel_rfl) (fun _ _ _ h => h) (Or.inl ⟨by kernel_rfl, ?_⟩) (by assumption) ?_
  rotate_left 1
  · (intro w hSw; (try dsimp only at hSw); go_simp; first | done | with_reducible rfl)
  try go_simp
  refine wpAnyH_ready (rs := [11]) (by kernel_rfl) (by simp) ?_
  refine AllReadyH.cons (o := _) rfl (fun K hK => ?_) AllReadyH.nil
  go_simp
  refine (KC.out _).mono ?_
  rintro e w2 ⟨rfl, rfl⟩
  first | (refine hK.out _ _ ?_ (fun hHeld => ?_)) | (go_wp2_with fail; refine hK.out _ _ ?_ (fun hHeld => ?_))
  · (try dsimp only); (repeat (first | assumption | exact grown_refl _ | refine grown_dr ?_ | refine grown_dn ?_ | refine grown_al ?_))
  clear hK K
  refine wpAnyH_ready (rs := [12]) (by kernel_rfl) (by simp) ?_
  refine AllReadyH.cons (o := _) rfl (fun K hK => ?_) AllReadyH.nil
  go_simp
  refine (KF.out _).mono ?_
  rintro e w2 ⟨rfl, rfl⟩
  first | (refine hK.out _ _ ?_ (fun hHeld => ?_)) | (go_wp2_with fail; refine hK.out _ _ ?_ (fun hHeld => ?_))
  · (try dsimp only); (repeat (first | assumption | exact grown_refl _ | refine grown_dr ?_ | refine grown_dn ?_ | refine grown_al ?_))
  clear hK K
  refine wpAnyH_take (i := 13) (oi := _) (v := ?_) rfl (by kernel_rfl) (by kernel_rfl) (by kernel_rfl) (fun _ _ _ h => h) (Or.inl ⟨by rfl, ?_⟩) (by assumption) ?_
  rotate_left 1
  · (intro w hSw; (try dsimp only at hSw); go_simp; first | done | with_reducible rfl)
  try go_simp
  refine wpAnyH_done (by kernel_rfl) ?_ _
  refine NoPanic.normal ?_
  go_simp
  cases u
  · go_wp2_with fail
    go_ret
    exact ⟨rfl, gg.trans hHeld⟩
  · go_wp2_with fail
    go_ret
    exact ⟨rfl, gg.trans hHeld⟩
set_option maxRecDepth 100000 in
set_option maxHeartbeats 2000000 in
theorem ro2n (n d q r : Int) (u : Bool) (hn : n.tdiv d = q) (hr : n.tmod d = r) (hd : 1 ≤ d) (hd2 : d ≤ 1152921504606846976) (q1 : -4611686018427387904 ≤ q) (q2 : q ≤ 4611686018427387904) (r1 : -d < r) (r2 : r < 0)
    (hu : up2 (q - 1) (cmpV (2 * (r + d)) d) = u) (w : World) :
    Calls Try.prog 42 #[.int .i64 n, .int .i64 d, .int .i64 2] w fun e w' => e = .returned (.int .i64 (if u then (q - 1) + 1 else (q - 1))) ∧ w.grownBy w' none := by
  have KC := Lib.hid (compare_k (2 * (r + d)) d)
  have KF := Lib.hid (way2 (q - 1) (cmpV (2 * (r + d)) d))
  rw [hu] at KF
  generalize cmpV (2 * (r + d)) d = c at *
  clear hu
  have hw9 : IntKind.i64.wrap (2 * (r + d)) = 2 * (r + d) := IntWalk.i64_in _ (by omega)
  have d0 : (d == 0) = false := by simp; omega
  have e1 : ((r + d) != 0) = true := by simp; omega
  have HN := Lib.hid hn
  have HR := Lib.hid hr
  clear hr hn
  obtain ⟨w1, hw1⟩ : ∃ w1, w1 = w.alloc (.cells #[Value.nilFunc, Value.func (Fn.func 48) #[] #[], Value.func (Fn.func 49) #[] #[], Value.func (Fn.func 50) #[] #[], Value.func (Fn.func 51) #[] #[]] 77) := ⟨_, rfl⟩
  have gg : w.grownBy w1 none := by rw [hw1]; exact World.grownBy_alloc w _ none
  have v1 : w1.cell? ⟨w.heap.size, 2, none⟩ = some (.func (.func 49) #[] #[]) := by rw [hw1]; exact (cell_at rfl).trans rfl
  have H0 := Lib.hid hw1
  clear hw1
  go_enter Try.func42, Try.ntmps42
  go_wp2_with fail
  rw [← H0.out]
  have hq := HN.out
  have hr := HR.out
  go_quiet (fail)
  clear hq hr
  go_wp2_with fail
  refine wp_region_noPanic ?_
  refine wp_region_held_drew (S := (fun w' => w1.grownBy w' none)) (by kernel_rfl) ?_ (fun hHeld => ?_)
  · (try dsimp only); (repeat (first | assumption | exact grown_refl _ | refine grown_dr ?_ | refine grown_dn ?_ | refine grown_al ?_))
  refine wpAnyH_take (i := 0) (oi := _) (v := ?_) rfl (by kernel_rfl) (by kernel_rfl) (by kernel_rfl) (fun _ _ _ h => h) (Or.inl ⟨by rfl, ?_⟩) (by assumption) ?_
  rotate_left 1
  · (intro w hSw; (try dsimp only at hSw); go_simp; first | done | with_reducible rfl)
  try go_simp
  refine wpAnyH_take (i := 1) (oi := _) (v := .bool true) rfl (by kernel_rfl) (by kernel_rfl) (by kernel_rfl) (fun _ _ _ h => h) (Or.inl ⟨by kernel_rfl, ?_⟩) (by assumption) ?_
  · (intro w hSw; (try dsimp only at hSw); go_simp; first | done | with_reducible rfl)
  try go_simp
  refine wpAnyH_take (i := 2) (oi := _) (v := ?_) rfl (by kernel_rfl) (by kernel_rfl) (by kernel_rfl) (fun _ _ _ h => h) (Or.inl ⟨by rfl, ?_⟩) (by assumption) ?_
  rotate_left 1
  · (intro w hSw; (try dsimp only at hSw); go_simp; first | done | with_reducible rfl)
  try go_simp
  refine wpAnyH_take (i := 3) (oi := _) (v := ?_) rfl (by kernel_rfl) (by kernel_rfl) (by kernel_rfl) (fun _ _ _ h => h) (Or.inl ⟨by kernel_rfl, ?_⟩) (by assumption) ?_
  rotate_left 1
  · (intro w hSw; (try dsimp only at hSw); go_simp; first | done | with_reducible rfl)
  try go_simp
  refine wpAnyH_take (i := 4) (oi := _) (v := ?_) rfl (by kernel_rfl) (by kernel_rfl) (by kernel_rfl) (fun _ _ _ h => h) (Or.inl ⟨by kernel_rfl, ?_⟩) (by assumption) ?_
  rotate_left 1
  · (intro w hSw; (try dsimp only at hSw); go_simp; first | done | with_reducible rfl)
  try go_simp
  refine wpAnyH_take (i := 5) (oi := _) (v := ?_) rfl (by kernel_rfl) (by kernel_rfl) (by kernel_rfl) (fun _ _ _ h => h) (Or.inl ⟨by kernel_rfl, ?_⟩) (by assumption) ?_
  rotate_left 1
  · (intro w hSw; (try dsimp only at hSw); go_simp; first | done | with_reducible rfl)
  try go_simp
  refine wpAnyH_take (i := 6) (oi := _) (v := .func (.func 49) #[] #[]) rfl (by kernel_rfl) (by kernel_rfl) (by kernel_rfl) (fun _ _ _ h => h) (Or.inl ⟨by kernel_rfl, ?_⟩) (by assumption) ?_
  · (intro w hSw; (try dsimp only at hSw); go_simp; have y := gcell hSw v1; clear hSw; go_simp; first | done | with_reducible rfl)
  try go_simp
  refine wpAnyH_take (i := 7) (oi := _) (v := ?_) rfl (by kernel_rfl) (by kernel_rfl) (by kernel_rfl) (fun _ _ _ h => h) (Or.inl ⟨by kernel_rfl, ?_⟩) (by assumption) ?_
  rotate_left 1
  · (intro w hSw; (try dsimp only at hSw); go_simp; first | done | with_reducible rfl)
  try go_simp
  refine wpAnyH_take (i := 8) (oi := _) (v := ?_) rfl (by kernel_rfl) (by kernel_rfl) (by kernel_rfl) (fun _ _ _ h => h) (Or.inl ⟨by kernel_rfl, ?_⟩) (by assumption) ?_
  rotate_left 1
  · (intro w hSw; (try dsimp only at hSw); go_simp; first | done | with_reducible rfl)
  try go_simp
  refine wpAnyH_take (i := 9) (oi := _) (v := ?_) rfl (by kernel_rfl) (by kernel_rfl) (by kernel_rfl) (fun _ _ _ h => h) (Or.inl ⟨by kernel_rfl, ?_⟩) (by assumption) ?_
  rotate_left 1
  · (intro w hSw; (try dsimp only at hSw); go_simp; first | done | with_reducible rfl)
  try go_simp
  refine wpAnyH_take (i := 10) (oi := _) (v := ?_) rfl (by kernel_rfl) (by kernel_rfl) (by kernel_rfl) (fun _ _ _ h => h) (Or.inl ⟨by kernel_rfl, ?_⟩) (by assumption) ?_
  rotate_left 1
  · (intro w hSw; (try dsimp only at hSw); go_simp; first | done | with_reducible rfl)
  try go_simp
  refine wpAnyH_ready (rs := [11]) (by kernel_rfl) (by simp) ?_
  refine AllReadyH.cons (o := _) rfl (fun K hK => ?_) AllReadyH.nil
  go_simp
  refine (KC.out _).mono ?_
  rintro e w2 ⟨rfl, rfl⟩
  first | (refine hK.out _ _ ?_ (fun hHeld => ?_)) | (go_wp2_with fail; refine hK.out _ _ ?_ (fun hHeld => ?_))
  · (try dsimp only); (repeat (first | assumption | exact grown_refl _ | refine grown_dr ?_ | refine grown_dn ?_ | refine grown_al ?_))
  clear hK K
  refine wpAnyH_ready (rs := [12]) (by kernel_rfl) (by simp) ?_
  refine AllReadyH.cons (o := _) rfl (fun K hK => ?_) AllReadyH.nil
  go_simp
  refine (KF.out _).mono ?_
  rintro e w2 ⟨rfl, rfl⟩
  first | (refine hK.out _ _ ?_ (fun hHeld => ?_)) | (go_wp2_with fail; refine hK.out _ _ ?_ (fun hHeld => ?_))
  · (try dsimp only); (repeat (first | assumption | exact grown_refl _ | refine grown_dr ?_ | refine grown_dn ?_ | refine grown_al ?_))
  clear hK K
  refine wpAnyH_take (i := 13) (oi := _) (v := ?_) rfl (by kernel_rfl) (by kernel_rfl) (by kernel_rfl) (fun _ _ _ h => h) (Or.inl ⟨by rfl, ?_⟩) (by assumption) ?_
  rotate_left 1
  · (intro w hSw; (try dsimp only at hSw); go_simp; first | done | with_reducible rfl)
  try go_simp
  refine wpAnyH_done (by kernel_rfl) ?_ _
  refine NoPanic.normal ?_
  go_simp
  cases u
  · go_wp2_with fail
    go_ret
    exact ⟨rfl, gg.trans hHeld⟩
  · go_wp2_with fail
    go_ret
    exact ⟨rfl, gg.trans hHeld⟩
set_option maxRecDepth 100000 in
set_option maxHeartbeats 2000000 in
theorem ro2p (n d q r : Int) (u : Bool) (hn : n.tdiv d = q) (hr : n.tmod d = r) (hd : 1 ≤ d) (hd2 : d ≤ 1152921504606846976) (q1 : -4611686018427387904 ≤ q) (q2 : q ≤ 4611686018427387904) (r1 : 0 < r) (r2 : r < d)
    (hu : up2 q (cmpV (2 * r) d) = u) (w : World) :
    Calls Try.prog 42 #[.int .i64 n, .int .i64 d, .int .i64 2] w fun e w' => e = .returned (.int .i64 (if u then q + 1 else q)) ∧ w.grownBy w' none := by
  have KC := Lib.hid (compare_k (2 * r) d)
  have KF := Lib.hid (way2 q (cmpV (2 * r) d))
  rw [hu] at KF
  generalize cmpV (2 * r) d = c at *
  clear hu
  have hw9 : IntKind.i64.wrap (2 * r) = 2 * r := IntWalk.i64_in _ (by omega)
  have d0 : (d == 0) = false := by simp; omega
  have e1 : (r != 0) = true := by simp; omega
  have HN := Lib.hid hn
  have HR := Lib.hid hr
  clear hr hn
  obtain ⟨w1, hw1⟩ : ∃ w1, w1 = w.alloc (.cells #[Value.nilFunc, Value.func (Fn.func 48) #[] #[], Value.func (Fn.func 49) #[] #[], Value.func (Fn.func 50) #[] #[], Value.func (Fn.func 51) #[] #[]] 77) := ⟨_, rfl⟩
  have gg : w.grownBy w1 none := by rw [hw1]; exact World.grownBy_alloc w _ none
  have v1 : w1.cell? ⟨w.heap.size, 2, none⟩ = some (.func (.func 49) #[] #[]) := by rw [hw1]; exact (cell_at rfl).trans rfl
  have H0 := Lib.hid hw1
  clear hw1
  go_enter Try.func42, Try.ntmps42
  go_wp2_with fail
  rw [← H0.out]
  have hq := HN.out
  have hr := HR.out
  go_quiet (fail)
  clear hq hr
  go_wp2_with fail
  refine wp_region_noPanic ?_
  refine wp_region_held_drew (S := (fun w' => w1.grownBy w' none)) (by kernel_rfl) ?_ (fun hHeld => ?_)
  · (try dsimp only); (repeat (first | assumption | exact grown_refl _ | refine grown_dr ?_ | refine grown_dn ?_ | refine grown_al ?_))
  refine wpAnyH_take (i := 0) (oi := _) (v := ?_) rfl (by kernel_rfl) (by kernel_rfl) (by kernel_rfl) (fun _ _ _ h => h) (Or.inl ⟨by rfl, ?_⟩) (by assumption) ?_
  rotate_left 1
  · (intro w hSw; (try dsimp only at hSw); go_simp; first | done | with_reducible rfl)
  try go_simp
  refine wpAnyH_take (i := 1) (oi := _) (v := .bool true) rfl (by kernel_rfl) (by kernel_rfl) (by kernel_rfl) (fun _ _ _ h => h) (Or.inl ⟨by kernel_rfl, ?_⟩) (by assumption) ?_
  · (intro w hSw; (try dsimp only at hSw); go_simp; first | done | with_reducible rfl)
  try go_simp
  refine wpAnyH_take (i := 2) (oi := _) (v := ?_) rfl (by kernel_rfl) (by kernel_rfl) (by kernel_rfl) (fun _ _ _ h => h) (Or.inl ⟨by rfl, ?_⟩) (by assumption) ?_
  rotate_left 1
  · (intro w hSw; (try dsimp only at hSw); go_simp; first | done | with_reducible rfl)
  try go_simp
  refine wpAnyH_take (i := 3) (oi := _) (v := ?_) rfl (by kernel_rfl) (by kernel_rfl) (by kernel_rfl) (fun _ _ _ h => h) (Or.inl ⟨by kernel_rfl, ?_⟩) (by assumption) ?_
  rotate_left 1
  · (intro w hSw; (try dsimp only at hSw); go_simp; first | done | with_reducible rfl)
  try go_simp
  refine wpAnyH_take (i := 4) (oi := _) (v := ?_) rfl (by kernel_rfl) (by kernel_rfl) (by kernel_rfl) (fun _ _ _ h => h) (Or.inl ⟨by kernel_rfl, ?_⟩) (by assumption) ?_
  rotate_left 1
  · (intro w hSw; (try dsimp only at hSw); go_simp; first | done | with_reducible rfl)
  try go_simp
  refine wpAnyH_take (i := 5) (oi := _) (v := ?_) rfl (by kernel_rfl) (by kernel_rfl) (by kernel_rfl) (fun _ _ _ h => h) (Or.inl ⟨by kernel_rfl, ?_⟩) (by assumption) ?_
  rotate_left 1
  · (intro w hSw; (try dsimp only at hSw); go_simp; first | done | with_reducible rfl)
  try go_simp
  refine wpAnyH_take (i := 6) (oi := _) (v := .func (.func 49) #[] #[]) rfl (by kernel_rfl) (by kernel_rfl) (by kernel_rfl) (fun _ _ _ h => h) (Or.inl ⟨by kernel_rfl, ?_⟩) (by assumption) ?_
  · (intro w hSw; (try dsimp only at hSw); go_simp; have y := gcell hSw v1; clear hSw; go_simp; first | done | with_reducible rfl)
  try go_simp
  refine wpAnyH_take (i := 7) (oi := _) (v := ?_) rfl (by kernel_rfl) (by kernel_rfl) (by kernel_rfl) (fun _ _ _ h => h) (Or.inl ⟨by kernel_rfl, ?_⟩) (by assumption) ?_
  rotate_left 1
  · (intro w hSw; (try dsimp only at hSw); go_simp; first | done | with_reducible rfl)
  try go_simp
  refine wpAnyH_take (i := 8) (oi := _) (v := ?_) rfl (by kernel_rfl) (by kernel_rfl) (by kernel_rfl) (fun _ _ _ h => h) (Or.inl ⟨by kernel_rfl, ?_⟩) (by assumption) ?_
  rotate_left 1
  · (intro w hSw; (try dsimp only at hSw); go_simp; first | done | with_reducible rfl)
  try go_simp
  refine wpAnyH_take (i := 9) (oi := _) (v := ?_) rfl (by kernel_rfl) (by kernel_rfl) (by kernel_rfl) (fun _ _ _ h => h) (Or.inl ⟨by kernel_rfl, ?_⟩) (by assumption) ?_
  rotate_left 1
  · (intro w hSw; (try dsimp only at hSw); go_simp; first | done | with_reducible rfl)
  try go_simp
  refine wpAnyH_take (i := 10) (oi := _) (v := ?_) rfl (by kernel_rfl) (by kernel_rfl) (by kernel_rfl) (fun _ _ _ h => h) (Or.inl ⟨by kernel_rfl, ?_⟩) (by assumption) ?_
  rotate_left 1
  · (intro w hSw; (try dsimp only at hSw); go_simp; first | done | with_reducible rfl)
  try go_simp
  refine wpAnyH_ready (rs := [11]) (by kernel_rfl) (by simp) ?_
  refine AllReadyH.cons (o := _) rfl (fun K hK => ?_) AllReadyH.nil
  go_simp
  refine (KC.out _).mono ?_
  rintro e w2 ⟨rfl, rfl⟩
  first | (refine hK.out _ _ ?_ (fun hHeld => ?_)) | (go_wp2_with fail; refine hK.out _ _ ?_ (fun hHeld => ?_))
  · (try dsimp only); (repeat (first | assumption | exact grown_refl _ | refine grown_dr ?_ | refine grown_dn ?_ | refine grown_al ?_))
  clear hK K
  refine wpAnyH_ready (rs := [12]) (by kernel_rfl) (by simp) ?_
  refine AllReadyH.cons (o := _) rfl (fun K hK => ?_) AllReadyH.nil
  go_simp
  refine (KF.out _).mono ?_
  rintro e w2 ⟨rfl, rfl⟩
  first | (refine hK.out _ _ ?_ (fun hHeld => ?_)) | (go_wp2_with fail; refine hK.out _ _ ?_ (fun hHeld => ?_))
  · (try dsimp only); (repeat (first | assumption | exact grown_refl _ | refine grown_dr ?_ | refine grown_dn ?_ | refine grown_al ?_))
  clear hK K
  refine wpAnyH_take (i := 13) (oi := _) (v := ?_) rfl (by kernel_rfl) (by kernel_rfl) (by kernel_rfl) (fun _ _ _ h => h) (Or.inl ⟨by rfl, ?_⟩) (by assumption) ?_
  rotate_left 1
  · (intro w hSw; (try dsimp only at hSw); go_simp; first | done | with_reducible rfl)
  try go_simp
  refine wpAnyH_done (by kernel_rfl) ?_ _
  refine NoPanic.normal ?_
  go_simp
  cases u
  · go_wp2_with fail
    go_ret
    exact ⟨rfl, gg.trans hHeld⟩
  · go_wp2_with fail
    go_ret
    exact ⟨rfl, gg.trans hHeld⟩
set_option maxRecDepth 100000 in
set_option maxHeartbeats 2000000 in
theorem ro3n (n d q r : Int) (u : Bool) (hn : n.tdiv d = q) (hr : n.tmod d = r) (hd : 1 ≤ d) (hd2 : d ≤ 1152921504606846976) (q1 : -4611686018427387904 ≤ q) (q2 : q ≤ 4611686018427387904) (r1 : -d < r) (r2 : r < 0)
    (hu : up3 (q - 1) (cmpV (2 * (r + d)) d) = u) (w : World) :
    Calls Try.prog 42 #[.int .i64 n, .int .i64 d, .int .i64 3] w fun e w' => e = .returned (.int .i64 (if u then (q - 1) + 1 else (q - 1))) ∧ w.grownBy w' none := by
  have KC := Lib.hid (compare_k (2 * (r + d)) d)
  have KF := Lib.hid (way3 (q - 1) (cmpV (2 * (r + d)) d))
  rw [hu] at KF
  generalize cmpV (2 * (r + d)) d = c at *
  clear hu
  have hw9 : IntKind.i64.wrap (2 * (r + d)) = 2 * (r + d) := IntWalk.i64_in _ (by omega)
  have d0 : (d == 0) = false := by simp; omega
  have e1 : ((r + d) != 0) = true := by simp; omega
  have HN := Lib.hid hn
  have HR := Lib.hid hr
  clear hr hn
  obtain ⟨w1, hw1⟩ : ∃ w1, w1 = w.alloc (.cells #[Value.nilFunc, Value.func (Fn.func 48) #[] #[], Value.func (Fn.func 49) #[] #[], Value.func (Fn.func 50) #[] #[], Value.func (Fn.func 51) #[] #[]] 77) := ⟨_, rfl⟩
  have gg : w.grownBy w1 none := by rw [hw1]; exact World.grownBy_alloc w _ none
  have v1 : w1.cell? ⟨w.heap.size, 3, none⟩ = some (.func (.func 50) #[] #[]) := by rw [hw1]; exact (cell_at rfl).trans rfl
  have H0 := Lib.hid hw1
  clear hw1
  go_enter Try.func42, Try.ntmps42
  go_wp2_with fail
  rw [← H0.out]
  have hq := HN.out
  have hr := HR.out
  go_quiet (fail)
  clear hq hr
  go_wp2_with fail
  refine wp_region_noPanic ?_
  refine wp_region_held_drew (S := (fun w' => w1.grownBy w' none)) (by kernel_rfl) ?_ (fun hHeld => ?_)
  · (try dsimp only); (repeat (first | assumption | exact grown_refl _ | refine grown_dr ?_ | refine grown_dn ?_ | refine grown_al ?_))
  refine wpAnyH_take (i := 0) (oi := _) (v := ?_) rfl (by kernel_rfl) (by kernel_rfl) (by kernel_rfl) (fun _ _ _ h => h) (Or.inl ⟨by rfl, ?_⟩) (by assumption) ?_
  rotate_left 1
  · (intro w hSw; (try dsimp only at hSw); go_simp; first | done | with_reducible rfl)
  try go_simp
  refine wpAnyH_take (i := 1) (oi := _) (v := .bool true) rfl (by kernel_rfl) (by kernel_rfl) (by kernel_rfl) (fun _ _ _ h => h) (Or.inl ⟨by kernel_rfl, ?_⟩) (by assumption) ?_
  · (intro w hSw; (try dsimp only at hSw); go_simp; first | done | with_reducible rfl)
  try go_simp
  refine wpAnyH_take (i := 2) (oi := _) (v := ?_) rfl (by kernel_rfl) (by kernel_rfl) (by kernel_rfl) (fun _ _ _ h => h) (Or.inl ⟨by rfl, ?_⟩) (by assumption) ?_
  rotate_left 1
  · (intro w hSw; (try dsimp only at hSw); go_simp; first | done | with_reducible rfl)
  try go_simp
  refine wpAnyH_take (i := 3) (oi := _) (v := ?_) rfl (by kernel_rfl) (by kernel_rfl) (by kernel_rfl) (fun _ _ _ h => h) (Or.inl ⟨by kernel_rfl, ?_⟩) (by assumption) ?_
  rotate_left 1
  · (intro w hSw; (try dsimp only at hSw); go_simp; first | done | with_reducible rfl)
  try go_simp
  refine wpAnyH_take (i := 4) (oi := _) (v := ?_) rfl (by kernel_rfl) (by kernel_rfl) (by kernel_rfl) (fun _ _ _ h => h) (Or.inl ⟨by kernel_rfl, ?_⟩) (by assumption) ?_
  rotate_left 1
  · (intro w hSw; (try dsimp only at hSw); go_simp; first | done | with_reducible rfl)
  try go_simp
  refine wpAnyH_take (i := 5) (oi := _) (v := ?_) rfl (by kernel_rfl) (by kernel_rfl) (by kernel_rfl) (fun _ _ _ h => h) (Or.inl ⟨by kernel_rfl, ?_⟩) (by assumption) ?_
  rotate_left 1
  · (intro w hSw; (try dsimp only at hSw); go_simp; first | done | with_reducible rfl)
  try go_simp
  refine wpAnyH_take (i := 6) (oi := _) (v := .func (.func 50) #[] #[]) rfl (by kernel_rfl) (by kernel_rfl) (by kernel_rfl) (fun _ _ _ h => h) (Or.inl ⟨by kernel_rfl, ?_⟩) (by assumption) ?_
  · (intro w hSw; (try dsimp only at hSw); go_simp; have y := gcell hSw v1; clear hSw; go_simp; first | done | with_reducible rfl)
  try go_simp
  refine wpAnyH_take (i := 7) (oi := _) (v := ?_) rfl (by kernel_rfl) (by kernel_rfl) (by kernel_rfl) (fun _ _ _ h => h) (Or.inl ⟨by kernel_rfl, ?_⟩) (by assumption) ?_
  rotate_left 1
  · (intro w hSw; (try dsimp only at hSw); go_simp; first | done | with_reducible rfl)
  try go_simp
  refine wpAnyH_take (i := 8) (oi := _) (v := ?_) rfl (by kernel_rfl) (by kernel_rfl) (by kernel_rfl) (fun _ _ _ h => h) (Or.inl ⟨by kernel_rfl, ?_⟩) (by assumption) ?_
  rotate_left 1
  · (intro w hSw; (try dsimp only at hSw); go_simp; first | done | with_reducible rfl)
  try go_simp
  refine wpAnyH_take (i := 9) (oi := _) (v := ?_) rfl (by kernel_rfl) (by kernel_rfl) (by kernel_rfl) (fun _ _ _ h => h) (Or.inl ⟨by kernel_rfl, ?_⟩) (by assumption) ?_
  rotate_left 1
  · (intro w hSw; (try dsimp only at hSw); go_simp; first | done | with_reducible rfl)
  try go_simp
  refine wpAnyH_take (i := 10) (oi := _) (v := ?_) rfl (by kernel_rfl) (by kernel_rfl) (by kernel_rfl) (fun _ _ _ h => h) (Or.inl ⟨by kernel_rfl, ?_⟩) (by assumption) ?_
  rotate_left 1
  · (intro w hSw; (try dsimp only at hSw); go_simp; first | done | with_reducible rfl)
  try go_simp
  refine wpAnyH_ready (rs := [11]) (by kernel_rfl) (by simp) ?_
  refine AllReadyH.cons (o := _) rfl (fun K hK => ?_) AllReadyH.nil
  go_simp
  refine (KC.out _).mono ?_
  rintro e w2 ⟨rfl, rfl⟩
  first | (refine hK.out _ _ ?_ (fun hHeld => ?_)) | (go_wp2_with fail; refine hK.out _ _ ?_ (fun hHeld => ?_))
  · (try dsimp only); (repeat (first | assumption | exact grown_refl _ | refine grown_dr ?_ | refine grown_dn ?_ | refine grown_al ?_))
  clear hK K
  refine wpAnyH_ready (rs := [12]) (by kernel_rfl) (by simp) ?_
  refine AllReadyH.cons (o := _) rfl (fun K hK => ?_) AllReadyH.nil
  go_simp
  refine (KF.out _).mono ?_
  rintro e w2 ⟨rfl, rfl⟩
  first | (refine hK.out _ _ ?_ (fun hHeld => ?_)) | (go_wp2_with fail; refine hK.out _ _ ?_ (fun hHeld => ?_))
  · (try dsimp only); (repeat (first | assumption | exact grown_refl _ | refine grown_dr ?_ | refine grown_dn ?_ | refine grown_al ?_))
  clear hK K
  refine wpAnyH_take (i := 13) (oi := _) (v := ?_) rfl (by kernel_rfl) (by kernel_rfl) (by kernel_rfl) (fun _ _ _ h => h) (Or.inl ⟨by rfl, ?_⟩) (by assumption) ?_
  rotate_left 1
  · (intro w hSw; (try dsimp only at hSw); go_simp; first | done | with_reducible rfl)
  try go_simp
  refine wpAnyH_done (by kernel_rfl) ?_ _
  refine NoPanic.normal ?_
  go_simp
  cases u
  · go_wp2_with fail
    go_ret
    exact ⟨rfl, gg.trans hHeld⟩
  · go_wp2_with fail
    go_ret
    exact ⟨rfl, gg.trans hHeld⟩
set_option maxRecDepth 100000 in
set_option maxHeartbeats 2000000 in
theorem ro3p (n d q r : Int) (u : Bool) (hn : n.tdiv d = q) (hr : n.tmod d = r) (hd : 1 ≤ d) (hd2 : d ≤ 1152921504606846976) (q1 : -4611686018427387904 ≤ q) (q2 : q ≤ 4611686018427387904) (r1 : 0 < r) (r2 : r < d)
    (hu : up3 q (cmpV (2 * r) d) = u) (w : World) :
    Calls Try.prog 42 #[.int .i64 n, .int .i64 d, .int .i64 3] w fun e w' => e = .returned (.int .i64 (if u then q + 1 else q)) ∧ w.grownBy w' none := by
  have KC := Lib.hid (compare_k (2 * r) d)
  have KF := Lib.hid (way3 q (cmpV (2 * r) d))
  rw [hu] at KF
  generalize cmpV (2 * r) d = c at *
  clear hu
  have hw9 : IntKind.i64.wrap (2 * r) = 2 * r := IntWalk.i64_in _ (by omega)
  have d0 : (d == 0) = false := by simp; omega
  have e1 : (r != 0) = true := by simp; omega
  have HN := Lib.hid hn
  have HR := Lib.hid hr
  clear hr hn
  obtain ⟨w1, hw1⟩ : ∃ w1, w1 = w.alloc (.cells #[Value.nilFunc, Value.func (Fn.func 48) #[] #[], Value.func (Fn.func 49) #[] #[], Value.func (Fn.func 50) #[] #[], Value.func (Fn.func 51) #[] #[]] 77) := ⟨_, rfl⟩
  have gg : w.grownBy w1 none := by rw [hw1]; exact World.grownBy_alloc w _ none
  have v1 : w1.cell? ⟨w.heap.size, 3, none⟩ = some (.func (.func 50) #[] #[]) := by rw [hw1]; exact (cell_at rfl).trans rfl
  have H0 := Lib.hid hw1
  clear hw1
  go_enter Try.func42, Try.ntmps42
  go_wp2_with fail
  rw [← H0.out]
  have hq := HN.out
  have hr := HR.out
  go_quiet (fail)
  clear hq hr
  go_wp2_with fail
  refine wp_region_noPanic ?_
  refine wp_region_held_drew (S := (fun w' => w1.grownBy w' none)) (by kernel_rfl) ?_ (fun hHeld => ?_)
  · (try dsimp only); (repeat (first | assumption | exact grown_refl _ | refine grown_dr ?_ | refine grown_dn ?_ | refine grown_al ?_))
  refine wpAnyH_take (i := 0) (oi := _) (v := ?_) rfl (by kernel_rfl) (by kernel_rfl) (by kernel_rfl) (fun _ _ _ h => h) (Or.inl ⟨by rfl, ?_⟩) (by assumption) ?_
  rotate_left 1
  · (intro w hSw; (try dsimp only at hSw); go_simp; first | done | with_reducible rfl)
  try go_simp
  refine wpAnyH_take (i := 1) (oi := _) (v := .bool true) rfl (by kernel_rfl) (by kernel_rfl) (by kernel_rfl) (fun _ _ _ h => h) (Or.inl ⟨by kernel_rfl, ?_⟩) (by assumption) ?_
  · (intro w hSw; (try dsimp only at hSw); go_simp; first | done | with_reducible rfl)
  try go_simp
  refine wpAnyH_take (i := 2) (oi := _) (v := ?_) rfl (by kernel_rfl) (by kernel_rfl) (by kernel_rfl) (fun _ _ _ h => h) (Or.inl ⟨by rfl, ?_⟩) (by assumption) ?_
  rotate_left 1
  · (intro w hSw; (try dsimp only at hSw); go_simp; first | done | with_reducible rfl)
  try go_simp
  refine wpAnyH_take (i := 3) (oi := _) (v := ?_) rfl (by kernel_rfl) (by kernel_rfl) (by kernel_rfl) (fun _ _ _ h => h) (Or.inl ⟨by kernel_rfl, ?_⟩) (by assumption) ?_
  rotate_left 1
  · (intro w hSw; (try dsimp only at hSw); go_simp; first | done | with_reducible rfl)
  try go_simp
  refine wpAnyH_take (i := 4) (oi := _) (v := ?_) rfl (by kernel_rfl) (by kernel_rfl) (by kernel_rfl) (fun _ _ _ h => h) (Or.inl ⟨by kernel_rfl, ?_⟩) (by assumption) ?_
  rotate_left 1
  · (intro w hSw; (try dsimp only at hSw); go_simp; first | done | with_reducible rfl)
  try go_simp
  refine wpAnyH_take (i := 5) (oi := _) (v := ?_) rfl (by kernel_rfl) (by kernel_rfl) (by kernel_rfl) (fun _ _ _ h => h) (Or.inl ⟨by kernel_rfl, ?_⟩) (by assumption) ?_
  rotate_left 1
  · (intro w hSw; (try dsimp only at hSw); go_simp; first | done | with_reducible rfl)
  try go_simp
  refine wpAnyH_take (i := 6) (oi := _) (v := .func (.func 50) #[] #[]) rfl (by kernel_rfl) (by kernel_rfl) (by kernel_rfl) (fun _ _ _ h => h) (Or.inl ⟨by kernel_rfl, ?_⟩) (by assumption) ?_
  · (intro w hSw; (try dsimp only at hSw); go_simp; have y := gcell hSw v1; clear hSw; go_simp; first | done | with_reducible rfl)
  try go_simp
  refine wpAnyH_take (i := 7) (oi := _) (v := ?_) rfl (by kernel_rfl) (by kernel_rfl) (by kernel_rfl) (fun _ _ _ h => h) (Or.inl ⟨by kernel_rfl, ?_⟩) (by assumption) ?_
  rotate_left 1
  · (intro w hSw; (try dsimp only at hSw); go_simp; first | done | with_reducible rfl)
  try go_simp
  refine wpAnyH_take (i := 8) (oi := _) (v := ?_) rfl (by kernel_rfl) (by kernel_rfl) (by kernel_rfl) (fun _ _ _ h => h) (Or.inl ⟨by kernel_rfl, ?_⟩) (by assumption) ?_
  rotate_left 1
  · (intro w hSw; (try dsimp only at hSw); go_simp; first | done | with_reducible rfl)
  try go_simp
  refine wpAnyH_take (i := 9) (oi := _) (v := ?_) rfl (by kernel_rfl) (by kernel_rfl) (by kernel_rfl) (fun _ _ _ h => h) (Or.inl ⟨by kernel_rfl, ?_⟩) (by assumption) ?_
  rotate_left 1
  · (intro w hSw; (try dsimp only at hSw); go_simp; first | done | with_reducible rfl)
  try go_simp
  refine wpAnyH_take (i := 10) (oi := _) (v := ?_) rfl (by kernel_rfl) (by kernel_rfl) (by kernel_rfl) (fun _ _ _ h => h) (Or.inl ⟨by kernel_rfl, ?_⟩) (by assumption) ?_
  rotate_left 1
  · (intro w hSw; (try dsimp only at hSw); go_simp; first | done | with_reducible rfl)
  try go_simp
  refine wpAnyH_ready (rs := [11]) (by kernel_rfl) (by simp) ?_
  refine AllReadyH.cons (o := _) rfl (fun K hK => ?_) AllReadyH.nil
  go_simp
  refine (KC.out _).mono ?_
  rintro e w2 ⟨rfl, rfl⟩
  first | (refine hK.out _ _ ?_ (fun hHeld => ?_)) | (go_wp2_with fail; refine hK.out _ _ ?_ (fun hHeld => ?_))
  · (try dsimp only); (repeat (first | assumption | exact grown_refl _ | refine grown_dr ?_ | refine grown_dn ?_ | refine grown_al ?_))
  clear hK K
  refine wpAnyH_ready (rs := [12]) (by kernel_rfl) (by simp) ?_
  refine AllReadyH.cons (o := _) rfl (fun K hK => ?_) AllReadyH.nil
  go_simp
  refine (KF.out _).mono ?_
  rintro e w2 ⟨rfl, rfl⟩
  first | (refine hK.out _ _ ?_ (fun hHeld => ?_)) | (go_wp2_with fail; refine hK.out _ _ ?_ (fun hHeld => ?_))
  · (try dsimp only); (repeat (first | assumption | exact grown_refl _ | refine grown_dr ?_ | refine grown_dn ?_ | refine grown_al ?_))
  clear hK K
  refine wpAnyH_take (i := 13) (oi := _) (v := ?_) rfl (by kernel_rfl) (by kernel_rfl) (by kernel_rfl) (fun _ _ _ h => h) (Or.inl ⟨by rfl, ?_⟩) (by assumption) ?_
  rotate_left 1
  · (intro w hSw; (try dsimp only at hSw); go_simp; first | done | with_reducible rfl)
  try go_simp
  refine wpAnyH_done (by kernel_rfl) ?_ _
  refine NoPanic.normal ?_
  go_simp
  cases u
  · go_wp2_with fail
    go_ret
    exact ⟨rfl, gg.trans hHeld⟩
  · go_wp2_with fail
    go_ret
    exact ⟨rfl, gg.trans hHeld⟩
set_option maxRecDepth 100000 in
set_option maxHeartbeats 2000000 in
theorem ro4n (n d q r : Int) (u : Bool) (hn : n.tdiv d = q) (hr : n.tmod d = r) (hd : 1 ≤ d) (hd2 : d ≤ 1152921504606846976) (q1 : -4611686018427387904 ≤ q) (q2 : q ≤ 4611686018427387904) (r1 : -d < r) (r2 : r < 0)
    (hu : up4 (q - 1) (cmpV (2 * (r + d)) d) = u) (w : World) :
    Calls Try.prog 42 #[.int .i64 n, .int .i64 d, .int .i64 4] w fun e w' => e = .returned (.int .i64 (if u then (q - 1) + 1 else (q - 1))) ∧ w.grownBy w' none := by
  have KC := Lib.hid (compare_k (2 * (r + d)) d)
  have KF := Lib.hid (way4 (q - 1) (cmpV (2 * (r + d)) d))
  rw [hu] at KF
  generalize cmpV (2 * (r + d)) d = c at *
  clear hu
  have hw9 : IntKind.i64.wrap (2 * (r + d)) = 2 * (r + d) := IntWalk.i64_in _ (by omega)
  have d0 : (d == 0) = false := by simp; omega
  have e1 : ((r + d) != 0) = true := by simp; omega
  have HN := Lib.hid hn
  have HR := Lib.hid hr
  clear hr hn
  obtain ⟨w1, hw1⟩ : ∃ w1, w1 = w.alloc (.cells #[Value.nilFunc, Value.func (Fn.func 48) #[] #[], Value.func (Fn.func 49) #[] #[], Value.func (Fn.func 50) #[] #[], Value.func (Fn.func 51) #[] #[]] 77) := ⟨_, rfl⟩
  have gg : w.grownBy w1 none := by rw [hw1]; exact World.grownBy_alloc w _ none
  have v1 : w1.cell? ⟨w.heap.size, 4, none⟩ = some (.func (.func 51) #[] #[]) := by rw [hw1]; exact (cell_at rfl).trans rfl
  have H0 := Lib.hid hw1
  clear hw1
  go_enter Try.func42, Try.ntmps42
  go_wp2_with fail
  rw [← H0.out]
  have hq := HN.out
  have hr := HR.out
  go_quiet (fail)
  clear hq hr
  go_wp2_with fail
  refine wp_region_noPanic ?_
  refine wp_region_held_drew (S := (fun w' => w1.grownBy w' none)) (by kernel_rfl) ?_ (fun hHeld => ?_)
  · (try dsimp only); (repeat (first | assumption | exact grown_refl _ | refine grown_dr ?_ | refine grown_dn ?_ | refine grown_al ?_))
  refine wpAnyH_take (i := 0) (oi := _) (v := ?_) rfl (by kernel_rfl) (by kernel_rfl) (by kernel_rfl) (fun _ _ _ h => h) (Or.inl ⟨by rfl, ?_⟩) (by assumption) ?_
  rotate_left 1
  · (intro w hSw; (try dsimp only at hSw); go_simp; first | done | with_reducible rfl)
  try go_simp
  refine wpAnyH_take (i := 1) (oi := _) (v := .bool true) rfl (by kernel_rfl) (by kernel_rfl) (by kernel_rfl) (fun _ _ _ h => h) (Or.inl ⟨by kernel_rfl, ?_⟩) (by assumption) ?_
  · (intro w hSw; (try dsimp only at hSw); go_simp; first | done | with_reducible rfl)
  try go_simp
  refine wpAnyH_take (i := 2) (oi := _) (v := ?_) rfl (by kernel_rfl) (by kernel_rfl) (by kernel_rfl) (fun _ _ _ h => h) (Or.inl ⟨by rfl, ?_⟩) (by assumption) ?_
  rotate_left 1
  · (intro w hSw; (try dsimp only at hSw); go_simp; first | done | with_reducible rfl)
  try go_simp
  refine wpAnyH_take (i := 3) (oi := _) (v := ?_) rfl (by kernel_rfl) (by kernel_rfl) (by kernel_rfl) (fun _ _ _ h => h) (Or.inl ⟨by kernel_rfl, ?_⟩) (by assumption) ?_
  rotate_left 1
  · (intro w hSw; (try dsimp only at hSw); go_simp; first | done | with_reducible rfl)
  try go_simp
  refine wpAnyH_take (i := 4) (oi := _) (v := ?_) rfl (by kernel_rfl) (by kernel_rfl) (by kernel_rfl) (fun _ _ _ h => h) (Or.inl ⟨by kernel_rfl, ?_⟩) (by assumption) ?_
  rotate_left 1
  · (intro w hSw; (try dsimp only at hSw); go_simp; first | done | with_reducible rfl)
  try go_simp
  refine wpAnyH_take (i := 5) (oi := _) (v := ?_) rfl (by kernel_rfl) (by kernel_rfl) (by kernel_rfl) (fun _ _ _ h => h) (Or.inl ⟨by kernel_rfl, ?_⟩) (by assumption) ?_
  rotate_left 1
  · (intro w hSw; (try dsimp only at hSw); go_simp; first | done | with_reducible rfl)
  try go_simp
  refine wpAnyH_take (i := 6) (oi := _) (v := .func (.func 51) #[] #[]) rfl (by kernel_rfl) (by kernel_rfl) (by kernel_rfl) (fun _ _ _ h => h) (Or.inl ⟨by kernel_rfl, ?_⟩) (by assumption) ?_
  · (intro w hSw; (try dsimp only at hSw); go_simp; have y := gcell hSw v1; clear hSw; go_simp; first | done | with_reducible rfl)
  try go_simp
  refine wpAnyH_take (i := 7) (oi := _) (v := ?_) rfl (by kernel_rfl) (by kernel_rfl) (by kernel_rfl) (fun _ _ _ h => h) (Or.inl ⟨by kernel_rfl, ?_⟩) (by assumption) ?_
  rotate_left 1
  · (intro w hSw; (try dsimp only at hSw); go_simp; first | done | with_reducible rfl)
  try go_simp
  refine wpAnyH_take (i := 8) (oi := _) (v := ?_) rfl (by kernel_rfl) (by kernel_rfl) (by kernel_rfl) (fun _ _ _ h => h) (Or.inl ⟨by kernel_rfl, ?_⟩) (by assumption) ?_
  rotate_left 1
  · (intro w hSw; (try dsimp only at hSw); go_simp; first | done | with_reducible rfl)
  try go_simp
  refine wpAnyH_take (i := 9) (oi := _) (v := ?_) rfl (by kernel_rfl) (by kernel_rfl) (by kernel_rfl) (fun _ _ _ h => h) (Or.inl ⟨by kernel_rfl, ?_⟩) (by assumption) ?_
  rotate_left 1
  · (intro w hSw; (try dsimp only at hSw); go_simp; first | done | with_reducible rfl)
  try go_simp
  refine wpAnyH_take (i := 10) (oi := _) (v := ?_) rfl (by kernel_rfl) (by kernel_rfl) (by kernel_rfl) (fun _ _ _ h => h) (Or.inl ⟨by kernel_rfl, ?_⟩) (by assumption) ?_
  rotate_left 1
  · (intro w hSw; (try dsimp only at hSw); go_simp; first | done | with_reducible rfl)
  try go_simp
  refine wpAnyH_ready (rs := [11]) (by kernel_rfl) (by simp) ?_
  refine AllReadyH.cons (o := _) rfl (fun K hK => ?_) AllReadyH.nil
  go_simp
  refine (KC.out _).mono ?_
  rintro e w2 ⟨rfl, rfl⟩
  first | (refine hK.out _ _ ?_ (fun hHeld => ?_)) | (go_wp2_with fail; refine hK.out _ _ ?_ (fun hHeld => ?_))
  · (try dsimp only); (repeat (first | assumption | exact grown_refl _ | refine grown_dr ?_ | refine grown_dn ?_ | refine grown_al ?_))
  clear hK K
  refine wpAnyH_ready (rs := [12]) (by kernel_rfl) (by simp) ?_
  refine AllReadyH.cons (o := _) rfl (fun K hK => ?_) AllReadyH.nil
  go_simp
  refine (KF.out _).mono ?_
  rintro e w2 ⟨rfl, rfl⟩
  first | (refine hK.out _ _ ?_ (fun hHeld => ?_)) | (go_wp2_with fail; refine hK.out _ _ ?_ (fun hHeld => ?_))
  · (try dsimp only); (repeat (first | assumption | exact grown_refl _ | refine grown_dr ?_ | refine grown_dn ?_ | refine grown_al ?_))
  clear hK K
  refine wpAnyH_take (i := 13) (oi := _) (v := ?_) rfl (by kernel_rfl) (by kernel_rfl) (by kernel_rfl) (fun _ _ _ h => h) (Or.inl ⟨by rfl, ?_⟩) (by assumption) ?_
  rotate_left 1
  · (intro w hSw; (try dsimp only at hSw); go_simp; first | done | with_reducible rfl)
  try go_simp
  refine wpAnyH_done (by kernel_rfl) ?_ _
  refine NoPanic.normal ?_
  go_simp
  cases u
  · go_wp2_with fail
    go_ret
    exact ⟨rfl, gg.trans hHeld⟩
  · go_wp2_with fail
    go_ret
    exact ⟨rfl, gg.trans hHeld⟩
set_option maxRecDepth 100000 in
set_option maxHeartbeats 2000000 in
theorem ro4p (n d q r : Int) (u : Bool) (hn : n.tdiv d = q) (hr : n.tmod d = r) (hd : 1 ≤ d) (hd2 : d ≤ 1152921504606846976) (q1 : -4611686018427387904 ≤ q) (q2 : q ≤ 4611686018427387904) (r1 : 0 < r) (r2 : r < d)
    (hu : up4 q (cmpV (2 * r) d) = u) (w : World) :
    Calls Try.prog 42 #[.int .i64 n, .int .i64 d, .int .i64 4] w fun e w' => e = .returned (.int .i64 (if u then q + 1 else q)) ∧ w.grownBy w' none := by
  have KC := Lib.hid (compare_k (2 * r) d)
  have KF := Lib.hid (way4 q (cmpV (2 * r) d))
  rw [hu] at KF
  generalize cmpV (2 * r) d = c at *
  clear hu
  have hw9 : IntKind.i64.wrap (2 * r) = 2 * r := IntWalk.i64_in _ (by omega)
  have d0 : (d == 0) = false := by simp; omega
  have e1 : (r != 0) = true := by simp; omega
  have HN := Lib.hid hn
  have HR := Lib.hid hr
  clear hr hn
  obtain ⟨w1, hw1⟩ : ∃ w1, w1 = w.alloc (.cells #[Value.nilFunc, Value.func (Fn.func 48) #[] #[], Value.func (Fn.func 49) #[] #[], Value.func (Fn.func 50) #[] #[], Value.func (Fn.func 51) #[] #[]] 77) := ⟨_, rfl⟩
  have gg : w.grownBy w1 none := by rw [hw1]; exact World.grownBy_alloc w _ none
  have v1 : w1.cell? ⟨w.heap.size, 4, none⟩ = some (.func (.func 51) #[] #[]) := by rw [hw1]; exact (cell_at rfl).trans rfl
  have H0 := Lib.hid hw1
  clear hw1
  go_enter Try.func42, Try.ntmps42
  go_wp2_with fail
  rw [← H0.out]
  have hq := HN.out
  have hr := HR.out
  go_quiet (fail)
  clear hq hr
  go_wp2_with fail
  refine wp_region_noPanic ?_
  refine wp_region_held_drew (S := (fun w' => w1.grownBy w' none)) (by kernel_rfl) ?_ (fun hHeld => ?_)
  · (try dsimp only); (repeat (first | assumption | exact grown_refl _ | refine grown_dr ?_ | refine grown_dn ?_ | refine grown_al ?_))
  refine wpAnyH_take (i := 0) (oi := _) (v := ?_) rfl (by kernel_rfl) (by kernel_rfl) (by kernel_rfl) (fun _ _ _ h => h) (Or.inl ⟨by rfl, ?_⟩) (by assumption) ?_
  rotate_left 1
  · (intro w hSw; (try dsimp only at hSw); go_simp; first | done | with_reducible rfl)
  try go_simp
  refine wpAnyH_take (i := 1) (oi := _) (v := .bool true) rfl (by kernel_rfl) (by kernel_rfl) (by kernel_rfl) (fun _ _ _ h => h) (Or.inl ⟨by kernel_rfl, ?_⟩) (by assumption) ?_
  · (intro w hSw; (try dsimp only at hSw); go_simp; first | done | with_reducible rfl)
  try go_simp
  refine wpAnyH_take (i := 2) (oi := _) (v := ?_) rfl (by kernel_rfl) (by kernel_rfl) (by kernel_rfl) (fun _ _ _ h => h) (Or.inl ⟨by rfl, ?_⟩) (by assumption) ?_
  rotate_left 1
  · (intro w hSw; (try dsimp only at hSw); go_simp; first | done | with_reducible rfl)
  try go_simp
  refine wpAnyH_take (i := 3) (oi := _) (v := ?_) rfl (by kernel_rfl) (by kernel_rfl) (by kernel_rfl) (fun _ _ _ h => h) (Or.inl ⟨by kernel_rfl, ?_⟩) (by assumption) ?_
  rotate_left 1
  · (intro w hSw; (try dsimp only at hSw); go_simp; first | done | with_reducible rfl)
  try go_simp
  refine wpAnyH_take (i := 4) (oi := _) (v := ?_) rfl (by kernel_rfl) (by kernel_rfl) (by kernel_rfl) (fun _ _ _ h => h) (Or.inl ⟨by kernel_rfl, ?_⟩) (by assumption) ?_
  rotate_left 1
  · (intro w hSw; (try dsimp only at hSw); go_simp; first | done | with_reducible rfl)
  try go_simp
  refine wpAnyH_take (i := 5) (oi := _) (v := ?_) rfl (by kernel_rfl) (by kernel_rfl) (by kernel_rfl) (fun _ _ _ h => h) (Or.inl ⟨by kernel_rfl, ?_⟩) (by assumption) ?_
  rotate_left 1
  · (intro w hSw; (try dsimp only at hSw); go_simp; first | done | with_reducible rfl)
  try go_simp
  refine wpAnyH_take (i := 6) (oi := _) (v := .func (.func 51) #[] #[]) rfl (by kernel_rfl) (by kernel_rfl) (by kernel_rfl) (fun _ _ _ h => h) (Or.inl ⟨by kernel_rfl, ?_⟩) (by assumption) ?_
  · (intro w hSw; (try dsimp only at hSw); go_simp; have y := gcell hSw v1; clear hSw; go_simp; first | done | with_reducible rfl)
  try go_simp
  refine wpAnyH_take (i := 7) (oi := _) (v := ?_) rfl (by kernel_rfl) (by kernel_rfl) (by kernel_rfl) (fun _ _ _ h => h) (Or.inl ⟨by kernel_rfl, ?_⟩) (by assumption) ?_
  rotate_left 1
  · (intro w hSw; (try dsimp only at hSw); go_simp; first | done | with_reducible rfl)
  try go_simp
  refine wpAnyH_take (i := 8) (oi := _) (v := ?_) rfl (by kernel_rfl) (by kernel_rfl) (by kernel_rfl) (fun _ _ _ h => h) (Or.inl ⟨by kernel_rfl, ?_⟩) (by assumption) ?_
  rotate_left 1
  · (intro w hSw; (try dsimp only at hSw); go_simp; first | done | with_reducible rfl)
  try go_simp
  refine wpAnyH_take (i := 9) (oi := _) (v := ?_) rfl (by kernel_rfl) (by kernel_rfl) (by kernel_rfl) (fun _ _ _ h => h) (Or.inl ⟨by kernel_rfl, ?_⟩) (by assumption) ?_
  rotate_left 1
  · (intro w hSw; (try dsimp only at hSw); go_simp; first | done | with_reducible rfl)
  try go_simp
  refine wpAnyH_take (i := 10) (oi := _) (v := ?_) rfl (by kernel_rfl) (by kernel_rfl) (by kernel_rfl) (fun _ _ _ h => h) (Or.inl ⟨by kernel_rfl, ?_⟩) (by assumption) ?_
  rotate_left 1
  · (intro w hSw; (try dsimp only at hSw); go_simp; first | done | with_reducible rfl)
  try go_simp
  refine wpAnyH_ready (rs := [11]) (by kernel_rfl) (by simp) ?_
  refine AllReadyH.cons (o := _) rfl (fun K hK => ?_) AllReadyH.nil
  go_simp
  refine (KC.out _).mono ?_
  rintro e w2 ⟨rfl, rfl⟩
  first | (refine hK.out _ _ ?_ (fun hHeld => ?_)) | (go_wp2_with fail; refine hK.out _ _ ?_ (fun hHeld => ?_))
  · (try dsimp only); (repeat (first | assumption | exact grown_refl _ | refine grown_dr ?_ | refine grown_dn ?_ | refine grown_al ?_))
  clear hK K
  refine wpAnyH_ready (rs := [12]) (by kernel_rfl) (by simp) ?_
  refine AllReadyH.cons (o := _) rfl (fun K hK => ?_) AllReadyH.nil
  go_simp
  refine (KF.out _).mono ?_
  rintro e w2 ⟨rfl, rfl⟩
  first | (refine hK.out _ _ ?_ (fun hHeld => ?_)) | (go_wp2_with fail; refine hK.out _ _ ?_ (fun hHeld => ?_))
  · (try dsimp only); (repeat (first | assumption | exact grown_refl _ | refine grown_dr ?_ | refine grown_dn ?_ | refine grown_al ?_))
  clear hK K
  refine wpAnyH_take (i := 13) (oi := _) (v := ?_) rfl (by kernel_rfl) (by kernel_rfl) (by kernel_rfl) (fun _ _ _ h => h) (Or.inl ⟨by rfl, ?_⟩) (by assumption) ?_
  rotate_left 1
  · (intro w hSw; (try dsimp only at hSw); go_simp; first | done | with_reducible rfl)
  try go_simp
  refine wpAnyH_done (by kernel_rfl) ?_ _
  refine NoPanic.normal ?_
  go_simp
  cases u
  · go_wp2_with fail
    go_ret
    exact ⟨rfl, gg.trans hHeld⟩
  · go_wp2_with fail
    go_ret
    exact ⟨rfl, gg.trans hHeld⟩
set_option maxRecDepth 100000 in
set_option maxHeartbeats 2000000 in
theorem ro0 (n d q how : Int) (hn : n.tdiv d = q) (hr : n.tmod d = 0) (hd : 1 ≤ d) (q1 : -4611686018427387904 ≤ q) (q2 : q ≤ 4611686018427387904) (w : World) :
    Calls Try.prog 42 #[.int .i64 n, .int .i64 d, .int .i64 how] w fun e w' => e = .returned (.int .i64 q) ∧ w.grownBy w' none := by
  have d0 : (d == 0) = false := by simp; omega
  have HN := Lib.hid hn
  have HR := Lib.hid hr
  clear hr hn
  obtain ⟨w1, hw1⟩ : ∃ w1, w1 = w.alloc (.cells #[Value.nilFunc, Value.func (Fn.func 48) #[] #[], Value.func (Fn.func 49) #[] #[], Value.func (Fn.func 50) #[] #[], Value.func (Fn.func 51) #[] #[]] 77) := ⟨_, rfl⟩
  have gg : w.grownBy w1 none := by rw [hw1]; exact World.grownBy_alloc w _ none
  have H0 := Lib.hid hw1
  clear hw1
  go_enter Try.func42, Try.ntmps42
  go_wp2_with fail
  rw [← H0.out]
  have hq := HN.out
  have hr := HR.out
  go_quiet (fail)
  clear hq hr
  go_wp2_with fail
  go_quiet (fail)
  go_wp2_with fail
  go_ret
  exact ⟨rfl, grown_dn (grown_dn gg)⟩
theorem rounded_k (n d how : Int) (hn1 : -4611686018427387904 ≤ n) (hn2 : n ≤ 4611686018427387904) (hd : 1 ≤ d) (hd2 : d ≤ 1152921504606846976) (h1 : 1 ≤ how) (h4 : how ≤ 4) (w : World) :
    Calls Try.prog 42 #[.int .i64 n, .int .i64 d, .int .i64 how] w fun e w' => e = .returned (.int .i64 (roV n d how)) ∧ w.grownBy w' none := by
  obtain ⟨s1, s2, s3, s4, s5⟩ := split_td n d (by omega)
  have hq : (n.tdiv d).natAbs ≤ n.natAbs := by rw [Int.natAbs_tdiv]; exact Nat.div_le_self _ _
  have hR := Int.emod_nonneg n (b := d) (by omega)
  rcases Int.lt_trichotomy (n.tmod d) 0 with h | h | h
  · obtain ⟨e1, e2⟩ := s4 h
    have hne : n % d ≠ 0 := by omega
    rcases (show how = 1 ∨ how = 2 ∨ how = 3 ∨ how = 4 by omega) with rfl | rfl | rfl | rfl
    · rw [ro_up n d 1 (by omega) h1 h4 _ rfl hne, e1, e2]
      exact ro1n n d _ _ _ rfl rfl hd hd2 (by omega) (by omega) s2 h rfl w
    · rw [ro_up n d 2 (by omega) h1 h4 _ rfl hne, e1, e2]
      exact ro2n n d _ _ _ rfl rfl hd hd2 (by omega) (by omega) s2 h rfl w
    · rw [ro_up n d 3 (by omega) h1 h4 _ rfl hne, e1, e2]
      exact ro3n n d _ _ _ rfl rfl hd hd2 (by omega) (by omega) s2 h rfl w
    · rw [ro_up n d 4 (by omega) h1 h4 _ rfl hne, e1, e2]
      exact ro4n n d _ _ _ rfl rfl hd hd2 (by omega) (by omega) s2 h rfl w
  · obtain ⟨e1, e2⟩ := s5 (by omega)
    rw [ro_whole n d how (by omega) (by omega), e1]
    exact ro0 n d _ how rfl h hd (by omega) (by omega) w
  · obtain ⟨e1, e2⟩ := s5 (by omega)
    have hne : n % d ≠ 0 := by omega
    rcases (show how = 1 ∨ how = 2 ∨ how = 3 ∨ how = 4 by omega) with rfl | rfl | rfl | rfl
    · rw [ro_up n d 1 (by omega) h1 h4 _ rfl hne, e1, e2]
      exact ro1p n d _ _ _ rfl rfl hd hd2 (by omega) (by omega) h s3 rfl w
    · rw [ro_up n d 2 (by omega) h1 h4 _ rfl hne, e1, e2]
      exact ro2p n d _ _ _ rfl rfl hd hd2 (by omega) (by omega) h s3 rfl w
    · rw [ro_up n d 3 (by omega) h1 h4 _ rfl hne, e1, e2]
      exact ro3p n d _ _ _ rfl rfl hd hd2 (by omega) (by omega) h s3 rfl w
    · rw [ro_up n d 4 (by omega) h1 h4 _ rfl hne, e1, e2]
      exact ro4p n d _ _ _ rfl rfl hd hd2 (by omega) (by omega) h s3 rfl w
end Go.Proofs.Ytcilclbolmijfaa
