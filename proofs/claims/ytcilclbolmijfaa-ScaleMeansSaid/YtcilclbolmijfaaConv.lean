/-
  Convert of both, by contracts.
-/
import Derived.Test.YtcilclbolmijfaaMeanR
import Derived.Test.YtcilclbolmijfaaRndR
namespace Go.Proofs.Ytcilclbolmijfaa
open Go.RowKit
theorem ret2 {a b c : Int} (h1 : a = b) : Ending.returned (.tuple #[.int .i64 a, .int .i64 c]) = .returned (.tuple #[.int .i64 b, .int .i64 c]) := by rw [h1]
theorem boxc (w : World) (u a d r x y p : Int) : ∃ w1, w1 = (w.alloc (.cells #[.int .i64 u, .int .i64 a, .int .i64 d, .int .i64 r] 26)).alloc (.cells #[.int .i64 x, .int .i64 y, .int .i64 p] 24) ∧ C4 w1 w.heap.size u a d r ∧ S3 w1 (w.heap.size + 1) x y p ∧ w.grownBy w1 none :=
  ⟨_, rfl, (C4.new w u a d r).kept (World.grownBy_alloc _ _ none), (by
    have h := S3.new (w.alloc (.cells #[.int .i64 u, .int .i64 a, .int .i64 d, .int .i64 r] 26)) x y p
    rw [show (w.alloc (.cells #[.int .i64 u, .int .i64 a, .int .i64 d, .int .i64 r] 26)).heap.size = w.heap.size + 1 by simp] at h
    exact h), grown_al (World.grownBy_alloc _ _ none)⟩
/-- what Convert gives -/
def coE (u a d r x y p : Int) (gs cs : List Int) : Int := if cvB u a d r then (if chkB x y p then mE gs cs else 10) else 3
def coV (u a d r x y p : Int) (gs cs : List Int) : Int := if cvB u a d r && (chkB x y p && decide (mE gs cs = 0)) then placeV x y (roV (mN gs cs * u + a * mD gs cs) (mD gs cs * d) r) else 0
theorem mE_iff (gs cs : List Int) : mE gs cs = 0 ↔ mC gs cs = 0 := by
  constructor
  · intro h
    by_cases h' : mC gs cs = 0
    · exact h'
    · rw [(mE_no h').1] at h; exact h
  · intro h; exact (mE_zero h).1
theorem prod_b {m u : Int} (h1 : -1073741824 ≤ m) (h2 : m ≤ 1073741824) (h3 : -1000 ≤ u) (h4 : u ≤ 1000) : -1073741824000 ≤ m * u ∧ m * u ≤ 1073741824000 := by
  have h : (m * u).natAbs ≤ 1073741824 * 1000 := by
    rw [Int.natAbs_mul]; exact Nat.mul_le_mul (by omega) (by omega)
  omega
set_option maxRecDepth 100000 in
set_option maxHeartbeats 2000000 in
theorem conv1k (u a d r x y p : Int) (_ _ : List Int) (A A' : Option Addr) (n n' c c' : Nat) (w : World) (h1 : cvB u a d r = false) :
    Calls Try.prog 27 #[.agg #[.int .i64 u, .int .i64 a, .int .i64 d, .int .i64 r], .agg #[.int .i64 x, .int .i64 y, .int .i64 p], .slice A n c, .slice A' n' c'] w fun e w' => e = .returned (.tuple #[.int .i64 0, .int .i64 3]) ∧ w.grownBy w' none := by
  have K1 := Lib.hid (checkConv_k u a d r)
  rw [cvE_no h1] at K1
  clear h1
  obtain ⟨w1, hw1, HC, HS, gg⟩ := boxc w u a d r x y p
  have H0 := Lib.hid hw1
  clear hw1
  have c0 := HC.c0
  have c1 := HC.c1
  have c2 := HC.c2
  have c3 := HC.c3
  go_enter Try.func27, Try.ntmps27
  go_wp2_with fail
  rw [← H0.out]
  clear H0
  go_wp2_with fail
  refine (K1.out _).mono ?_
  rintro e w2 ⟨rfl, g⟩
  replace HC := HC.kept g
  replace HS := HS.kept g
  replace gg := gg.trans g
  clear g K1 c0 c1 c2 c3
  go_wp2_with fail
  go_ret2
  exact ⟨rfl, gg⟩
set_option maxRecDepth 100000 in
set_option maxHeartbeats 2000000 in
theorem conv2k (u a d r x y p : Int) (_ _ : List Int) (A A' : Option Addr) (n n' c c' : Nat) (w : World) (h1 : cvB u a d r = true) (h2 : chkB x y p = false) :
    Calls Try.prog 27 #[.agg #[.int .i64 u, .int .i64 a, .int .i64 d, .int .i64 r], .agg #[.int .i64 x, .int .i64 y, .int .i64 p], .slice A n c, .slice A' n' c'] w fun e w' => e = .returned (.tuple #[.int .i64 0, .int .i64 10]) ∧ w.grownBy w' none := by
  have K1 := Lib.hid (checkConv_k u a d r)
  rw [cvE_yes h1] at K1
  have K2 := Lib.hid (check_k x y p)
  rw [chkE_no h2] at K2
  clear h1 h2
  obtain ⟨w1, hw1, HC, HS, gg⟩ := boxc w u a d r x y p
  have H0 := Lib.hid hw1
  clear hw1
  have c0 := HC.c0
  have c1 := HC.c1
  have c2 := HC.c2
  have c3 := HC.c3
  go_enter Try.func27, Try.ntmps27
  go_wp2_with fail
  rw [← H0.out]
  clear H0
  go_wp2_with fail
  refine (K1.out _).mono ?_
  rintro e w2 ⟨rfl, g⟩
  replace HC := HC.kept g
  replace HS := HS.kept g
  replace gg := gg.trans g
  clear g K1 c0 c1 c2 c3
  have s0 := HS.c0
  have s1 := HS.c1
  have s2 := HS.c2
  go_wp2_with fail
  refine (K2.out _).mono ?_
  rintro e w3 ⟨rfl, g⟩
  replace HC := HC.kept g
  replace HS := HS.kept g
  replace gg := gg.trans g
  clear g K2 s0 s1 s2
  go_wp2_with fail
  go_ret2
  exact ⟨rfl, gg⟩
set_option maxRecDepth 100000 in
set_option maxHeartbeats 2000000 in
theorem conv3k (u a d r x y p : Int) (gs cs : List Int) (A A' : Option Addr) (n n' c c' : Nat) (er : Int) (w : World) (hn : n = gs.length) (hn' : n' = cs.length) (hm : n ≤ maxLen) (hm' : n' ≤ maxLen) (hN : Nums w A gs) (hN' : Nums w A' cs) (h1 : cvB u a d r = true) (h2 : chkB x y p = true) (h3 : mE gs cs = er) (h4 : er ≠ 0) :
    Calls Try.prog 27 #[.agg #[.int .i64 u, .int .i64 a, .int .i64 d, .int .i64 r], .agg #[.int .i64 x, .int .i64 y, .int .i64 p], .slice A n c, .slice A' n' c'] w fun e w' => e = .returned (.tuple #[.int .i64 0, .int .i64 er]) ∧ w.grownBy w' none := by
  have K1 := Lib.hid (checkConv_k u a d r)
  rw [cvE_yes h1] at K1
  have K2 := Lib.hid (check_k x y p)
  rw [chkE_yes h2] at K2
  have K3 := Lib.hid (fun W (g : w.grownBy W none) => mean_k gs cs A A' n n' c c' W hn hn' hm hm' (hN.kept g) (hN'.kept g))
  rw [h3] at K3
  have e1 : (er != 0) = true := by simpa using h4
  clear h1 h2 h3 h4 hn hn' hm hm' hN hN'
  generalize mN gs cs = mn at *
  generalize mD gs cs = md at *
  obtain ⟨w1, hw1, HC, HS, gg⟩ := boxc w u a d r x y p
  have H0 := Lib.hid hw1
  clear hw1
  have c0 := HC.c0
  have c1 := HC.c1
  have c2 := HC.c2
  have c3 := HC.c3
  go_enter Try.func27, Try.ntmps27
  go_wp2_with fail
  rw [← H0.out]
  clear H0
  go_wp2_with fail
  refine (K1.out _).mono ?_
  rintro e w2 ⟨rfl, g⟩
  replace HC := HC.kept g
  replace HS := HS.kept g
  replace gg := gg.trans g
  clear g K1 c0 c1 c2 c3
  have s0 := HS.c0
  have s1 := HS.c1
  have s2 := HS.c2
  go_wp2_with fail
  refine (K2.out _).mono ?_
  rintro e w3 ⟨rfl, g⟩
  replace HC := HC.kept g
  replace HS := HS.kept g
  replace gg := gg.trans g
  clear g K2 s0 s1 s2
  go_wp2_with fail
  refine (K3.out _ gg).mono ?_
  rintro e w4 ⟨rfl, g⟩
  replace HC := HC.kept g
  replace HS := HS.kept g
  replace gg := gg.trans g
  clear g K3
  go_wp2_with fail
  go_ret2
  exact ⟨rfl, by (repeat (first | refine grown_set ?_ (.inl (by omega)) | refine grown_al ?_ | refine grown_dn ?_)); exact gg⟩
set_option maxRecDepth 100000 in
set_option maxHeartbeats 4000000 in
theorem conv4k (u a d r x y p : Int) (gs cs : List Int) (A A' : Option Addr) (n n' c c' : Nat) (mn md : Int) (w : World) (hn : n = gs.length) (hn' : n' = cs.length) (hm : n ≤ maxLen) (hm' : n' ≤ maxLen) (hN : Nums w A gs) (hN' : Nums w A' cs) (h1 : cvB u a d r = true) (h2 : chkB x y p = true) (h3 : mE gs cs = 0) (h4 : mN gs cs = mn) (h5 : mD gs cs = md) :
    Calls Try.prog 27 #[.agg #[.int .i64 u, .int .i64 a, .int .i64 d, .int .i64 r], .agg #[.int .i64 x, .int .i64 y, .int .i64 p], .slice A n c, .slice A' n' c'] w fun e w' => e = .returned (.tuple #[.int .i64 (placeV x y (roV (mn * u + a * md) (md * d) r)), .int .i64 0]) ∧ w.grownBy w' none := by
  have K1 := Lib.hid (checkConv_k u a d r)
  rw [cvE_yes h1] at K1
  have K2 := Lib.hid (check_k x y p)
  rw [chkE_yes h2] at K2
  have K3 := Lib.hid (fun W (g : w.grownBy W none) => mean_k gs cs A A' n n' c c' W hn hn' hm hm' (hN.kept g) (hN'.kept g))
  rw [h3] at K3
  obtain ⟨v1, v2, v3, v4, v5, v6, v7, v8⟩ := (cv_iff u a d r).1 h1
  obtain ⟨_, o1, _⟩ := mE_zero ((mE_iff gs cs).1 h3)
  obtain ⟨t1, t2, t3, t4, _⟩ := (right_iff _ _).1 o1
  clear o1
  rw [h4] at K3 t3 t4
  rw [h5] at K3 t1 t2
  have b1 := prod_b (m := mn) (u := u) (by omega) (by omega) v3 v4
  have b2 := prod_b (m := md) (u := a) (by omega) (by omega) v5 v6
  have b3 := prod_b (m := md) (u := d) (by omega) (by omega) (by omega) v2
  rw [Int.mul_comm md a] at b2
  have b4 : 1 ≤ md * d := by have := Int.mul_pos (show 0 < md by omega) (show 0 < d by omega); omega
  have hw1 : IntKind.i64.wrap (mn * u) = mn * u := IntWalk.i64_in _ (by omega)
  have hw2 : IntKind.i64.wrap (a * md) = a * md := IntWalk.i64_in _ (by omega)
  have hw3 : IntKind.i64.wrap (mn * u + a * md) = mn * u + a * md := IntWalk.i64_in _ (by omega)
  have hw4 : IntKind.i64.wrap (md * d) = md * d := IntWalk.i64_in _ (by omega)
  have KR := Lib.hid (rounded_k (mn * u + a * md) (md * d) r (by omega) (by omega) b4 (by omega) v7 v8)
  have KP := Lib.hid (place_k x y p (roV (mn * u + a * md) (md * d) r))
  generalize placeV x y (roV (mn * u + a * md) (md * d) r) = z at *
  generalize roV (mn * u + a * md) (md * d) r = rr at *
  have B := Lib.hid (And.intro v1 (And.intro v2 (And.intro v3 v4)))
  clear h1 h2 h3 h4 h5 hn hn' hm hm' hN hN' v7 v8 v1 v2 v3 v4 v5 v6 t1 t2 t3 t4
  obtain ⟨w1, hw1, HC, HS, gg⟩ := boxc w u a d r x y p
  have H0 := Lib.hid hw1
  clear hw1
  have c0 := HC.c0
  have c1 := HC.c1
  have c2 := HC.c2
  have c3 := HC.c3
  go_enter Try.func27, Try.ntmps27
  go_wp2_with fail
  rw [← H0.out]
  clear H0
  go_wp2_with fail
  refine (K1.out _).mono ?_
  rintro e w2 ⟨rfl, g⟩
  replace HC := HC.kept g
  replace HS := HS.kept g
  replace gg := gg.trans g
  clear g K1 c0 c1 c2 c3
  have s0 := HS.c0
  have s1 := HS.c1
  have s2 := HS.c2
  go_wp2_with fail
  refine (K2.out _).mono ?_
  rintro e w3 ⟨rfl, g⟩
  replace HC := HC.kept g
  replace HS := HS.kept g
  replace gg := gg.trans g
  clear g K2 s0 s1 s2
  go_wp2_with fail
  refine (K3.out _ gg).mono ?_
  rintro e w4 ⟨rfl, g⟩
  replace HC := HC.kept g
  replace HS := HS.kept g
  replace gg := gg.trans g
  clear g K3
  go_upto_region 10 with fail
  obtain ⟨w5, hw5⟩ : ∃ w5, w5 = w4.alloc (.cells #[.int .i64 mn, .int .i64 md] 46) := ⟨_, rfl⟩
  have g5 : w4.grownBy w5 none := by rw [hw5]; exact World.grownBy_alloc _ _ none
  have M : R2 w5 w4.heap.size mn md := by rw [hw5]; exact R2.new _ _ _
  rw [← hw5]
  clear hw5
  replace HC := HC.kept g5
  replace HS := HS.kept g5
  replace gg := gg.trans g5
  clear g5
  have c0 := HC.c0
  have c1 := HC.c1
  have c2 := HC.c2
  have c3 := HC.c3
  have s0 := HS.c0
  have s1 := HS.c1
  have s2 := HS.c2
  have m0 := M.c0
  have m1 := M.c1
  refine wp_region_noPanic ?_
  refine wp_region_held_drew (S := (fun w' => w5.grownBy w' none)) (by kernel_rfl) ?_ (fun hHeld => ?_)
  · (try dsimp only); (repeat (first | assumption | exact grown_refl _ | refine grown_dr ?_ | refine grown_dn ?_ | refine grown_al ?_))
  refine wpAnyH_take (i := 0) (oi := _) (v := .agg #[.int .i64 x, .int .i64 y, .int .i64 p]) rfl (by kernel_rfl) (by kernel_rfl) (by kernel_rfl) (fun _ _ _ h => h) (Or.inl ⟨by kernel_rfl, ?_⟩) (by assumption) ?_
  · (intro w hSw; (try dsimp only at hSw); go_simp; have y := gcell hSw s0; have y1 := gcell hSw s1; have y2 := gcell hSw s2; clear hSw; go_simp; first | done | with_reducible rfl)
  try go_simp
  refine wpAnyH_take (i := 1) (oi := _) (v := ?_) rfl (by kernel_rfl) (by kernel_rfl) (by kernel_rfl) (fun _ _ _ h => h) (Or.inl ⟨by rfl, ?_⟩) (by assumption) ?_
  rotate_left 1
  · (intro w hSw; (try dsimp only at hSw); go_simp; first | done | with_reducible rfl)
  try go_simp
  refine wpAnyH_take (i := 2) (oi := _) (v := .int .i64 mn) rfl (by kernel_rfl) (by kernel_rfl) (by kernel_rfl) (fun _ _ _ h => h) (Or.inl ⟨by kernel_rfl, ?_⟩) (by assumption) ?_
  · (intro w hSw; (try dsimp only at hSw); go_simp; have y := gcell hSw m0; clear hSw; go_simp; first | done | with_reducible rfl)
  try go_simp
  refine wpAnyH_take (i := 3) (oi := _) (v := ?_) rfl (by kernel_rfl) (by kernel_rfl) (by kernel_rfl) (fun _ _ _ h => h) (Or.inl ⟨by rfl, ?_⟩) (by assumption) ?_
  rotate_left 1
  · (intro w hSw; (try dsimp only at hSw); go_simp; first | done | with_reducible rfl)
  try go_simp
  refine wpAnyH_take (i := 4) (oi := _) (v := .int .i64 u) rfl (by kernel_rfl) (by kernel_rfl) (by kernel_rfl) (fun _ _ _ h => h) (Or.inl ⟨by kernel_rfl, ?_⟩) (by assumption) ?_
  · (intro w hSw; (try dsimp only at hSw); go_simp; have y := gcell hSw c0; clear hSw; go_simp; first | done | with_reducible rfl)
  try go_simp
  refine wpAnyH_take (i := 5) (oi := _) (v := .int .i64 (mn * u)) rfl (by kernel_rfl) (by kernel_rfl) (by kernel_rfl) (fun _ _ _ h => h) (Or.inl ⟨by kernel_rfl, ?_⟩) (by assumption) ?_
  · (intro w hSw; (try dsimp only at hSw); go_simp; first | done | with_reducible rfl)
  try go_simp
  refine wpAnyH_take (i := 6) (oi := _) (v := ?_) rfl (by kernel_rfl) (by kernel_rfl) (by kernel_rfl) (fun _ _ _ h => h) (Or.inl ⟨by rfl, ?_⟩) (by assumption) ?_
  rotate_left 1
  · (intro w hSw; (try dsimp only at hSw); go_simp; first | done | with_reducible rfl)
  try go_simp
  refine wpAnyH_take (i := 7) (oi := _) (v := .int .i64 a) rfl (by kernel_rfl) (by kernel_rfl) (by kernel_rfl) (fun _ _ _ h => h) (Or.inl ⟨by kernel_rfl, ?_⟩) (by assumption) ?_
  · (intro w hSw; (try dsimp only at hSw); go_simp; have y := gcell hSw c1; clear hSw; go_simp; first | done | with_reducible rfl)
  try go_simp
  refine wpAnyH_take (i := 8) (oi := _) (v := ?_) rfl (by kernel_rfl) (by kernel_rfl) (by kernel_rfl) (fun _ _ _ h => h) (Or.inl ⟨by rfl, ?_⟩) (by assumption) ?_
  rotate_left 1
  · (intro w hSw; (try dsimp only at hSw); go_simp; first | done | with_reducible rfl)
  try go_simp
  refine wpAnyH_take (i := 9) (oi := _) (v := .int .i64 md) rfl (by kernel_rfl) (by kernel_rfl) (by kernel_rfl) (fun _ _ _ h => h) (Or.inl ⟨by kernel_rfl, ?_⟩) (by assumption) ?_
  · (intro w hSw; (try dsimp only at hSw); go_simp; have y := gcell hSw m1; clear hSw; go_simp; first | done | with_reducible rfl)
  try go_simp
  refine wpAnyH_take (i := 10) (oi := _) (v := .int .i64 (a * md)) rfl (by kernel_rfl) (by kernel_rfl) (by kernel_rfl) (fun _ _ _ h => h) (Or.inl ⟨by kernel_rfl, ?_⟩) (by assumption) ?_
  · (intro w hSw; (try dsimp only at hSw); go_simp; first | done | with_reducible rfl)
  try go_simp
  refine wpAnyH_take (i := 11) (oi := _) (v := .int .i64 (mn * u + a * md)) rfl (by kernel_rfl) (by kernel_rfl) (by kernel_rfl) (fun _ _ _ h => h) (Or.inl ⟨by kernel_rfl, ?_⟩) (by assumption) ?_
  · (intro w hSw; (try dsimp only at hSw); go_simp; first | done | with_reducible rfl)
  try go_simp
  refine wpAnyH_take (i := 12) (oi := _) (v := ?_) rfl (by kernel_rfl) (by kernel_rfl) (by kernel_rfl) (fun _ _ _ h => h) (Or.inl ⟨by rfl, ?_⟩) (by assumption) ?_
  rotate_left 1
  · (intro w hSw; (try dsimp only at hSw); go_simp; first | done | with_reducible rfl)
  try go_simp
  refine wpAnyH_take (i := 13) (oi := _) (v := .int .i64 md) rfl (by kernel_rfl) (by kernel_rfl) (by kernel_rfl) (fun _ _ _ h => h) (Or.inl ⟨by kernel_rfl, ?_⟩) (by assumption) ?_
  · (intro w hSw; (try dsimp only at hSw); go_simp; have y := gcell hSw m1; clear hSw; go_simp; first | done | with_reducible rfl)
  try go_simp
  refine wpAnyH_take (i := 14) (oi := _) (v := ?_) rfl (by kernel_rfl) (by kernel_rfl) (by kernel_rfl) (fun _ _ _ h => h) (Or.inl ⟨by rfl, ?_⟩) (by assumption) ?_
  rotate_left 1
  · (intro w hSw; (try dsimp only at hSw); go_simp; first | done | with_reducible rfl)
  try go_simp
  refine wpAnyH_take (i := 15) (oi := _) (v := .int .i64 d) rfl (by kernel_rfl) (by kernel_rfl) (by kernel_rfl) (fun _ _ _ h => h) (Or.inl ⟨by kernel_rfl, ?_⟩) (by assumption) ?_
  · (intro w hSw; (try dsimp only at hSw); go_simp; have y := gcell hSw c2; clear hSw; go_simp; first | done | with_reducible rfl)
  try go_simp
  refine wpAnyH_take (i := 16) (oi := _) (v := .int .i64 (md * d)) rfl (by kernel_rfl) (by kernel_rfl) (by kernel_rfl) (fun _ _ _ h => h) (Or.inl ⟨by kernel_rfl, ?_⟩) (by assumption) ?_
  · (intro w hSw; (try dsimp only at hSw); go_simp; first | done | with_reducible rfl)
  try go_simp
  refine wpAnyH_take (i := 17) (oi := _) (v := ?_) rfl (by kernel_rfl) (by kernel_rfl) (by kernel_rfl) (fun _ _ _ h => h) (Or.inl ⟨by rfl, ?_⟩) (by assumption) ?_
  rotate_left 1
  · (intro w hSw; (try dsimp only at hSw); go_simp; first | done | with_reducible rfl)
  try go_simp
  refine wpAnyH_take (i := 18) (oi := _) (v := .int .i64 r) rfl (by kernel_rfl) (by kernel_rfl) (by kernel_rfl) (fun _ _ _ h => h) (Or.inl ⟨by kernel_rfl, ?_⟩) (by assumption) ?_
  · (intro w hSw; (try dsimp only at hSw); go_simp; have y := gcell hSw c3; clear hSw; go_simp; first | done | with_reducible rfl)
  try go_simp
  refine wpAnyH_ready (rs := [19]) (by kernel_rfl) (by simp) ?_
  refine AllReadyH.cons (o := _) rfl (fun K hK => ?_) AllReadyH.nil
  go_simp
  refine (KR.out _).mono ?_
  rintro e w6 ⟨rfl, g6⟩
  have gz := (grown_dr (grown_refl w5)).trans g6
  first | (refine hK.out _ _ ?_ (fun hHeld => ?_)) | (go_wp2_with fail; refine hK.out _ _ ?_ (fun hHeld => ?_))
  · (try dsimp only); (repeat (first | assumption | exact grown_refl _ | refine grown_dr ?_ | refine grown_dn ?_ | refine grown_al ?_))
  clear hK K
  refine wpAnyH_ready (rs := [20]) (by kernel_rfl) (by simp) ?_
  refine AllReadyH.cons (o := _) rfl (fun K hK => ?_) AllReadyH.nil
  go_simp
  refine (KP.out _).mono ?_
  rintro e w7 ⟨rfl, g7⟩
  have gz2 := gz.trans g7
  first | (refine hK.out _ _ ?_ (fun hHeld => ?_)) | (go_wp2_with fail; refine hK.out _ _ ?_ (fun hHeld => ?_))
  · (try dsimp only); (repeat (first | assumption | exact grown_refl _ | refine grown_dr ?_ | refine grown_dn ?_ | refine grown_al ?_))
  clear hK K
  refine wpAnyH_take (i := 21) (oi := _) (v := ?_) rfl (by kernel_rfl) (by kernel_rfl) (by kernel_rfl) (fun _ _ _ h => h) (Or.inl ⟨by rfl, ?_⟩) (by assumption) ?_
  rotate_left 1
  · (intro w hSw; (try dsimp only at hSw); go_simp; first | done | with_reducible rfl)
  try go_simp
  refine wpAnyH_take (i := 22) (oi := _) (v := ?_) rfl (by kernel_rfl) (by kernel_rfl) (by kernel_rfl) (fun _ _ _ h => h) (Or.inl ⟨by rfl, ?_⟩) (by assumption) ?_
  rotate_left 1
  · (intro w hSw; (try dsimp only at hSw); go_simp; first | done | with_reducible rfl)
  try go_simp
  refine wpAnyH_done (by kernel_rfl) ?_ _
  refine NoPanic.normal ?_
  go_simp
  go_wp2_with fail
  go_ret2
  exact ⟨rfl, gg.trans hHeld⟩
theorem convert_k (u a d r x y p : Int) (gs cs : List Int) (A A' : Option Addr) (n n' c c' : Nat) (w : World) (hn : n = gs.length) (hn' : n' = cs.length) (hm : n ≤ maxLen) (hm' : n' ≤ maxLen) (hN : Nums w A gs) (hN' : Nums w A' cs) :
    Calls Try.prog 27 #[.agg #[.int .i64 u, .int .i64 a, .int .i64 d, .int .i64 r], .agg #[.int .i64 x, .int .i64 y, .int .i64 p], .slice A n c, .slice A' n' c'] w fun e w' => e = .returned (.tuple #[.int .i64 (coV u a d r x y p gs cs), .int .i64 (coE u a d r x y p gs cs)]) ∧ w.grownBy w' none := by
  unfold coV coE
  cases h1 : cvB u a d r
  · exact conv1k u a d r x y p gs cs A A' n n' c c' w h1
  · cases h2 : chkB x y p
    · exact conv2k u a d r x y p gs cs A A' n n' c c' w h1 h2
    · by_cases h3 : mE gs cs = 0
      · simp only [h3, decide_true, Bool.and_true, if_true]
        exact conv4k u a d r x y p gs cs A A' n n' c c' _ _ w hn hn' hm hm' hN hN' h1 h2 h3 rfl rfl
      · simp only [h3, decide_false, Bool.and_false, if_true, Bool.false_eq_true, if_false]
        exact conv3k u a d r x y p gs cs A A' n n' c c' _ w hn hn' hm hm' hN hN' h1 h2 rfl h3
set_option maxRecDepth 100000 in
set_option maxHeartbeats 2000000 in
theorem conv1r (u a d r x y p : Int) (_ _ : List Int) (A A' : Option Addr) (n n' c c' : Nat) (w : World) (h1 : cvB u a d r = false) :
    Calls Try.prog 28 #[.agg #[.int .i64 u, .int .i64 a, .int .i64 d, .int .i64 r], .agg #[.int .i64 x, .int .i64 y, .int .i64 p], .slice A n c, .slice A' n' c'] w fun e w' => e = .returned (.tuple #[.int .i64 0, .int .i64 3]) ∧ w.grownBy w' none := by
  have K1 := Lib.hid (checkConv_r u a d r)
  rw [cvE_no h1] at K1
  clear h1
  obtain ⟨w1, hw1, HC, HS, gg⟩ := boxc w u a d r x y p
  have H0 := Lib.hid hw1
  clear hw1
  have c0 := HC.c0
  have c1 := HC.c1
  have c2 := HC.c2
  have c3 := HC.c3
  go_enter Try.func28, Try.ntmps28
  go_wp2_with fail
  rw [← H0.out]
  clear H0
  go_wp2_with fail
  refine (K1.out _).mono ?_
  rintro e w2 ⟨rfl, g⟩
  replace HC := HC.kept g
  replace HS := HS.kept g
  replace gg := gg.trans g
  clear g K1 c0 c1 c2 c3
  go_wp2_with fail
  go_ret2
  exact ⟨rfl, gg⟩
set_option maxRecDepth 100000 in
set_option maxHeartbeats 2000000 in
theorem conv2r (u a d r x y p : Int) (_ _ : List Int) (A A' : Option Addr) (n n' c c' : Nat) (w : World) (h1 : cvB u a d r = true) (h2 : chkB x y p = false) :
    Calls Try.prog 28 #[.agg #[.int .i64 u, .int .i64 a, .int .i64 d, .int .i64 r], .agg #[.int .i64 x, .int .i64 y, .int .i64 p], .slice A n c, .slice A' n' c'] w fun e w' => e = .returned (.tuple #[.int .i64 0, .int .i64 10]) ∧ w.grownBy w' none := by
  have K1 := Lib.hid (checkConv_r u a d r)
  rw [cvE_yes h1] at K1
  have K2 := Lib.hid (check_r x y p)
  rw [chkE_no h2] at K2
  clear h1 h2
  obtain ⟨w1, hw1, HC, HS, gg⟩ := boxc w u a d r x y p
  have H0 := Lib.hid hw1
  clear hw1
  have c0 := HC.c0
  have c1 := HC.c1
  have c2 := HC.c2
  have c3 := HC.c3
  go_enter Try.func28, Try.ntmps28
  go_wp2_with fail
  rw [← H0.out]
  clear H0
  go_wp2_with fail
  refine (K1.out _).mono ?_
  rintro e w2 ⟨rfl, g⟩
  replace HC := HC.kept g
  replace HS := HS.kept g
  replace gg := gg.trans g
  clear g K1 c0 c1 c2 c3
  have s0 := HS.c0
  have s1 := HS.c1
  have s2 := HS.c2
  go_wp2_with fail
  refine (K2.out _).mono ?_
  rintro e w3 ⟨rfl, g⟩
  replace HC := HC.kept g
  replace HS := HS.kept g
  replace gg := gg.trans g
  clear g K2 s0 s1 s2
  go_wp2_with fail
  go_ret2
  exact ⟨rfl, gg⟩
set_option maxRecDepth 100000 in
set_option maxHeartbeats 2000000 in
theorem conv3r (u a d r x y p : Int) (gs cs : List Int) (A A' : Option Addr) (n n' c c' : Nat) (er : Int) (w : World) (hn : n = gs.length) (hn' : n' = cs.length) (hm : n ≤ maxLen) (hm' : n' ≤ maxLen) (hN : Nums w A gs) (hN' : Nums w A' cs) (h1 : cvB u a d r = true) (h2 : chkB x y p = true) (h3 : mE gs cs = er) (h4 : er ≠ 0) :
    Calls Try.prog 28 #[.agg #[.int .i64 u, .int .i64 a, .int .i64 d, .int .i64 r], .agg #[.int .i64 x, .int .i64 y, .int .i64 p], .slice A n c, .slice A' n' c'] w fun e w' => e = .returned (.tuple #[.int .i64 0, .int .i64 er]) ∧ w.grownBy w' none := by
  have K1 := Lib.hid (checkConv_r u a d r)
  rw [cvE_yes h1] at K1
  have K2 := Lib.hid (check_r x y p)
  rw [chkE_yes h2] at K2
  have K3 := Lib.hid (fun W (g : w.grownBy W none) => mean_r gs cs A A' n n' c c' W hn hn' hm hm' (hN.kept g) (hN'.kept g))
  rw [h3] at K3
  have e1 : (er != 0) = true := by simpa using h4
  clear h1 h2 h3 h4 hn hn' hm hm' hN hN'
  generalize mN gs cs = mn at *
  generalize mD gs cs = md at *
  obtain ⟨w1, hw1, HC, HS, gg⟩ := boxc w u a d r x y p
  have H0 := Lib.hid hw1
  clear hw1
  have c0 := HC.c0
  have c1 := HC.c1
  have c2 := HC.c2
  have c3 := HC.c3
  go_enter Try.func28, Try.ntmps28
  go_wp2_with fail
  rw [← H0.out]
  clear H0
  go_wp2_with fail
  refine (K1.out _).mono ?_
  rintro e w2 ⟨rfl, g⟩
  replace HC := HC.kept g
  replace HS := HS.kept g
  replace gg := gg.trans g
  clear g K1 c0 c1 c2 c3
  have s0 := HS.c0
  have s1 := HS.c1
  have s2 := HS.c2
  go_wp2_with fail
  refine (K2.out _).mono ?_
  rintro e w3 ⟨rfl, g⟩
  replace HC := HC.kept g
  replace HS := HS.kept g
  replace gg := gg.trans g
  clear g K2 s0 s1 s2
  go_wp2_with fail
  refine (K3.out _ gg).mono ?_
  rintro e w4 ⟨rfl, g⟩
  replace HC := HC.kept g
  replace HS := HS.kept g
  replace gg := gg.trans g
  clear g K3
  go_wp2_with fail
  go_ret2
  exact ⟨rfl, by (repeat (first | refine grown_set ?_ (.inl (by omega)) | refine grown_al ?_ | refine grown_dn ?_)); exact gg⟩
set_option maxRecDepth 100000 in
set_option maxHeartbeats 4000000 in
theorem conv4r (u a d r x y p : Int) (gs cs : List Int) (A A' : Option Addr) (n n' c c' : Nat) (mn md : Int) (w : World) (hn : n = gs.length) (hn' : n' = cs.length) (hm : n ≤ maxLen) (hm' : n' ≤ maxLen) (hN : Nums w A gs) (hN' : Nums w A' cs) (h1 : cvB u a d r = true) (h2 : chkB x y p = true) (h3 : mE gs cs = 0) (h4 : mN gs cs = mn) (h5 : mD gs cs = md) :
    Calls Try.prog 28 #[.agg #[.int .i64 u, .int .i64 a, .int .i64 d, .int .i64 r], .agg #[.int .i64 x, .int .i64 y, .int .i64 p], .slice A n c, .slice A' n' c'] w fun e w' => e = .returned (.tuple #[.int .i64 (placeV x y (roV (mn * u + a * md) (md * d) r)), .int .i64 0]) ∧ w.grownBy w' none := by
  have K1 := Lib.hid (checkConv_r u a d r)
  rw [cvE_yes h1] at K1
  have K2 := Lib.hid (check_r x y p)
  rw [chkE_yes h2] at K2
  have K3 := Lib.hid (fun W (g : w.grownBy W none) => mean_r gs cs A A' n n' c c' W hn hn' hm hm' (hN.kept g) (hN'.kept g))
  rw [h3] at K3
  obtain ⟨v1, v2, v3, v4, v5, v6, v7, v8⟩ := (cv_iff u a d r).1 h1
  obtain ⟨_, o1, _⟩ := mE_zero ((mE_iff gs cs).1 h3)
  obtain ⟨t1, t2, t3, t4, _⟩ := (right_iff _ _).1 o1
  clear o1
  rw [h4] at K3 t3 t4
  rw [h5] at K3 t1 t2
  have b1 := prod_b (m := mn) (u := u) (by omega) (by omega) v3 v4
  have b2 := prod_b (m := md) (u := a) (by omega) (by omega) v5 v6
  have b3 := prod_b (m := md) (u := d) (by omega) (by omega) (by omega) v2
  rw [Int.mul_comm md a] at b2
  have b4 : 1 ≤ md * d := by have := Int.mul_pos (show 0 < md by omega) (show 0 < d by omega); omega
  have hw1 : IntKind.i64.wrap (mn * u) = mn * u := IntWalk.i64_in _ (by omega)
  have hw2 : IntKind.i64.wrap (a * md) = a * md := IntWalk.i64_in _ (by omega)
  have hw3 : IntKind.i64.wrap (mn * u + a * md) = mn * u + a * md := IntWalk.i64_in _ (by omega)
  have hw4 : IntKind.i64.wrap (md * d) = md * d := IntWalk.i64_in _ (by omega)
  have KR := Lib.hid (rounded_r (mn * u + a * md) (md * d) r (by omega) (by omega) b4 (by omega) v7 v8)
  have KP := Lib.hid (show placeV x y (roV (mn * u + a * md) (md * d) r) = limV (roV (mn * u + a * md) (md * d) r) (min x y) (max x y) from rfl)
  generalize placeV x y (roV (mn * u + a * md) (md * d) r) = z at *
  generalize roV (mn * u + a * md) (md * d) r = rr at *
  clear hw1 hw2 hw3 hw4
  have B := Lib.hid (And.intro v1 (And.intro v2 (And.intro v3 v4)))
  clear h1 h2 h3 h4 h5 hn hn' hm hm' hN hN' v7 v8 
  obtain ⟨w1, hw1, HC, HS, gg⟩ := boxc w u a d r x y p
  have H0 := Lib.hid hw1
  clear hw1
  have c0 := HC.c0
  have c1 := HC.c1
  have c2 := HC.c2
  have c3 := HC.c3
  go_enter Try.func28, Try.ntmps28
  go_wp2_with fail
  rw [← H0.out]
  clear H0
  go_wp2_with fail
  refine (K1.out _).mono ?_
  rintro e w2 ⟨rfl, g⟩
  replace HC := HC.kept g
  replace HS := HS.kept g
  replace gg := gg.trans g
  clear g K1 c0 c1 c2 c3
  have s0 := HS.c0
  have s1 := HS.c1
  have s2 := HS.c2
  go_wp2_with fail
  refine (K2.out _).mono ?_
  rintro e w3 ⟨rfl, g⟩
  replace HC := HC.kept g
  replace HS := HS.kept g
  replace gg := gg.trans g
  clear g K2 s0 s1 s2
  go_wp2_with fail
  refine (K3.out _ gg).mono ?_
  rintro e w4 ⟨rfl, g⟩
  replace HC := HC.kept g
  replace HS := HS.kept g
  replace gg := gg.trans g
  clear g K3
  go_upto_region 9 with fail
  obtain ⟨w5, hw5⟩ : ∃ w5, w5 = w4.alloc (.cells #[.int .i64 mn, .int .i64 md] 46) := ⟨_, rfl⟩
  have g5 : w4.grownBy w5 none := by rw [hw5]; exact World.grownBy_alloc _ _ none
  have M : R2 w5 w4.heap.size mn md := by rw [hw5]; exact R2.new _ _ _
  rw [← hw5]
  clear hw5
  replace HC := HC.kept g5
  replace HS := HS.kept g5
  replace gg := gg.trans g5
  clear g5
  have c0 := HC.c0
  have c1 := HC.c1
  have c2 := HC.c2
  have c3 := HC.c3
  have s0 := HS.c0
  have s1 := HS.c1
  have s2 := HS.c2
  have m0 := M.c0
  have m1 := M.c1
  go_wp2_with fail
  refine (KR.out _).mono ?_
  rintro e w6 ⟨rfl, rfl⟩
  go_wp2_with fail
  all_goals
    go_ret2
    exact ⟨ret2 (by rw [KP.out]; unfold limV; omega), gg⟩
theorem convert_r (u a d r x y p : Int) (gs cs : List Int) (A A' : Option Addr) (n n' c c' : Nat) (w : World) (hn : n = gs.length) (hn' : n' = cs.length) (hm : n ≤ maxLen) (hm' : n' ≤ maxLen) (hN : Nums w A gs) (hN' : Nums w A' cs) :
    Calls Try.prog 28 #[.agg #[.int .i64 u, .int .i64 a, .int .i64 d, .int .i64 r], .agg #[.int .i64 x, .int .i64 y, .int .i64 p], .slice A n c, .slice A' n' c'] w fun e w' => e = .returned (.tuple #[.int .i64 (coV u a d r x y p gs cs), .int .i64 (coE u a d r x y p gs cs)]) ∧ w.grownBy w' none := by
  unfold coV coE
  cases h1 : cvB u a d r
  · exact conv1r u a d r x y p gs cs A A' n n' c c' w h1
  · cases h2 : chkB x y p
    · exact conv2r u a d r x y p gs cs A A' n n' c c' w h1 h2
    · by_cases h3 : mE gs cs = 0
      · simp only [h3, decide_true, Bool.and_true, if_true]
        exact conv4r u a d r x y p gs cs A A' n n' c c' _ _ w hn hn' hm hm' hN hN' h1 h2 h3 rfl rfl
      · simp only [h3, decide_false, Bool.and_false, if_true, Bool.false_eq_true, if_false]
        exact conv3r u a d r x y p gs cs A A' n n' c c' _ w hn hn' hm hm' hN hN' h1 h2 rfl h3
end Go.Proofs.Ytcilclbolmijfaa
