/-
  ratio.Round, by its contract.
-/
import Derived.Test.YtekhdcfnpgkodaaDoorRound
import Derived.Deep.RegionWith
import Derived.Deep.RegionHeld3
import Derived.Laws.EntriesVeiled
namespace Go.Proofs.YtekhdcfnpgkodaaDoor
open Go.RowKit
def rndV (n d how : Int) : Int := if rightB n d && decide (1 ≤ how) && decide (how ≤ 4) then rndQ how n d else 0
def rndE (n d how : Int) : Int := if rightB n d && decide (1 ≤ how) && decide (how ≤ 4) then 0 else 1
def waysA : Array Value := #[Value.nilFunc, Value.func (Fn.func 36) #[] #[], Value.func (Fn.func 37) #[] #[], Value.func (Fn.func 38) #[] #[], Value.func (Fn.func 39) #[] #[]]
theorem boxw (w : World) (n d : Int) : ∃ w0, w0 = (w.alloc (.cells #[.int .i64 n, .int .i64 d] 24)).alloc (.cells #[Value.nilFunc, Value.func (Fn.func 36) #[] #[], Value.func (Fn.func 37) #[] #[], Value.func (Fn.func 38) #[] #[], Value.func (Fn.func 39) #[] #[]] 66) ∧ R2 w0 w.heap.size n d ∧ (∀ i v, waysA[i]? = some v → w0.cell? ⟨w.heap.size + 1, i, none⟩ = some v) ∧ w.grownBy w0 none :=
  ⟨_, rfl, (R2.new w n d).kept (World.grownBy_alloc _ _ none), fun i v h => (cell_at (by simp)).trans h, (World.grownBy_alloc w _ none).trans (World.grownBy_alloc _ _ none)⟩
set_option maxRecDepth 100000 in
set_option maxHeartbeats 1000000 in
theorem round_1 (n d : Int) (hn : i64 n) (hd : i64 d) (hr : rightB n d = true) (w : World) :
    Calls Tryd.prog 22 #[.agg #[.int .i64 n, .int .i64 d], .int .i64 1] w fun e w' => e = .returned (.tuple #[.int .i64 (dnQ n d), .int .i64 0]) ∧ w.grownBy w' none := by
  obtain ⟨a1, a2, a3, a4, _⟩ := (right_iff n d).1 hr
  have Kr := Lib.hid (right_k n d hn hd)
  rw [hr] at Kr
  have KF := Lib.hid (down_k n d (by omega) (by omega) (by omega) (by omega))
  clear hr
  obtain ⟨w0, hw0, Ra, hways, gg⟩ := boxw w n d
  have H0 := Lib.hid hw0
  have HW := Lib.hid hways
  clear hw0 hways
  go_enter Tryd.func22, Tryd.ntmps22
  go_wp2_with fail
  rw [← H0.out]
  refine (Kr.out _).mono ?_
  rintro e w1 ⟨rfl, g⟩
  have Ra := Ra.kept g
  have gg := gg.trans g
  have c0 := Ra.c0
  have c1 := Ra.c1
  have v1 := gcell g (HW.out 1 (.func (.func 36) #[] #[]) (by unfold waysA; rfl))
  clear g HW Kr
  go_wp2_with fail
  refine wp_region_noPanic ?_
  refine wp_region_held_drew (S := (fun w' => w1.grownBy w' none)) (by kernel_rfl) ?_ (fun hHeld => ?_)
  · (try dsimp only); (repeat (first | assumption | exact grown_refl _ | refine grown_dr ?_ | refine grown_al ?_))
  refine wpAnyH_take (i := 0) (oi := _) (v := ?_) rfl (by kernel_rfl) (by kernel_rfl) (by kernel_rfl) (fun _ _ _ h => h) (Or.inl ⟨by rfl, ?_⟩) (by assumption) ?_
  rotate_left 1
  · (intro w hSw; (try dsimp only at hSw); go_simp; first | done | with_reducible rfl)
  try go_simp
  refine wpAnyH_take (i := 1) (oi := _) (v := ?_) rfl (by kernel_rfl) (by kernel_rfl) (by kernel_rfl) (fun _ _ _ h => h) (Or.inl ⟨by rfl, ?_⟩) (by assumption) ?_
  rotate_left 1
  · (intro w hSw; (try dsimp only at hSw); go_simp; first | done | with_reducible rfl)
  try go_simp
  refine wpAnyH_take (i := 2) (oi := _) (v := .func (.func 36) #[] #[]) rfl (by kernel_rfl) (by kernel_rfl) (by kernel_rfl) (fun _ _ _ h => h) (Or.inl ⟨by kernel_rfl, ?_⟩) (by assumption) ?_
  · (intro w hSw; (try dsimp only at hSw); go_simp; have y := gcell hSw v1; clear hSw; go_simp; first | done | with_reducible rfl)
  try go_simp
  refine wpAnyH_take (i := 3) (oi := _) (v := .agg #[.int .i64 n, .int .i64 d]) rfl (by kernel_rfl) (by kernel_rfl) (by kernel_rfl) (fun _ _ _ h => h) (Or.inl ⟨by kernel_rfl, ?_⟩) (by assumption) ?_
  · (intro w hSw; (try dsimp only at hSw); go_simp; have y := gcell hSw c0; have y2 := gcell hSw c1; clear hSw; go_simp; first | done | with_reducible rfl)
  try go_simp
  refine wpAnyH_ready (rs := [4]) (by kernel_rfl) (by simp) ?_
  refine AllReadyH.cons (o := _) rfl (fun K hK => ?_) AllReadyH.nil
  go_simp
  refine (KF.out _).mono ?_
  rintro e w2 ⟨rfl, g2⟩
  have gx2 : w1.grownBy w2 none := (grown_dr (grown_refl w1)).trans g2
  first | (refine hK.out _ _ ?_ (fun hHeld => ?_)) | (go_wp2_with fail; refine hK.out _ _ ?_ (fun hHeld => ?_))
  · (try dsimp only); (repeat (first | assumption | exact grown_refl _ | refine grown_dr ?_ | refine grown_al ?_))
  clear hK K
  refine wpAnyH_take (i := 5) (oi := _) (v := ?_) rfl (by kernel_rfl) (by kernel_rfl) (by kernel_rfl) (fun _ _ _ h => h) (Or.inl ⟨by rfl, ?_⟩) (by assumption) ?_
  rotate_left 1
  · (intro w hSw; (try dsimp only at hSw); go_simp; first | done | with_reducible rfl)
  try go_simp
  refine wpAnyH_take (i := 6) (oi := _) (v := ?_) rfl (by kernel_rfl) (by kernel_rfl) (by kernel_rfl) (fun _ _ _ h => h) (Or.inl ⟨by rfl, ?_⟩) (by assumption) ?_
  rotate_left 1
  · (intro w hSw; (try dsimp only at hSw); go_simp; first | done | with_reducible rfl)
  try go_simp
  refine wpAnyH_done (by kernel_rfl) ?_ _
  refine NoPanic.normal ?_
  go_simp
  go_wp2_with fail
  go_ret2
  exact ⟨rfl, gg.trans gx2⟩
set_option maxRecDepth 100000 in
set_option maxHeartbeats 1000000 in
theorem round_2 (n d : Int) (hn : i64 n) (hd : i64 d) (hr : rightB n d = true) (w : World) :
    Calls Tryd.prog 22 #[.agg #[.int .i64 n, .int .i64 d], .int .i64 2] w fun e w' => e = .returned (.tuple #[.int .i64 (upQ n d), .int .i64 0]) ∧ w.grownBy w' none := by
  obtain ⟨a1, a2, a3, a4, _⟩ := (right_iff n d).1 hr
  have Kr := Lib.hid (right_k n d hn hd)
  rw [hr] at Kr
  have KF := Lib.hid (up_k n d (by omega) (by omega) (by omega) (by omega))
  clear hr
  obtain ⟨w0, hw0, Ra, hways, gg⟩ := boxw w n d
  have H0 := Lib.hid hw0
  have HW := Lib.hid hways
  clear hw0 hways
  go_enter Tryd.func22, Tryd.ntmps22
  go_wp2_with fail
  rw [← H0.out]
  refine (Kr.out _).mono ?_
  rintro e w1 ⟨rfl, g⟩
  have Ra := Ra.kept g
  have gg := gg.trans g
  have c0 := Ra.c0
  have c1 := Ra.c1
  have v1 := gcell g (HW.out 2 (.func (.func 37) #[] #[]) (by unfold waysA; rfl))
  clear g HW Kr
  go_wp2_with fail
  refine wp_region_noPanic ?_
  refine wp_region_held_drew (S := (fun w' => w1.grownBy w' none)) (by kernel_rfl) ?_ (fun hHeld => ?_)
  · (try dsimp only); (repeat (first | assumption | exact grown_refl _ | refine grown_dr ?_ | refine grown_al ?_))
  refine wpAnyH_take (i := 0) (oi := _) (v := ?_) rfl (by kernel_rfl) (by kernel_rfl) (by kernel_rfl) (fun _ _ _ h => h) (Or.inl ⟨by rfl, ?_⟩) (by assumption) ?_
  rotate_left 1
  · (intro w hSw; (try dsimp only at hSw); go_simp; first | done | with_reducible rfl)
  try go_simp
  refine wpAnyH_take (i := 1) (oi := _) (v := ?_) rfl (by kernel_rfl) (by kernel_rfl) (by kernel_rfl) (fun _ _ _ h => h) (Or.inl ⟨by rfl, ?_⟩) (by assumption) ?_
  rotate_left 1
  · (intro w hSw; (try dsimp only at hSw); go_simp; first | done | with_reducible rfl)
  try go_simp
  refine wpAnyH_take (i := 2) (oi := _) (v := .func (.func 37) #[] #[]) rfl (by kernel_rfl) (by kernel_rfl) (by kernel_rfl) (fun _ _ _ h => h) (Or.inl ⟨by kernel_rfl, ?_⟩) (by assumption) ?_
  · (intro w hSw; (try dsimp only at hSw); go_simp; have y := gcell hSw v1; clear hSw; go_simp; first | done | with_reducible rfl)
  try go_simp
  refine wpAnyH_take (i := 3) (oi := _) (v := .agg #[.int .i64 n, .int .i64 d]) rfl (by kernel_rfl) (by kernel_rfl) (by kernel_rfl) (fun _ _ _ h => h) (Or.inl ⟨by kernel_rfl, ?_⟩) (by assumption) ?_
  · (intro w hSw; (try dsimp only at hSw); go_simp; have y := gcell hSw c0; have y2 := gcell hSw c1; clear hSw; go_simp; first | done | with_reducible rfl)
  try go_simp
  refine wpAnyH_ready (rs := [4]) (by kernel_rfl) (by simp) ?_
  refine AllReadyH.cons (o := _) rfl (fun K hK => ?_) AllReadyH.nil
  go_simp
  refine (KF.out _).mono ?_
  rintro e w2 ⟨rfl, g2⟩
  have gx2 : w1.grownBy w2 none := (grown_dr (grown_refl w1)).trans g2
  first | (refine hK.out _ _ ?_ (fun hHeld => ?_)) | (go_wp2_with fail; refine hK.out _ _ ?_ (fun hHeld => ?_))
  · (try dsimp only); (repeat (first | assumption | exact grown_refl _ | refine grown_dr ?_ | refine grown_al ?_))
  clear hK K
  refine wpAnyH_take (i := 5) (oi := _) (v := ?_) rfl (by kernel_rfl) (by kernel_rfl) (by kernel_rfl) (fun _ _ _ h => h) (Or.inl ⟨by rfl, ?_⟩) (by assumption) ?_
  rotate_left 1
  · (intro w hSw; (try dsimp only at hSw); go_simp; first | done | with_reducible rfl)
  try go_simp
  refine wpAnyH_take (i := 6) (oi := _) (v := ?_) rfl (by kernel_rfl) (by kernel_rfl) (by kernel_rfl) (fun _ _ _ h => h) (Or.inl ⟨by rfl, ?_⟩) (by assumption) ?_
  rotate_left 1
  · (intro w hSw; (try dsimp only at hSw); go_simp; first | done | with_reducible rfl)
  try go_simp
  refine wpAnyH_done (by kernel_rfl) ?_ _
  refine NoPanic.normal ?_
  go_simp
  go_wp2_with fail
  go_ret2
  exact ⟨rfl, gg.trans gx2⟩
set_option maxRecDepth 100000 in
set_option maxHeartbeats 1000000 in
theorem round_3 (n d : Int) (hn : i64 n) (hd : i64 d) (hr : rightB n d = true) (w : World) :
    Calls Tryd.prog 22 #[.agg #[.int .i64 n, .int .i64 d], .int .i64 3] w fun e w' => e = .returned (.tuple #[.int .i64 (hfQ n d), .int .i64 0]) ∧ w.grownBy w' none := by
  obtain ⟨a1, a2, a3, a4, _⟩ := (right_iff n d).1 hr
  have Kr := Lib.hid (right_k n d hn hd)
  rw [hr] at Kr
  have KF := Lib.hid (half_k n d (by omega) (by omega) (by omega) (by omega))
  clear hr
  obtain ⟨w0, hw0, Ra, hways, gg⟩ := boxw w n d
  have H0 := Lib.hid hw0
  have HW := Lib.hid hways
  clear hw0 hways
  go_enter Tryd.func22, Tryd.ntmps22
  go_wp2_with fail
  rw [← H0.out]
  refine (Kr.out _).mono ?_
  rintro e w1 ⟨rfl, g⟩
  have Ra := Ra.kept g
  have gg := gg.trans g
  have c0 := Ra.c0
  have c1 := Ra.c1
  have v1 := gcell g (HW.out 3 (.func (.func 38) #[] #[]) (by unfold waysA; rfl))
  clear g HW Kr
  go_wp2_with fail
  refine wp_region_noPanic ?_
  refine wp_region_held_drew (S := (fun w' => w1.grownBy w' none)) (by kernel_rfl) ?_ (fun hHeld => ?_)
  · (try dsimp only); (repeat (first | assumption | exact grown_refl _ | refine grown_dr ?_ | refine grown_al ?_))
  refine wpAnyH_take (i := 0) (oi := _) (v := ?_) rfl (by kernel_rfl) (by kernel_rfl) (by kernel_rfl) (fun _ _ _ h => h) (Or.inl ⟨by rfl, ?_⟩) (by assumption) ?_
  rotate_left 1
  · (intro w hSw; (try dsimp only at hSw); go_simp; first | done | with_reducible rfl)
  try go_simp
  refine wpAnyH_take (i := 1) (oi := _) (v := ?_) rfl (by kernel_rfl) (by kernel_rfl) (by kernel_rfl) (fun _ _ _ h => h) (Or.inl ⟨by rfl, ?_⟩) (by assumption) ?_
  rotate_left 1
  · (intro w hSw; (try dsimp only at hSw); go_simp; first | done | with_reducible rfl)
  try go_simp
  refine wpAnyH_take (i := 2) (oi := _) (v := .func (.func 38) #[] #[]) rfl (by kernel_rfl) (by kernel_rfl) (by kernel_rfl) (fun _ _ _ h => h) (Or.inl ⟨by kernel_rfl, ?_⟩) (by assumption) ?_
  · (intro w hSw; (try dsimp only at hSw); go_simp; have y := gcell hSw v1; clear hSw; go_simp; first | done | with_reducible rfl)
  try go_simp
  refine wpAnyH_take (i := 3) (oi := _) (v := .agg #[.int .i64 n, .int .i64 d]) rfl (by kernel_rfl) (by kernel_rfl) (by kernel_rfl) (fun _ _ _ h => h) (Or.inl ⟨by kernel_rfl, ?_⟩) (by assumption) ?_
  · (intro w hSw; (try dsimp only at hSw); go_simp; have y := gcell hSw c0; have y2 := gcell hSw c1; clear hSw; go_simp; first | done | with_reducible rfl)
  try go_simp
  refine wpAnyH_ready (rs := [4]) (by kernel_rfl) (by simp) ?_
  refine AllReadyH.cons (o := _) rfl (fun K hK => ?_) AllReadyH.nil
  go_simp
  refine (KF.out _).mono ?_
  rintro e w2 ⟨rfl, g2⟩
  have gx2 : w1.grownBy w2 none := (grown_dr (grown_refl w1)).trans g2
  first | (refine hK.out _ _ ?_ (fun hHeld => ?_)) | (go_wp2_with fail; refine hK.out _ _ ?_ (fun hHeld => ?_))
  · (try dsimp only); (repeat (first | assumption | exact grown_refl _ | refine grown_dr ?_ | refine grown_al ?_))
  clear hK K
  refine wpAnyH_take (i := 5) (oi := _) (v := ?_) rfl (by kernel_rfl) (by kernel_rfl) (by kernel_rfl) (fun _ _ _ h => h) (Or.inl ⟨by rfl, ?_⟩) (by assumption) ?_
  rotate_left 1
  · (intro w hSw; (try dsimp only at hSw); go_simp; first | done | with_reducible rfl)
  try go_simp
  refine wpAnyH_take (i := 6) (oi := _) (v := ?_) rfl (by kernel_rfl) (by kernel_rfl) (by kernel_rfl) (fun _ _ _ h => h) (Or.inl ⟨by rfl, ?_⟩) (by assumption) ?_
  rotate_left 1
  · (intro w hSw; (try dsimp only at hSw); go_simp; first | done | with_reducible rfl)
  try go_simp
  refine wpAnyH_done (by kernel_rfl) ?_ _
  refine NoPanic.normal ?_
  go_simp
  go_wp2_with fail
  go_ret2
  exact ⟨rfl, gg.trans gx2⟩
set_option maxRecDepth 100000 in
set_option maxHeartbeats 1000000 in
theorem round_4 (n d : Int) (hn : i64 n) (hd : i64 d) (hr : rightB n d = true) (w : World) :
    Calls Tryd.prog 22 #[.agg #[.int .i64 n, .int .i64 d], .int .i64 4] w fun e w' => e = .returned (.tuple #[.int .i64 (evQ n d), .int .i64 0]) ∧ w.grownBy w' none := by
  obtain ⟨a1, a2, a3, a4, _⟩ := (right_iff n d).1 hr
  have Kr := Lib.hid (right_k n d hn hd)
  rw [hr] at Kr
  have KF := Lib.hid (even_k n d (by omega) (by omega) (by omega) (by omega))
  clear hr
  obtain ⟨w0, hw0, Ra, hways, gg⟩ := boxw w n d
  have H0 := Lib.hid hw0
  have HW := Lib.hid hways
  clear hw0 hways
  go_enter Tryd.func22, Tryd.ntmps22
  go_wp2_with fail
  rw [← H0.out]
  refine (Kr.out _).mono ?_
  rintro e w1 ⟨rfl, g⟩
  have Ra := Ra.kept g
  have gg := gg.trans g
  have c0 := Ra.c0
  have c1 := Ra.c1
  have v1 := gcell g (HW.out 4 (.func (.func 39) #[] #[]) (by unfold waysA; rfl))
  clear g HW Kr
  go_wp2_with fail
  refine wp_region_noPanic ?_
  refine wp_region_held_drew (S := (fun w' => w1.grownBy w' none)) (by kernel_rfl) ?_ (fun hHeld => ?_)
  · (try dsimp only); (repeat (first | assumption | exact grown_refl _ | refine grown_dr ?_ | refine grown_al ?_))
  refine wpAnyH_take (i := 0) (oi := _) (v := ?_) rfl (by kernel_rfl) (by kernel_rfl) (by kernel_rfl) (fun _ _ _ h => h) (Or.inl ⟨by rfl, ?_⟩) (by assumption) ?_
  rotate_left 1
  · (intro w hSw; (try dsimp only at hSw); go_simp; first | done | with_reducible rfl)
  try go_simp
  refine wpAnyH_take (i := 1) (oi := _) (v := ?_) rfl (by kernel_rfl) (by kernel_rfl) (by kernel_rfl) (fun _ _ _ h => h) (Or.inl ⟨by rfl, ?_⟩) (by assumption) ?_
  rotate_left 1
  · (intro w hSw; (try dsimp only at hSw); go_simp; first | done | with_reducible rfl)
  try go_simp
  refine wpAnyH_take (i := 2) (oi := _) (v := .func (.func 39) #[] #[]) rfl (by kernel_rfl) (by kernel_rfl) (by kernel_rfl) (fun _ _ _ h => h) (Or.inl ⟨by kernel_rfl, ?_⟩) (by assumption) ?_
  · (intro w hSw; (try dsimp only at hSw); go_simp; have y := gcell hSw v1; clear hSw; go_simp; first | done | with_reducible rfl)
  try go_simp
  refine wpAnyH_take (i := 3) (oi := _) (v := .agg #[.int .i64 n, .int .i64 d]) rfl (by kernel_rfl) (by kernel_rfl) (by kernel_rfl) (fun _ _ _ h => h) (Or.inl ⟨by kernel_rfl, ?_⟩) (by assumption) ?_
  · (intro w hSw; (try dsimp only at hSw); go_simp; have y := gcell hSw c0; have y2 := gcell hSw c1; clear hSw; go_simp; first | done | with_reducible rfl)
  try go_simp
  refine wpAnyH_ready (rs := [4]) (by kernel_rfl) (by simp) ?_
  refine AllReadyH.cons (o := _) rfl (fun K hK => ?_) AllReadyH.nil
  go_simp
  refine (KF.out _).mono ?_
  rintro e w2 ⟨rfl, g2⟩
  have gx2 : w1.grownBy w2 none := (grown_dr (grown_refl w1)).trans g2
  first | (refine hK.out _ _ ?_ (fun hHeld => ?_)) | (go_wp2_with fail; refine hK.out _ _ ?_ (fun hHeld => ?_))
  · (try dsimp only); (repeat (first | assumption | exact grown_refl _ | refine grown_dr ?_ | refine grown_al ?_))
  clear hK K
  refine wpAnyH_take (i := 5) (oi := _) (v := ?_) rfl (by kernel_rfl) (by kernel_rfl) (by kernel_rfl) (fun _ _ _ h => h) (Or.inl ⟨by rfl, ?_⟩) (by assumption) ?_
  rotate_left 1
  · (intro w hSw; (try dsimp only at hSw); go_simp; first | done | with_reducible rfl)
  try go_simp
  refine wpAnyH_take (i := 6) (oi := _) (v := ?_) rfl (by kernel_rfl) (by kernel_rfl) (by kernel_rfl) (fun _ _ _ h => h) (Or.inl ⟨by rfl, ?_⟩) (by assumption) ?_
  rotate_left 1
  · (intro w hSw; (try dsimp only at hSw); go_simp; first | done | with_reducible rfl)
  try go_simp
  refine wpAnyH_done (by kernel_rfl) ?_ _
  refine NoPanic.normal ?_
  go_simp
  go_wp2_with fail
  go_ret2
  exact ⟨rfl, gg.trans gx2⟩
set_option maxRecDepth 100000 in
theorem round_na (n d how : Int) (hn : i64 n) (hd : i64 d) (hr : rightB n d = false) (w : World) :
    Calls Tryd.prog 22 #[.agg #[.int .i64 n, .int .i64 d], .int .i64 how] w fun e w' => e = .returned (.tuple #[.int .i64 0, .int .i64 1]) ∧ w.grownBy w' none := by
  have Kr := Lib.hid (right_k n d hn hd)
  rw [hr] at Kr
  clear hr
  obtain ⟨w0, hw0, Ra, hways, gg⟩ := boxw w n d
  have H0 := Lib.hid hw0
  clear hw0 hways Ra
  go_enter Tryd.func22, Tryd.ntmps22
  go_wp2_with fail
  rw [← H0.out]
  refine (Kr.out _).mono ?_
  rintro e w1 ⟨rfl, g⟩
  have gg := gg.trans g
  clear g Kr
  go_wp2_with fail
  go_ret2
  exact ⟨rfl, gg⟩
set_option maxRecDepth 100000 in
theorem round_nb (n d how : Int) (hn : i64 n) (hd : i64 d) (hr : rightB n d = true) (h1 : how < 1) (w : World) :
    Calls Tryd.prog 22 #[.agg #[.int .i64 n, .int .i64 d], .int .i64 how] w fun e w' => e = .returned (.tuple #[.int .i64 0, .int .i64 1]) ∧ w.grownBy w' none := by
  have Kr := Lib.hid (right_k n d hn hd)
  rw [hr] at Kr
  clear hr
  obtain ⟨w0, hw0, Ra, hways, gg⟩ := boxw w n d
  have H0 := Lib.hid hw0
  clear hw0 hways Ra
  go_enter Tryd.func22, Tryd.ntmps22
  go_wp2_with fail
  rw [← H0.out]
  refine (Kr.out _).mono ?_
  rintro e w1 ⟨rfl, g⟩
  have gg := gg.trans g
  clear g Kr
  go_wp2_with fail
  go_ret2
  exact ⟨rfl, gg⟩
set_option maxRecDepth 100000 in
theorem round_nc (n d how : Int) (hn : i64 n) (hd : i64 d) (hr : rightB n d = true) (h1 : 4 < how) (w : World) :
    Calls Tryd.prog 22 #[.agg #[.int .i64 n, .int .i64 d], .int .i64 how] w fun e w' => e = .returned (.tuple #[.int .i64 0, .int .i64 1]) ∧ w.grownBy w' none := by
  have Kr := Lib.hid (right_k n d hn hd)
  rw [hr] at Kr
  clear hr
  obtain ⟨w0, hw0, Ra, hways, gg⟩ := boxw w n d
  have H0 := Lib.hid hw0
  clear hw0 hways Ra
  have h2 : ¬ how < 1 := by omega
  go_enter Tryd.func22, Tryd.ntmps22
  go_wp2_with fail
  rw [← H0.out]
  refine (Kr.out _).mono ?_
  rintro e w1 ⟨rfl, g⟩
  have gg := gg.trans g
  clear g Kr
  go_wp2_with fail
  go_ret2
  exact ⟨rfl, gg⟩
theorem round_k (n d how : Int) (hn : i64 n) (hd : i64 d) (w : World) :
    Calls Tryd.prog 22 #[.agg #[.int .i64 n, .int .i64 d], .int .i64 how] w fun e w' => e = .returned (.tuple #[.int .i64 (rndV n d how), .int .i64 (rndE n d how)]) ∧ w.grownBy w' none := by
  cases hr : rightB n d with
  | false =>
    have e1 : rndV n d how = 0 := by unfold rndV; simp [hr]
    have e2 : rndE n d how = 1 := by unfold rndE; simp [hr]
    rw [e1, e2]; exact round_na n d how hn hd hr w
  | true =>
    rcases Int.lt_or_le how 1 with h1 | h1
    · have e1 : rndV n d how = 0 := by unfold rndV; simp [hr, show ¬ 1 ≤ how by omega]
      have e2 : rndE n d how = 1 := by unfold rndE; simp [hr, show ¬ 1 ≤ how by omega]
      rw [e1, e2]; exact round_nb n d how hn hd hr h1 w
    · rcases Int.lt_or_le 4 how with h4 | h4
      · have e1 : rndV n d how = 0 := by unfold rndV; simp [hr, show ¬ how ≤ 4 by omega]
        have e2 : rndE n d how = 1 := by unfold rndE; simp [hr, show ¬ how ≤ 4 by omega]
        rw [e1, e2]; exact round_nc n d how hn hd hr h4 w
      · have e1 : rndV n d how = rndQ how n d := by unfold rndV; simp [hr, h1, h4]
        have e2 : rndE n d how = 0 := by unfold rndE; simp [hr, h1, h4]
        rw [e1, e2]
        rcases (show how = 1 ∨ how = 2 ∨ how = 3 ∨ how = 4 by omega) with rfl | rfl | rfl | rfl
        · exact round_1 n d hn hd hr w
        · exact round_2 n d hn hd hr w
        · exact round_3 n d hn hd hr w
        · exact round_4 n d hn hd hr w
end Go.Proofs.YtekhdcfnpgkodaaDoor
