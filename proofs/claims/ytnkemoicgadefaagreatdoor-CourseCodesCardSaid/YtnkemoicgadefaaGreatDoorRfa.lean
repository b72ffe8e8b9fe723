/-
  The reference's Has and Clash; Mod.
-/
import Derived.Test.YtnkemoicgadefaaGreatDoorOfr
namespace Go.Proofs.YtnkemoicgadefaaGreatDoor
open Go.RowKit
attribute [local go_sem] get_mk extract_mk
theorem tm_le (x m : Int) (h : 0 < m) : -m < x.tmod m ∧ x.tmod m < m := ⟨by have := Int.lt_tmod_of_pos x h; omega, Int.tmod_lt_of_pos x h⟩
def modV (x m : Int) : Int := (x.tmod m + m).tmod m
theorem modV_range (x m : Int) (h : 0 < m) : 0 ≤ modV x m ∧ modV x m < m := by
  have h1 := tm_le x m h
  unfold modV
  exact ⟨Int.tmod_nonneg _ (by omega), Int.tmod_lt_of_pos _ h⟩
theorem mod_k (x m : Int) (hm : 0 < m) (h1 : m ≤ 1000) (w : World) : Calls Tryz.prog 62 #[.int .i64 x, .int .i64 m] w fun e w' => e = .returned (.int .i64 (modV x m)) ∧ w' = w := by
  have h2 := tm_le x m hm
  have e1 : IntKind.i64.wrap (x.tmod m) = x.tmod m := by rw [IntKind.wrap_i64]; omega
  have e2 : IntKind.i64.wrap (x.tmod m + m) = x.tmod m + m := by rw [IntKind.wrap_i64]; omega
  have h3 := modV_range x m hm
  have e3 : IntKind.i64.wrap ((x.tmod m + m).tmod m) = (x.tmod m + m).tmod m := by
    rw [IntKind.wrap_i64]
    unfold modV at h3
    omega
  have hz : (m == 0) = false := by simp; omega
  have hz2 : m ≠ 0 := by omega
  have HE : Hid ((x.tmod m + m).tmod m = modV x m) := Lib.hid rfl
  clear h2 h3
  go_enter Tryz.func62, Tryz.ntmps62
  go_wp2_with fail
  go_ret
  exact ⟨rfl, rfl⟩
theorem grown_drS (w : World) (r : Option Nat) : w.grownBy w.drew r := ⟨rfl, rfl, rfl, Nat.le_refl _, fun _ _ _ => rfl⟩
theorem draw_r (P : Nat) (A : Option Addr) (n c : Nat) (l : List Int) (at_ : Nat) (m : Int) (hm : 0 < m) (hm9 : m ≤ 1000) (w : World) (hr : Row w P 51 #[.slice A n c, .int .i64 (at_ : Int)]) (ha : at_ ≤ n) (h : Ints w A n c l) (hne : ∀ ad, A = some ad → 0 < n → ad.block ≠ P) :
    Calls Tryz.prog 22 #[.pointer (some ⟨P, 0, none⟩), .int .i64 m] w fun e w' => ∃ (v : Int) (a : Nat), e = .returned (.int .i64 v) ∧ (0 ≤ v ∧ v < m) ∧ a ≤ n ∧ Row w' P 51 #[.slice A n c, .int .i64 (a : Int)] ∧ w.grownBy w' (some P) := by
  have HA := Lib.hid h
  have hle := h.v.le
  have hcap := h.v.cap
  have c0 := hr.c 0 rfl
  have c1 := hr.c 1 rfl
  have f1 := hr.fz 1
  have hsz := hr.lt
  have HR := Lib.hid hr
  clear h hr
  by_cases hlt : at_ < n
  · obtain ⟨ad, x, hx, _, rfl, _, cx⟩ := HA.out.at at_ hlt
    have kd : decide ((at_ : Int) ≥ (n : Int)) = false := decide_eq_false (by omega)
    have k5 : IntKind.i64.wrap (at_ : Int) = (at_ : Int) := by rw [IntKind.wrap_i64]; omega
    have k6 : IntKind.i64.wrap ((at_ : Int) + 1) = (at_ : Int) + 1 := by rw [IntKind.wrap_i64]; omega
    clear hx
    go_enter Tryz.func22, Tryz.ntmps22
    go_upto_region 1 with fail
    go_region
    go_upto_region 4 with fail
    have R5 : Row (w.setCell ⟨P, 1, none⟩ (.int .i64 ((at_ : Int) + 1))).drew P 51 #[.slice (some ad) n c, .int .i64 ((at_ : Int) + 1)] := (HR.out.set 1 (.int .i64 ((at_ : Int) + 1))).kept (grown_dr (grown_refl _))
    have g5 : w.grownBy (w.setCell ⟨P, 1, none⟩ (.int .i64 ((at_ : Int) + 1))).drew (some P) := (grown_setCell w P 1 (.int .i64 ((at_ : Int) + 1))).trans (grown_drS _ (some P))
    have x5 := g5.cell cx (by rw [add_block]; intro e; injection e with e; exact hne ad rfl (by omega) e)
    clear c0 c1 f1 cx
    generalize (w.setCell ⟨P, 1, none⟩ (.int .i64 ((at_ : Int) + 1))).drew = w5 at *
    have y0 := R5.c 0 rfl
    have y1 := R5.c 1 rfl
    have k1 : (0 : Int) ≤ (at_ : Int) := by omega
    have k2 : (at_ : Int) < (n : Int) := by omega
    have k7 : IntKind.i64.wrap ((at_ : Int) + 1 - 1) = (at_ : Int) := by rw [IntKind.wrap_i64]; omega
    have R5h := Lib.hid R5
    have g5h := Lib.hid g5
    clear R5 g5 HR
    have gz : w5.grownBy w5.drew none := grown_dr (grown_refl _)
    refine wp_region_noPanic ?_
    refine wp_region_held_drew (S := (fun w' => w5.grownBy w' none)) (by kernel_rfl) ?_ (fun hHeld => ?_)
    · (try dsimp only); (repeat (first | assumption | exact grown_refl _ | refine grown_dr ?_ | refine grown_dn ?_ | refine grown_al ?_))
    refine wpAnyH_take (i := 0) (oi := _) (v := ?_) rfl (by kernel_rfl) (by kernel_rfl) (by kernel_rfl) (fun _ _ _ h => h) (Or.inl ⟨by rfl, ?_⟩) (by assumption) ?_
    rotate_left 1
    · (intro w hSw; (try dsimp only at hSw); go_simp; first | done | with_reducible rfl)
    try go_simp
    refine wpAnyH_take (i := 1) (oi := _) (v := ?_) rfl (by kernel_rfl) (by kernel_rfl) (by kernel_rfl) (fun _ _ _ h => h) (Or.inl ⟨by rfl, ?_⟩) (by assumption) ?_
    rotate_left 1
    · (intro w hSw; (try dsimp only at hSw); go_simp; first | done | with_reducible rfl)
    try go_simp
    refine wpAnyH_take (i := 2) (oi := _) (v := ?_) rfl (by kernel_rfl) (by kernel_rfl) (by kernel_rfl) (fun _ _ _ h => h) (Or.inl ⟨by rfl, ?_⟩) (by assumption) ?_
    rotate_left 1
    · (intro w hSw; (try dsimp only at hSw); go_simp; first | done | with_reducible rfl)
    try go_simp
    refine wpAnyH_take (i := 3) (oi := _) (v := .slice (some ad) n c) rfl (by kernel_rfl) (by kernel_rfl) (by kernel_rfl) (fun _ _ _ h => h) (Or.inl ⟨by kernel_rfl, ?_⟩) (by assumption) ?_
    · (intro w hSw; (try dsimp only at hSw); go_simp; have y0 := gcell hSw y0; clear hSw; go_simp; first | done | with_reducible rfl)
    try go_simp
    refine wpAnyH_take (i := 4) (oi := _) (v := ?_) rfl (by kernel_rfl) (by kernel_rfl) (by kernel_rfl) (fun _ _ _ h => h) (Or.inl ⟨by rfl, ?_⟩) (by assumption) ?_
    rotate_left 1
    · (intro w hSw; (try dsimp only at hSw); go_simp; first | done | with_reducible rfl)
    try go_simp
    refine wpAnyH_take (i := 5) (oi := _) (v := ?_) rfl (by kernel_rfl) (by kernel_rfl) (by kernel_rfl) (fun _ _ _ h => h) (Or.inl ⟨by rfl, ?_⟩) (by assumption) ?_
    rotate_left 1
    · (intro w hSw; (try dsimp only at hSw); go_simp; first | done | with_reducible rfl)
    try go_simp
    refine wpAnyH_take (i := 6) (oi := _) (v := ?_) rfl (by kernel_rfl) (by kernel_rfl) (by kernel_rfl) (fun _ _ _ h => h) (Or.inl ⟨by rfl, ?_⟩) (by assumption) ?_
    rotate_left 1
    · (intro w hSw; (try dsimp only at hSw); go_simp; first | done | with_reducible rfl)
    try go_simp
    refine wpAnyH_take (i := 7) (oi := _) (v := .int .i64 ((at_ : Int) + 1)) rfl (by kernel_rfl) (by kernel_rfl) (by kernel_rfl) (fun _ _ _ h => h) (Or.inl ⟨by kernel_rfl, ?_⟩) (by assumption) ?_
    · (intro w hSw; (try dsimp only at hSw); go_simp; have y0 := gcell hSw y1; clear hSw; go_simp; first | done | with_reducible rfl)
    try go_simp
    refine wpAnyH_take (i := 8) (oi := _) (v := .int .i64 (at_ : Int)) rfl (by kernel_rfl) (by kernel_rfl) (by kernel_rfl) (fun _ _ _ h => h) (Or.inl ⟨by kernel_rfl, ?_⟩) (by assumption) ?_
    · (intro w hSw; (try dsimp only at hSw); go_simp; done)
    try go_simp
    refine wpAnyH_take (i := 9) (oi := _) (v := ?_) rfl (by kernel_rfl) (by kernel_rfl) (by kernel_rfl) (fun _ _ _ h => h) (Or.inl ⟨by rfl, ?_⟩) (by assumption) ?_
    rotate_left 1
    · (intro w hSw; (try dsimp only at hSw); go_simp; first | done | with_reducible rfl)
    try go_simp
    refine wpAnyH_take (i := 10) (oi := _) (v := .int .i64 x) rfl (by kernel_rfl) (by kernel_rfl) (by kernel_rfl) (fun _ _ _ h => h) (Or.inl ⟨by kernel_rfl, ?_⟩) (by assumption) ?_
    · (intro w hSw; (try dsimp only at hSw); go_simp; have y0 := gcell hSw x5; clear hSw; go_simp; first | done | with_reducible rfl)
    try go_simp
    refine wpAnyH_take (i := 11) (oi := _) (v := ?_) rfl (by kernel_rfl) (by kernel_rfl) (by kernel_rfl) (fun _ _ _ h => h) (Or.inl ⟨by rfl, ?_⟩) (by assumption) ?_
    rotate_left 1
    · (intro w hSw; (try dsimp only at hSw); go_simp; first | done | with_reducible rfl)
    try go_simp
    refine wpAnyH_ready (rs := [12]) (by kernel_rfl) (by simp) ?_
    refine AllReadyH.cons (o := _) rfl (fun K hK => ?_) AllReadyH.nil
    go_simp
    refine (mod_k x m hm hm9 _).mono ?_
    rintro e w6 ⟨rfl, rfl⟩
    first | (refine hK.out _ _ ?_ (fun hHeld => ?_)) | (go_wp2_with fail; refine hK.out _ _ ?_ (fun hHeld => ?_))
    · (try dsimp only); (repeat (first | assumption | exact grown_refl _ | refine grown_dr ?_ | refine grown_dn ?_ | refine grown_al ?_))
    clear hK K
    refine wpAnyH_take (i := 13) (oi := _) (v := ?_) rfl (by kernel_rfl) (by kernel_rfl) (by kernel_rfl) (fun _ _ _ h => h) (Or.inl ⟨by rfl, ?_⟩) (by assumption) ?_
    rotate_left 1
    · (intro w hSw; (try dsimp only at hSw); go_simp; first | done | with_reducible rfl)
    try go_simp
    refine wpAnyH_done (by kernel_rfl) ?_ _
    refine NoPanic.normal ?_
    go_simp

    go_wp2_with fail
    go_ret
    exact ⟨modV x m, at_ + 1, rfl, modV_range x m hm, by omega, R5h.out.kept gz, g5h.out.andThen gz (fun r e => by cases e)⟩
  · have HE : Hid (at_ = n) := Lib.hid (by omega)
    have kd : decide ((at_ : Int) ≥ (n : Int)) = true := decide_eq_true (by omega)
    go_enter Tryz.func22, Tryz.ntmps22
    go_upto_region 1 with fail
    go_region
    go_wp2_with fail
    go_ret
    exact ⟨0, at_, rfl, ⟨by omega, by omega⟩, ha, HR.out.kept (grown_dr (grown_refl _)), grown_drS _ _⟩
end Go.Proofs.YtnkemoicgadefaaGreatDoor
