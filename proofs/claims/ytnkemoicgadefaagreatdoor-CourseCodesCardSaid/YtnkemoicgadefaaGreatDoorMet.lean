/-
  Met.
-/
import Derived.Test.YtnkemoicgadefaaGreatDoorIdx
import Derived.BigQuiet
import Derived.Deep.RegionHeld3
namespace Go.Proofs.YtnkemoicgadefaaGreatDoor
open Go.RowKit
attribute [local go_sem] get_mk extract_mk
theorem all_iff {l S T : List Str} (h : ∀ s, s ∈ S ↔ s ∈ T) : (l.all fun n => decide (n ∈ S)) = (l.all fun n => decide (n ∈ T)) := by
  congr 1
  funext n
  rw [Bool.eq_iff_iff]
  simp [h]
set_option maxRecDepth 100000 in
set_option maxHeartbeats 1000000 in
theorem met_k (A : Option Addr) (n c : Nat) (vs : List V) (l : List O) (code : Str) (B : Option Addr) (m d : Nat) (has : List Str) (w : World) (h : Offs w A n c vs l) (hh : Strs w B m d has) :
    Calls Tryz.prog 18 #[.slice A n c, .string ⟨code.toArray⟩, .slice B m d] w fun e w' => e = .returned (.bool (metV l code has)) ∧ w.grownBy w' none := by
  have HO := Lib.hid (fun W (g : w.grownBy W none) => h.kept g)
  have HH := Lib.hid (fun W (g : w.grownBy W none) => hh.kept g)
  have HI := Lib.hid (index_k A n c vs l code w h)
  have hle := h.v.le
  have hcap := h.v.cap
  clear h hh
  go_enter Tryz.func18, Tryz.ntmps18
  go_wp2_with fail
  refine HI.out.mono ?_
  rintro e w2 (⟨rfl, hf, g⟩ | ⟨k, o, hk, rfl, ho, hf, g⟩)
  · have HE : Hid (metV l code has = false) := Lib.hid (by unfold metV; rw [hf])
    have G := Lib.hid g
    clear hf g HI
    go_upto_region 2 with fail
    go_region
    go_wp2_with fail
    go_ret
    exact ⟨by rw [HE.out]; rfl, grown_dr G.out⟩
  · obtain ⟨ad, v, o', ho', _, rfl, hbl, hv, x0, x1, x2, x3, x4⟩ := (HO.out _ g).at k hk
    rw [ho] at ho'
    obtain rfl := Option.some.inj ho'
    have HE : Hid (metV l code has = o.needs.all fun n => decide (n ∈ has)) := Lib.hid (by unfold metV; rw [hf])
    have G := Lib.hid g
    obtain ⟨vc, vr, vp, sA, sn, sc, nA, nn, nc⟩ := v
    simp only at x4
    have SK := Lib.hid (fun W (g : w2.grownBy W none) => setS_k B m d has W (HH.out _ (G.out.trans g)))
    have AL := Lib.hid (fun (M : Nat) (S : List Str) W (g : w2.grownBy W none) (hS : SetD encS W M S) => allIn_k nA nn nc o.needs M S W (hv.needs.kept g) hS)
    have k1 : (0 : Int) ≤ (k : Int) := by omega
    have k2 : (k : Int) < (n : Int) := by omega
    have kd : decide ((k : Int) ≥ 0) = true := decide_eq_true (by omega)
    have r5 : IntKind.i64.wrap (k : Int) = (k : Int) := by rw [IntKind.wrap_i64]; omega
    clear ho ho' hf g hv x0 x1 x2 x3 HI hbl
    go_upto_region 2 with fail
    have gz : w2.grownBy w2.drew none := grown_dr (grown_refl _)
    refine wp_region_noPanic ?_
    refine wp_region_held_drew (S := (fun w' => w2.grownBy w' none)) (by kernel_rfl) ?_ (fun hHeld => ?_)
    · (try dsimp only); (repeat (first | assumption | exact grown_refl _ | refine grown_dr ?_ | refine grown_dn ?_ | refine grown_al ?_))
    refine wpAnyH_take (i := 0) (oi := _) (v := ?_) rfl (by kernel_rfl) (by kernel_rfl) (by kernel_rfl) (fun _ _ _ h => h) (Or.inl ⟨by rfl, ?_⟩) (by assumption) ?_
    rotate_left 1
    · (intro w hSw; (try dsimp only at hSw); go_simp; first | done | with_reducible rfl)
    try go_simp
    refine wpAnyH_take (i := 1) (oi := _) (v := ?_) rfl (by kernel_rfl) (by kernel_rfl) (by kernel_rfl) (fun _ _ _ h => h) (Or.inl ⟨by rfl, ?_⟩) (by assumption) ?_
    rotate_left 1
    · (intro w hSw; (try dsimp only at hSw); go_simp; first | done | with_reducible rfl)
    try go_simp
    refine wpAnyH_take (i := 2) (oi := _) (v := ?_) rfl (by kernel_rfl) (by kernel_rfl) (by kernel_rfl) (fun _ _ _ h => h) (Or.inl ⟨by rfl, ?_⟩) (by assumption) ?_
    rotate_left 1
    · (intro w hSw; (try dsimp only at hSw); go_simp; first | done | with_reducible rfl)
    try go_simp
    refine wpAnyH_take (i := 3) (oi := _) (v := ?_) rfl (by kernel_rfl) (by kernel_rfl) (by kernel_rfl) (fun _ _ _ h => h) (Or.inl ⟨by kernel_rfl, ?_⟩) (by assumption) ?_
    rotate_left 1
    · (intro w hSw; (try dsimp only at hSw); go_simp; first | done | with_reducible rfl)
    try go_simp
    refine wpAnyH_take (i := 4) (oi := _) (v := ?_) rfl (by kernel_rfl) (by kernel_rfl) (by kernel_rfl) (fun _ _ _ h => h) (Or.inl ⟨by kernel_rfl, ?_⟩) (by assumption) ?_
    rotate_left 1
    · (intro w hSw; (try dsimp only at hSw); go_simp; first | done | with_reducible rfl)
    try go_simp
    refine wpAnyH_take (i := 5) (oi := _) (v := ?_) rfl (by kernel_rfl) (by kernel_rfl) (by kernel_rfl) (fun _ _ _ h => h) (Or.inl ⟨by kernel_rfl, ?_⟩) (by assumption) ?_
    rotate_left 1
    · (intro w hSw; (try dsimp only at hSw); go_simp; first | done | with_reducible rfl)
    try go_simp
    refine wpAnyH_take (i := 6) (oi := _) (v := ?_) rfl (by kernel_rfl) (by kernel_rfl) (by kernel_rfl) (fun _ _ _ h => h) (Or.inl ⟨by kernel_rfl, ?_⟩) (by assumption) ?_
    rotate_left 1
    · (intro w hSw; (try dsimp only at hSw); go_simp; first | done | with_reducible rfl)
    try go_simp
    refine wpAnyH_take (i := 7) (oi := _) (v := .slice nA nn nc) rfl (by kernel_rfl) (by kernel_rfl) (by kernel_rfl) (fun _ _ _ h => h) (Or.inl ⟨by kernel_rfl, ?_⟩) (by assumption) ?_
    · (intro w hSw; (try dsimp only at hSw); go_simp; have y0 := gcell hSw x4; clear hSw; go_simp; first | done | with_reducible rfl)
    try go_simp
    refine wpAnyH_take (i := 8) (oi := _) (v := ?_) rfl (by kernel_rfl) (by kernel_rfl) (by kernel_rfl) (fun _ _ _ h => h) (Or.inl ⟨by kernel_rfl, ?_⟩) (by assumption) ?_
    rotate_left 1
    · (intro w hSw; (try dsimp only at hSw); go_simp; first | done | with_reducible rfl)
    try go_simp
    refine wpAnyH_ready (rs := [9]) (by kernel_rfl) (by simp) ?_
    refine AllReadyH.cons (o := _) rfl (fun K hK => ?_) AllReadyH.nil
    go_simp
    refine (SK.out _ gz).mono ?_
    rintro e w3 ⟨M, S, rfl, _, hS, hiff, g⟩
    have hS2 := hS
    replace gz := gz.trans g
    clear g
    first | (refine hK.out _ _ ?_ (fun hHeld => ?_)) | (go_wp2_with fail; refine hK.out _ _ ?_ (fun hHeld => ?_))
    · (try dsimp only); (repeat (first | assumption | exact grown_refl _ | refine grown_dr ?_ | refine grown_dn ?_ | refine grown_al ?_))
    clear hK K
    refine wpAnyH_ready (rs := [10]) (by kernel_rfl) (by simp) ?_
    refine AllReadyH.cons (o := _) rfl (fun K hK => ?_) AllReadyH.nil
    go_simp
    refine (AL.out M S _ gz hS2).mono ?_
    rintro e w4 ⟨rfl, g⟩
    replace gz := gz.trans g
    clear g
    first | (refine hK.out _ _ ?_ (fun hHeld => ?_)) | (go_wp2_with fail; refine hK.out _ _ ?_ (fun hHeld => ?_))
    · (try dsimp only); (repeat (first | assumption | exact grown_refl _ | refine grown_dr ?_ | refine grown_dn ?_ | refine grown_al ?_))
    clear hK K
    refine wpAnyH_take (i := 11) (oi := _) (v := ?_) rfl (by kernel_rfl) (by kernel_rfl) (by kernel_rfl) (fun _ _ _ h => h) (Or.inl ⟨by rfl, ?_⟩) (by assumption) ?_
    rotate_left 1
    · (intro w hSw; (try dsimp only at hSw); go_simp; first | done | with_reducible rfl)
    try go_simp
    refine wpAnyH_take (i := 12) (oi := _) (v := ?_) rfl (by kernel_rfl) (by kernel_rfl) (by kernel_rfl) (fun _ _ _ h => h) (Or.inl ⟨by rfl, ?_⟩) (by assumption) ?_
    rotate_left 1
    · (intro w hSw; (try dsimp only at hSw); go_simp; first | done | with_reducible rfl)
    try go_simp
    refine wpAnyH_done (by kernel_rfl) ?_ _
    refine NoPanic.normal ?_
    go_simp
    have G4 := Lib.hid (G.out.trans gz)
    clear gz SK AL hiff hS
    go_wp2_with fail
    go_ret
    exact ⟨by rw [HE.out]; rfl, G4.out⟩
end Go.Proofs.YtnkemoicgadefaaGreatDoor
