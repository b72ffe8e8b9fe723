/-
  WirePrefix: the walk, where the kind is 2.
-/
import Derived.Test.YtmohcanfkcopiaaDoorPBase
namespace Go.Proofs.YtmohcanfkcopiaaDoor
open Go.RowKit
attribute [local go_sem] get_mk extract_mk

set_option maxRecDepth 100000 in
set_option maxHeartbeats 8000000 in
theorem prefix_walk2 (v u : Val) (hk4 : v.kd % 4 = 2) (w : World) (hb : Base w) (hv : v.ok w) (hu : u.ok w) : Calls Tryd.prog 8 #[.agg v.cells, .agg u.cells] w fun e w' => e = .returned (.bool true) ∧ w.grownBy w' none := by
  have hb6 := hb.size
  obtain ⟨kd, n, s, A, ln, lc, l, B, tn, tc, t⟩ := v
  obtain ⟨kd', n', s', A', ln', lc', l', B', tn', tc', t'⟩ := u
  simp only [Val.cells]
  go_enter Tryd.func8, Tryd.ntmps8
  obtain ⟨wa, hwa⟩ : ∃ wa, (w.alloc (.cells #[.int .u8 (kd : Int), .int .i64 n, .string ⟨s.toArray⟩, .slice A ln lc, .slice B tn tc] 45)).alloc (.cells #[.int .u8 (kd' : Int), .int .i64 n', .string ⟨s'.toArray⟩, .slice A' ln' lc', .slice B' tn' tc'] 45) = wa := ⟨_, rfl⟩
  have a0 : w.grownBy wa none := by rw [← hwa]; exact grown_al (World.grownBy_alloc w _ none)
  have n21 : (w.alloc (.cells #[.int .u8 (kd : Int), .int .i64 n, .string ⟨s.toArray⟩, .slice A ln lc, .slice B tn tc] 45)).heap.size = w.heap.size + 1 := by simp
  have bxa : wa.heap[w.heap.size]? = some (.cells #[.int .u8 (kd : Int), .int .i64 n, .string ⟨s.toArray⟩, .slice A ln lc, .slice B tn tc] 45 (0, 0)) := by
    rw [← hwa]
    exact ((World.grownBy_alloc (w.alloc (.cells #[.int .u8 (kd : Int), .int .i64 n, .string ⟨s.toArray⟩, .slice A ln lc, .slice B tn tc] 45)) (.cells #[.int .u8 (kd' : Int), .int .i64 n', .string ⟨s'.toArray⟩, .slice A' ln' lc', .slice B' tn' tc'] 45) none).block _ (by omega) (by simp)).trans (heap_alloc_new w _)
  have bxb : wa.heap[w.heap.size + 1]? = some (.cells #[.int .u8 (kd' : Int), .int .i64 n', .string ⟨s'.toArray⟩, .slice A' ln' lc', .slice B' tn' tc'] 45 (0, 0)) := by
    rw [← hwa, ← n21]
    exact heap_alloc_new _ _
  have Hs := Lib.hid (fun w1 (g : wa.grownBy w1 none) => sane w1 ((hb.none_ a0).none_ g))
  go_wp2_with fail
  try rw [hwa]
  refine (Hs.out _ (World.grownBy.refl _ _)).mono ?_
  rintro e w0 ⟨rfl, g1⟩
  clear Hs
  have hbw := hb.none_ (a0.trans g1)
  have hvw := hv.kept (a0.trans g1)
  have huw := hu.kept (a0.trans g1)
  have gw0 := Lib.hid (a0.trans g1)
  have lta : w.heap.size < wa.heap.size := (Array.getElem?_eq_some_iff.1 bxa).1
  have ltb : w.heap.size + 1 < wa.heap.size := (Array.getElem?_eq_some_iff.1 bxb).1
  have bxa := (g1.block _ lta (by simp)).trans bxa
  have bxb := (g1.block _ ltb (by simp)).trans bxb
  have lta := Nat.lt_of_lt_of_le lta g1.size
  have ltb := Nat.lt_of_lt_of_le ltb g1.size
  clear hwa a0 g1 n21
  generalize hn2 : w.heap.size + 1 = n2 at *
  generalize hn1 : w.heap.size = n1 at *
  have HB0 : Hid (∀ w', w0.grownBy w' none → Base w') := Lib.hid (fun w' g => hbw.none_ g)
  have HV0 : Hid (∀ w', w0.grownBy w' none → Val.ok ⟨kd, n, s, A, ln, lc, l, B, tn, tc, t⟩ w') := Lib.hid (fun w' g => hvw.kept g)
  have HU0 : Hid (∀ w', w0.grownBy w' none → Val.ok ⟨kd', n', s', A', ln', lc', l', B', tn', tc', t'⟩ w') := Lib.hid (fun w' g => huw.kept g)
  have HS0 : Hid (∀ w', w0.grownBy w' none → w'.cell? ⟨n1, 0, none⟩ = some (.int .u8 (kd : Int)) ∧ w'.cell? ⟨n1, 1, none⟩ = some (.int .i64 n) ∧ w'.cell? ⟨n1, 2, none⟩ = some (.string ⟨s.toArray⟩) ∧ w'.cell? ⟨n1, 3, none⟩ = some (.slice A ln lc) ∧ w'.cell? ⟨n1, 4, none⟩ = some (.slice B tn tc) ∧ w'.cell? ⟨n2, 0, none⟩ = some (.int .u8 (kd' : Int)) ∧ w'.cell? ⟨n2, 1, none⟩ = some (.int .i64 n') ∧ w'.cell? ⟨n2, 2, none⟩ = some (.string ⟨s'.toArray⟩) ∧ w'.cell? ⟨n2, 3, none⟩ = some (.slice A' ln' lc') ∧ w'.cell? ⟨n2, 4, none⟩ = some (.slice B' tn' tc') ∧ w0.grownBy w' none) := by
    refine Lib.hid (fun w' g => ?_)
    have b1 := (g.block n1 lta (by simp)).trans bxa
    have b2 := (g.block n2 ltb (by simp)).trans bxb
    refine ⟨?_, ?_, ?_, ?_, ?_, ?_, ?_, ?_, ?_, ?_, g⟩ <;> simp [World.cell?, b1, b2]
  have g1 : w0.grownBy w0 none := World.grownBy.refl _ _
  have hk : (kd : Int).tmod 4 = 2 := by
    rw [Int.tmod_eq_emod_of_nonneg (by omega)]
    have : kd % 4 = 2 := hk4
    omega
  have hk' : (kd : Int) % 4 = 2 := by
    have : kd % 4 = 2 := hk4
    omega
  have e1 : (0 : Int) ≤ min (s.length : Int) 100 := by omega
  have e2 : min (s.length : Int) 100 ≤ (s.length : Int) := by omega
  have e3 : (0 : Int) ≤ min (ln : Int) 20 := by omega
  have e4 : min (ln : Int) 20 ≤ (lc : Int) := by have := hv.lle; simp only at this; omega
  have f1 : (0 : Int) ≤ min (s'.length : Int) 100 := by omega
  have f2 : min (s'.length : Int) 100 ≤ (s'.length : Int) := by omega
  have f3 : (0 : Int) ≤ min (ln' : Int) 20 := by omega
  have f4 : min (ln' : Int) 20 ≤ (lc' : Int) := by have := hu.lle; simp only at this; omega
  have e5 : (0 : Int) ≤ (kd : Int) % 4 := by omega
  have e6 : (kd : Int) % 4 < 4 := by omega
  have e7 : (kd : Int) ≤ 255 := by have := hv.k; simp only at this; omega
  have e8 : s.length ≤ 9223372036854775807 := hv.sl
  have e9 : ln ≤ lc := hv.lle
  have e10 : lc ≤ 9223372036854775807 := hv.lcm
  have f8 : s'.length ≤ 9223372036854775807 := hu.sl
  have f9 : ln' ≤ lc' := hu.lle
  have f10 : lc' ≤ 9223372036854775807 := hu.lcm
  have Hk4 := Lib.hid hk4
  have Hhv := Lib.hid hv
  have Hhu := Lib.hid hu
  have Hb6 := Lib.hid hb6
  have Hn1 := Lib.hid hn1
  clear bxa bxb hbw hvw huw hb hv hu hb6 hn1 hk4
  go_upto_region 2 with fail
  go_cut [6, 7] (fun x y wx => x = .string ⟨(serL serI (l.take 20)).toArray⟩ ∧ y = .string ⟨(serL serI (l'.take 20)).toArray⟩ ∧ w0.grownBy wx none)
  case first =>
    refine wp_region_noPanic ?_
    refine wp_region_held_drew (S := (fun w' => w'.cell? ⟨n1, 0, none⟩ = some (.int .u8 (kd : Int)) ∧ w'.cell? ⟨n1, 1, none⟩ = some (.int .i64 n) ∧ w'.cell? ⟨n1, 2, none⟩ = some (.string ⟨s.toArray⟩) ∧ w'.cell? ⟨n1, 3, none⟩ = some (.slice A ln lc) ∧ w'.cell? ⟨n1, 4, none⟩ = some (.slice B tn tc) ∧ w'.cell? ⟨n2, 0, none⟩ = some (.int .u8 (kd' : Int)) ∧ w'.cell? ⟨n2, 1, none⟩ = some (.int .i64 n') ∧ w'.cell? ⟨n2, 2, none⟩ = some (.string ⟨s'.toArray⟩) ∧ w'.cell? ⟨n2, 3, none⟩ = some (.slice A' ln' lc') ∧ w'.cell? ⟨n2, 4, none⟩ = some (.slice B' tn' tc') ∧ w0.grownBy w' none)) (by kernel_rfl) ?_ (fun hHeld => ?_)
    · (try dsimp only); (go_split_ands; (first | (exact HS0.out _ (by assumption)) | (exact HS0.out _ (grown_dr (by assumption))) | (exact HS0.out _ (grown_al (by assumption))) | (exact HS0.out _ (grown_dr (grown_al (by assumption))))))
    refine wpAnyH_take (i := 0) (oi := _) (v := ?_) rfl (by kernel_rfl) (by kernel_rfl) (by kernel_rfl) (fun _ _ _ h => h) (Or.inl ⟨by rfl, ?_⟩) (by assumption) ?_
    rotate_left 1
    · (intro w hSw; (try dsimp only at hSw); go_simp; first | done | with_reducible rfl)
    try simp only [Act.put]
    refine wpAnyH_take (i := 1) (oi := _) (v := ?_) rfl (by kernel_rfl) (by kernel_rfl) (by kernel_rfl) (fun _ _ _ h => h) (Or.inl ⟨by rfl, ?_⟩) (by assumption) ?_
    rotate_left 1
    · (intro w hSw; (try dsimp only at hSw); go_simp; first | done | with_reducible rfl)
    try simp only [Act.put]
    refine wpAnyH_take (i := 3) (oi := _) (v := ?_) rfl (by kernel_rfl) (by kernel_rfl) (by kernel_rfl) (fun _ _ _ h => h) (Or.inl ⟨by rfl, ?_⟩) (by assumption) ?_
    rotate_left 1
    · (intro w hSw; (try dsimp only at hSw); go_simp; first | done | with_reducible rfl)
    try simp only [Act.put]
    refine wpAnyH_take (i := 4) (oi := _) (v := ?_) rfl (by kernel_rfl) (by kernel_rfl) (by kernel_rfl) (fun _ _ _ h => h) (Or.inl ⟨by rfl, ?_⟩) (by assumption) ?_
    rotate_left 1
    · (intro w hSw; (try dsimp only at hSw); go_simp; first | done | with_reducible rfl)
    try simp only [Act.put]
    refine wpAnyH_take (i := 5) (oi := _) (v := ?_) rfl (by kernel_rfl) (by kernel_rfl) (by kernel_rfl) (fun _ _ _ h => h) (Or.inl ⟨by rfl, ?_⟩) (by assumption) ?_
    rotate_left 1
    · (intro w hSw; (try dsimp only at hSw); go_simp; first | done | with_reducible rfl)
    try simp only [Act.put]
    refine wpAnyH_take (i := 6) (oi := _) (v := ?_) rfl (by kernel_rfl) (by kernel_rfl) (by kernel_rfl) (fun _ _ _ h => h) (Or.inl ⟨by rfl, ?_⟩) (by assumption) ?_
    rotate_left 1
    · (intro w hSw; (try dsimp only at hSw); go_simp; first | done | with_reducible rfl)
    try simp only [Act.put]
    refine wpAnyH_take (i := 7) (oi := _) (v := ?_) rfl (by kernel_rfl) (by kernel_rfl) (by kernel_rfl) (fun _ _ _ h => h) (Or.inl ⟨by rfl, ?_⟩) (by assumption) ?_
    rotate_left 1
    · (intro w hSw; (try dsimp only at hSw); go_simp; first | done | with_reducible rfl)
    try simp only [Act.put]
    refine wpAnyH_take (i := 8) (oi := _) (v := ?_) rfl (by kernel_rfl) (by kernel_rfl) (by kernel_rfl) (fun _ _ _ h => h) (Or.inl ⟨by rfl, ?_⟩) (by assumption) ?_
    rotate_left 1
    · (intro w hSw; (try dsimp only at hSw); go_simp; first | done | with_reducible rfl)
    try simp only [Act.put]
    refine wpAnyH_take (i := 9) (oi := _) (v := ?_) rfl (by kernel_rfl) (by kernel_rfl) (by kernel_rfl) (fun _ _ _ h => h) (Or.inl ⟨by rfl, ?_⟩) (by assumption) ?_
    rotate_left 1
    · (intro w hSw; (try dsimp only at hSw); go_simp; first | done | with_reducible rfl)
    try simp only [Act.put]
    refine wpAnyH_take (i := 11) (oi := _) (v := ?_) rfl (by kernel_rfl) (by kernel_rfl) (by kernel_rfl) (fun _ _ _ h => h) (Or.inl ⟨by rfl, ?_⟩) (by assumption) ?_
    rotate_left 1
    · (intro w hSw; (try dsimp only at hSw); go_simp; first | done | with_reducible rfl)
    try simp only [Act.put]
    refine wpAnyH_take (i := 12) (oi := _) (v := ?_) rfl (by kernel_rfl) (by kernel_rfl) (by kernel_rfl) (fun _ _ _ h => h) (Or.inl ⟨by rfl, ?_⟩) (by assumption) ?_
    rotate_left 1
    · (intro w hSw; (try dsimp only at hSw); go_simp; first | done | with_reducible rfl)
    try simp only [Act.put]
    refine wpAnyH_take (i := 13) (oi := _) (v := ?_) rfl (by kernel_rfl) (by kernel_rfl) (by kernel_rfl) (fun _ _ _ h => h) (Or.inl ⟨by rfl, ?_⟩) (by assumption) ?_
    rotate_left 1
    · (intro w hSw; (try dsimp only at hSw); go_simp; first | done | with_reducible rfl)
    try simp only [Act.put]
    refine wpAnyH_take (i := 14) (oi := _) (v := ?_) rfl (by kernel_rfl) (by kernel_rfl) (by kernel_rfl) (fun _ _ _ h => h) (Or.inl ⟨by rfl, ?_⟩) (by assumption) ?_
    rotate_left 1
    · (intro w hSw; (try dsimp only at hSw); go_simp; first | done | with_reducible rfl)
    try simp only [Act.put]
    refine wpAnyH_take (i := 15) (oi := _) (v := ?_) rfl (by kernel_rfl) (by kernel_rfl) (by kernel_rfl) (fun _ _ _ h => h) (Or.inl ⟨by rfl, ?_⟩) (by assumption) ?_
    rotate_left 1
    · (intro w hSw; (try dsimp only at hSw); go_simp; first | done | with_reducible rfl)
    try simp only [Act.put]
    refine wpAnyH_take (i := 16) (oi := _) (v := ?_) rfl (by kernel_rfl) (by kernel_rfl) (by kernel_rfl) (fun _ _ _ h => h) (Or.inl ⟨by rfl, ?_⟩) (by assumption) ?_
    rotate_left 1
    · (intro w hSw; (try dsimp only at hSw); go_simp; first | done | with_reducible rfl)
    try simp only [Act.put]
    refine wpAnyH_take (i := 17) (oi := _) (v := ?_) rfl (by kernel_rfl) (by kernel_rfl) (by kernel_rfl) (fun _ _ _ h => h) (Or.inl ⟨by rfl, ?_⟩) (by assumption) ?_
    rotate_left 1
    · (intro w hSw; (try dsimp only at hSw); go_simp; first | done | with_reducible rfl)
    try simp only [Act.put]
    refine wpAnyH_take (i := 19) (oi := _) (v := ?_) rfl (by kernel_rfl) (by kernel_rfl) (by kernel_rfl) (fun _ _ _ h => h) (Or.inl ⟨by rfl, ?_⟩) (by assumption) ?_
    rotate_left 1
    · (intro w hSw; (try dsimp only at hSw); go_simp; first | done | with_reducible rfl)
    try simp only [Act.put]
    refine wpAnyH_take (i := 20) (oi := _) (v := ?_) rfl (by kernel_rfl) (by kernel_rfl) (by kernel_rfl) (fun _ _ _ h => h) (Or.inl ⟨by rfl, ?_⟩) (by assumption) ?_
    rotate_left 1
    · (intro w hSw; (try dsimp only at hSw); go_simp; first | done | with_reducible rfl)
    try simp only [Act.put]
    refine wpAnyH_take (i := 24) (oi := _) (v := ?_) rfl (by kernel_rfl) (by kernel_rfl) (by kernel_rfl) (fun _ _ _ h => h) (Or.inl ⟨by rfl, ?_⟩) (by assumption) ?_
    rotate_left 1
    · (intro w hSw; (try dsimp only at hSw); go_simp; first | done | with_reducible rfl)
    try simp only [Act.put]
    refine wpAnyH_take (i := 25) (oi := _) (v := ?_) rfl (by kernel_rfl) (by kernel_rfl) (by kernel_rfl) (fun _ _ _ h => h) (Or.inl ⟨by rfl, ?_⟩) (by assumption) ?_
    rotate_left 1
    · (intro w hSw; (try dsimp only at hSw); go_simp; first | done | with_reducible rfl)
    try simp only [Act.put]
    refine wpAnyH_take (i := 26) (oi := _) (v := ?_) rfl (by kernel_rfl) (by kernel_rfl) (by kernel_rfl) (fun _ _ _ h => h) (Or.inl ⟨by rfl, ?_⟩) (by assumption) ?_
    rotate_left 1
    · (intro w hSw; (try dsimp only at hSw); go_simp; first | done | with_reducible rfl)
    try simp only [Act.put]
    refine wpAnyH_take (i := 29) (oi := _) (v := ?_) rfl (by kernel_rfl) (by kernel_rfl) (by kernel_rfl) (fun _ _ _ h => h) (Or.inl ⟨by rfl, ?_⟩) (by assumption) ?_
    rotate_left 1
    · (intro w hSw; (try dsimp only at hSw); go_simp; first | done | with_reducible rfl)
    try simp only [Act.put]
    refine wpAnyH_take (i := 30) (oi := _) (v := ?_) rfl (by kernel_rfl) (by kernel_rfl) (by kernel_rfl) (fun _ _ _ h => h) (Or.inl ⟨by rfl, ?_⟩) (by assumption) ?_
    rotate_left 1
    · (intro w hSw; (try dsimp only at hSw); go_simp; first | done | with_reducible rfl)
    try simp only [Act.put]
    refine wpAnyH_take (i := 32) (oi := _) (v := ?_) rfl (by kernel_rfl) (by kernel_rfl) (by kernel_rfl) (fun _ _ _ h => h) (Or.inl ⟨by rfl, ?_⟩) (by assumption) ?_
    rotate_left 1
    · (intro w hSw; (try dsimp only at hSw); go_simp; first | done | with_reducible rfl)
    try simp only [Act.put]
    refine wpAnyH_take (i := 33) (oi := _) (v := ?_) rfl (by kernel_rfl) (by kernel_rfl) (by kernel_rfl) (fun _ _ _ h => h) (Or.inl ⟨by rfl, ?_⟩) (by assumption) ?_
    rotate_left 1
    · (intro w hSw; (try dsimp only at hSw); go_simp; first | done | with_reducible rfl)
    try simp only [Act.put]
    refine wpAnyH_take (i := 34) (oi := _) (v := ?_) rfl (by kernel_rfl) (by kernel_rfl) (by kernel_rfl) (fun _ _ _ h => h) (Or.inl ⟨by rfl, ?_⟩) (by assumption) ?_
    rotate_left 1
    · (intro w hSw; (try dsimp only at hSw); go_simp; first | done | with_reducible rfl)
    try simp only [Act.put]
    refine wpAnyH_take (i := 35) (oi := _) (v := ?_) rfl (by kernel_rfl) (by kernel_rfl) (by kernel_rfl) (fun _ _ _ h => h) (Or.inl ⟨by rfl, ?_⟩) (by assumption) ?_
    rotate_left 1
    · (intro w hSw; (try dsimp only at hSw); go_simp; first | done | with_reducible rfl)
    try simp only [Act.put]
    refine wpAnyH_take (i := 36) (oi := _) (v := ?_) rfl (by kernel_rfl) (by kernel_rfl) (by kernel_rfl) (fun _ _ _ h => h) (Or.inl ⟨by rfl, ?_⟩) (by assumption) ?_
    rotate_left 1
    · (intro w hSw; (try dsimp only at hSw); go_simp; first | done | with_reducible rfl)
    try simp only [Act.put]
    refine wpAnyH_take (i := 37) (oi := _) (v := ?_) rfl (by kernel_rfl) (by kernel_rfl) (by kernel_rfl) (fun _ _ _ h => h) (Or.inl ⟨by rfl, ?_⟩) (by assumption) ?_
    rotate_left 1
    · (intro w hSw; (try dsimp only at hSw); go_simp; first | done | with_reducible rfl)
    try simp only [Act.put]
    refine wpAnyH_take (i := 38) (oi := _) (v := ?_) rfl (by kernel_rfl) (by kernel_rfl) (by kernel_rfl) (fun _ _ _ h => h) (Or.inl ⟨by rfl, ?_⟩) (by assumption) ?_
    rotate_left 1
    · (intro w hSw; (try dsimp only at hSw); go_simp; first | done | with_reducible rfl)
    try simp only [Act.put]
    refine wpAnyH_take (i := 40) (oi := _) (v := ?_) rfl (by kernel_rfl) (by kernel_rfl) (by kernel_rfl) (fun _ _ _ h => h) (Or.inl ⟨by rfl, ?_⟩) (by assumption) ?_
    rotate_left 1
    · (intro w hSw; (try dsimp only at hSw); go_simp; first | done | with_reducible rfl)
    try simp only [Act.put]
    refine wpAnyH_take (i := 41) (oi := _) (v := ?_) rfl (by kernel_rfl) (by kernel_rfl) (by kernel_rfl) (fun _ _ _ h => h) (Or.inl ⟨by rfl, ?_⟩) (by assumption) ?_
    rotate_left 1
    · (intro w hSw; (try dsimp only at hSw); go_simp; first | done | with_reducible rfl)
    try simp only [Act.put]
    refine wpAnyH_take (i := 42) (oi := _) (v := ?_) rfl (by kernel_rfl) (by kernel_rfl) (by kernel_rfl) (fun _ _ _ h => h) (Or.inl ⟨by rfl, ?_⟩) (by assumption) ?_
    rotate_left 1
    · (intro w hSw; (try dsimp only at hSw); go_simp; first | done | with_reducible rfl)
    try simp only [Act.put]
    refine wpAnyH_take (i := 43) (oi := _) (v := ?_) rfl (by kernel_rfl) (by kernel_rfl) (by kernel_rfl) (fun _ _ _ h => h) (Or.inl ⟨by rfl, ?_⟩) (by assumption) ?_
    rotate_left 1
    · (intro w hSw; (try dsimp only at hSw); go_simp; first | done | with_reducible rfl)
    try simp only [Act.put]
    refine wpAnyH_take (i := 44) (oi := _) (v := ?_) rfl (by kernel_rfl) (by kernel_rfl) (by kernel_rfl) (fun _ _ _ h => h) (Or.inl ⟨by rfl, ?_⟩) (by assumption) ?_
    rotate_left 1
    · (intro w hSw; (try dsimp only at hSw); go_simp; first | done | with_reducible rfl)
    try simp only [Act.put]
    refine wpAnyH_take (i := 45) (oi := _) (v := ?_) rfl (by kernel_rfl) (by kernel_rfl) (by kernel_rfl) (fun _ _ _ h => h) (Or.inl ⟨by rfl, ?_⟩) (by assumption) ?_
    rotate_left 1
    · (intro w hSw; (try dsimp only at hSw); go_simp; first | done | with_reducible rfl)
    try simp only [Act.put]
    refine wpAnyH_take (i := 46) (oi := _) (v := ?_) rfl (by kernel_rfl) (by kernel_rfl) (by kernel_rfl) (fun _ _ _ h => h) (Or.inl ⟨by rfl, ?_⟩) (by assumption) ?_
    rotate_left 1
    · (intro w hSw; (try dsimp only at hSw); go_simp; first | done | with_reducible rfl)
    try simp only [Act.put]
    refine wpAnyH_take (i := 48) (oi := _) (v := ?_) rfl (by kernel_rfl) (by kernel_rfl) (by kernel_rfl) (fun _ _ _ h => h) (Or.inl ⟨by rfl, ?_⟩) (by assumption) ?_
    rotate_left 1
    · (intro w hSw; (try dsimp only at hSw); go_simp; first | done | with_reducible rfl)
    try simp only [Act.put]
    refine wpAnyH_take (i := 49) (oi := _) (v := ?_) rfl (by kernel_rfl) (by kernel_rfl) (by kernel_rfl) (fun _ _ _ h => h) (Or.inl ⟨by rfl, ?_⟩) (by assumption) ?_
    rotate_left 1
    · (intro w hSw; (try dsimp only at hSw); go_simp; first | done | with_reducible rfl)
    try simp only [Act.put]
    refine wpAnyH_take (i := 53) (oi := _) (v := ?_) rfl (by kernel_rfl) (by kernel_rfl) (by kernel_rfl) (fun _ _ _ h => h) (Or.inl ⟨by rfl, ?_⟩) (by assumption) ?_
    rotate_left 1
    · (intro w hSw; (try dsimp only at hSw); go_simp; first | done | with_reducible rfl)
    try simp only [Act.put]
    refine wpAnyH_take (i := 54) (oi := _) (v := ?_) rfl (by kernel_rfl) (by kernel_rfl) (by kernel_rfl) (fun _ _ _ h => h) (Or.inl ⟨by rfl, ?_⟩) (by assumption) ?_
    rotate_left 1
    · (intro w hSw; (try dsimp only at hSw); go_simp; first | done | with_reducible rfl)
    try simp only [Act.put]
    refine wpAnyH_take (i := 55) (oi := _) (v := ?_) rfl (by kernel_rfl) (by kernel_rfl) (by kernel_rfl) (fun _ _ _ h => h) (Or.inl ⟨by rfl, ?_⟩) (by assumption) ?_
    rotate_left 1
    · (intro w hSw; (try dsimp only at hSw); go_simp; first | done | with_reducible rfl)
    try simp only [Act.put]
    refine wpAnyH_ready (rs := [2]) (by kernel_rfl) (by simp) ?_
    refine AllReadyH.cons (o := _) rfl (fun K hK => ?_) AllReadyH.nil
    go_simp
    go_split_ands
    refine (wInt n (HV0.out _ (by assumption)).i _ (HB0.out _ (by assumption))).mono ?_
    rintro e w1' ⟨rfl, g1⟩
    have gg1 := World.grownBy.trans (a := w0) (by assumption) g1
    first | (refine hK.out _ _ ?_ (fun hHeld => ?_)) | (go_wp2_with fail; refine hK.out _ _ ?_ (fun hHeld => ?_))
    · (try dsimp only); (go_split_ands; (first | (exact HS0.out _ (by assumption)) | (exact HS0.out _ (grown_dr (by assumption))) | (exact HS0.out _ (grown_al (by assumption))) | (exact HS0.out _ (grown_dr (grown_al (by assumption))))))
    clear hK K
    refine wpAnyH_ready (rs := [10]) (by kernel_rfl) (by simp) ?_
    refine AllReadyH.cons (o := _) rfl (fun K hK => ?_) AllReadyH.nil
    go_simp
    go_split_ands
    refine (ser_text ⟨kd, n, s, A, ln, lc, l, B, tn, tc, t⟩ _ (HB0.out _ (by assumption)) (HV0.out _ (by assumption))).mono ?_
    rintro e w2' ⟨rfl, g2⟩
    have gg2 := World.grownBy.trans (a := w0) (by assumption) g2
    first | (refine hK.out _ _ ?_ (fun hHeld => ?_)) | (go_wp2_with fail; refine hK.out _ _ ?_ (fun hHeld => ?_))
    · (try dsimp only); (go_split_ands; (first | (exact HS0.out _ (by assumption)) | (exact HS0.out _ (grown_dr (by assumption))) | (exact HS0.out _ (grown_al (by assumption))) | (exact HS0.out _ (grown_dr (grown_al (by assumption))))))
    clear hK K
    refine wpAnyH_ready (rs := [18]) (by kernel_rfl) (by simp) ?_
    refine AllReadyH.cons (o := _) rfl (fun K hK => ?_) AllReadyH.nil
    go_simp
    go_split_ands
    refine (ser_ints ⟨kd, n, s, A, ln, lc, l, B, tn, tc, t⟩ _ (HB0.out _ (by assumption)) (HV0.out _ (by assumption))).mono ?_
    rintro e w3' ⟨rfl, g3⟩
    have gg3 := World.grownBy.trans (a := w0) (by assumption) g3
    first | (refine hK.out _ _ ?_ (fun hHeld => ?_)) | (go_wp2_with fail; refine hK.out _ _ ?_ (fun hHeld => ?_))
    · (try dsimp only); (go_split_ands; (first | (exact HS0.out _ (by assumption)) | (exact HS0.out _ (grown_dr (by assumption))) | (exact HS0.out _ (grown_al (by assumption))) | (exact HS0.out _ (grown_dr (grown_al (by assumption))))))
    clear hK K
    refine wpAnyH_ready (rs := [21]) (by kernel_rfl) (by simp) ?_
    refine AllReadyH.cons (o := _) rfl (fun K hK => ?_) AllReadyH.nil
    go_simp
    go_split_ands
    refine (ser_cut ⟨kd, n, s, A, ln, lc, l, B, tn, tc, t⟩ _ (HV0.out _ (by assumption))).mono ?_
    rintro e w4' ⟨A5, c5, rfl, o5, g4⟩
    have gg4 := World.grownBy.trans (a := w0) (by assumption) g4
    first | (refine hK.out _ _ ?_ (fun hHeld => ?_)) | (go_wp2_with fail; refine hK.out _ _ ?_ (fun hHeld => ?_))
    · (try dsimp only); (go_split_ands; (first | (exact HS0.out _ (by assumption)) | (exact HS0.out _ (grown_dr (by assumption))) | (exact HS0.out _ (grown_al (by assumption))) | (exact HS0.out _ (grown_dr (grown_al (by assumption))))))
    clear hK K
    refine wpAnyH_ready (rs := [22]) (by kernel_rfl) (by simp) ?_
    refine AllReadyH.cons (o := _) rfl (fun K hK => ?_) AllReadyH.nil
    go_simp
    go_split_ands
    refine (ser_texts t _ _ _ _ (HB0.out _ (by assumption)) (by assumption)).mono ?_
    rintro e w5' ⟨rfl, g5⟩
    have gg5 := World.grownBy.trans (a := w0) (by assumption) g5
    first | (refine hK.out _ _ ?_ (fun hHeld => ?_)) | (go_wp2_with fail; refine hK.out _ _ ?_ (fun hHeld => ?_))
    · (try dsimp only); (go_split_ands; (first | (exact HS0.out _ (by assumption)) | (exact HS0.out _ (grown_dr (by assumption))) | (exact HS0.out _ (grown_al (by assumption))) | (exact HS0.out _ (grown_dr (grown_al (by assumption))))))
    clear hK K
    refine wpAnyH_ready (rs := [23, 31]) (by kernel_rfl) (by simp) ?_
    refine AllReadyH.cons (o := _) rfl (fun K hK => ?_) (AllReadyH.cons (o := _) rfl (fun K hK => ?_) AllReadyH.nil)
    · go_simp
      first | (refine hK.out _ _ ?_ (fun hHeld => ?_)) | (go_wp2_with fail; refine hK.out _ _ ?_ (fun hHeld => ?_))
      · (try dsimp only); (go_split_ands; (first | (exact HS0.out _ (by assumption)) | (exact HS0.out _ (grown_dr (by assumption))) | (exact HS0.out _ (grown_al (by assumption))) | (exact HS0.out _ (grown_dr (grown_al (by assumption))))))
      clear hK K
      have hx6 : (w5'.alloc (.cells #[.string ⟨(serI n).toArray⟩, .string ⟨(serT (s.take 100)).toArray⟩, .string ⟨(serL serI (l.take 20)).toArray⟩, .string ⟨(serL serT (cutL t)).toArray⟩] 9)).cell? ⟨w5'.heap.size, 2, none⟩ = some (.string ⟨(serL serI (l.take 20)).toArray⟩) := by simp
      have gx6 : w0.grownBy (w5'.alloc (.cells #[.string ⟨(serI n).toArray⟩, .string ⟨(serT (s.take 100)).toArray⟩, .string ⟨(serL serI (l.take 20)).toArray⟩, .string ⟨(serL serT (cutL t)).toArray⟩] 9)) none := grown_al (by assumption)
      obtain ⟨wx6, hwx6⟩ : ∃ wx, w5'.alloc (.cells #[.string ⟨(serI n).toArray⟩, .string ⟨(serT (s.take 100)).toArray⟩, .string ⟨(serL serI (l.take 20)).toArray⟩, .string ⟨(serL serT (cutL t)).toArray⟩] 9) = wx := ⟨_, rfl⟩
      rw [hwx6] at hx6 gx6
      rw [hwx6]
      have lx6 := World.block_lt_of_cell? _ _ hx6
      clear hwx6
      have HBx6 := Lib.hid (fun w' (g : wx6.grownBy w' none) => HB0.out w' (gx6.trans g))
      have HVx6 := Lib.hid (fun w' (g : wx6.grownBy w' none) => HV0.out w' (gx6.trans g))
      have HUx6 := Lib.hid (fun w' (g : wx6.grownBy w' none) => HU0.out w' (gx6.trans g))
      have HSx6 : Hid (∀ w', wx6.grownBy w' none → w'.cell? ⟨n1, 0, none⟩ = some (.int .u8 (kd : Int)) ∧ w'.cell? ⟨n1, 1, none⟩ = some (.int .i64 n) ∧ w'.cell? ⟨n1, 2, none⟩ = some (.string ⟨s.toArray⟩) ∧ w'.cell? ⟨n1, 3, none⟩ = some (.slice A ln lc) ∧ w'.cell? ⟨n1, 4, none⟩ = some (.slice B tn tc) ∧ w'.cell? ⟨n2, 0, none⟩ = some (.int .u8 (kd' : Int)) ∧ w'.cell? ⟨n2, 1, none⟩ = some (.int .i64 n') ∧ w'.cell? ⟨n2, 2, none⟩ = some (.string ⟨s'.toArray⟩) ∧ w'.cell? ⟨n2, 3, none⟩ = some (.slice A' ln' lc') ∧ w'.cell? ⟨n2, 4, none⟩ = some (.slice B' tn' tc') ∧ w'.cell? ⟨w5'.heap.size, 2, none⟩ = some (.string ⟨(serL serI (l.take 20)).toArray⟩) ∧ wx6.grownBy w' none) := Lib.hid (fun w' g => by
        obtain ⟨y0, y1, y2, y3, y4, y5, y6, y7, y8, y9, yg⟩ := HS0.out w' (gx6.trans g)
        exact ⟨y0, y1, y2, y3, y4, y5, y6, y7, y8, y9, ((below_of_grown g).cell (p := ⟨w5'.heap.size, 2, none⟩) lx6).trans hx6, g⟩)
      refine wpAnyH_mono (S' := (fun w' => w'.cell? ⟨n1, 0, none⟩ = some (.int .u8 (kd : Int)) ∧ w'.cell? ⟨n1, 1, none⟩ = some (.int .i64 n) ∧ w'.cell? ⟨n1, 2, none⟩ = some (.string ⟨s.toArray⟩) ∧ w'.cell? ⟨n1, 3, none⟩ = some (.slice A ln lc) ∧ w'.cell? ⟨n1, 4, none⟩ = some (.slice B tn tc) ∧ w'.cell? ⟨n2, 0, none⟩ = some (.int .u8 (kd' : Int)) ∧ w'.cell? ⟨n2, 1, none⟩ = some (.int .i64 n') ∧ w'.cell? ⟨n2, 2, none⟩ = some (.string ⟨s'.toArray⟩) ∧ w'.cell? ⟨n2, 3, none⟩ = some (.slice A' ln' lc') ∧ w'.cell? ⟨n2, 4, none⟩ = some (.slice B' tn' tc') ∧ w'.cell? ⟨w5'.heap.size, 2, none⟩ = some (.string ⟨(serL serI (l.take 20)).toArray⟩) ∧ wx6.grownBy w' none)) (fun w' h => HS0.out w' (gx6.trans h.2.2.2.2.2.2.2.2.2.2.2)) _ _ _ _ ?_
      have grx6 : wx6.grownBy wx6 none := World.grownBy.refl _ _
      have hSx6 := HSx6.out wx6 (World.grownBy.refl _ _)
      refine wpAnyH_take (i := 27) (oi := _) (v := ?_) rfl (by kernel_rfl) (by kernel_rfl) (by kernel_rfl) (fun _ _ _ h => h) (Or.inl ⟨by rfl, ?_⟩) (by assumption) ?_
      rotate_left 1
      · (intro w hSw; (try dsimp only at hSw); go_simp; first | done | with_reducible rfl)
      try simp only [Act.put]
      refine wpAnyH_take (i := 28) (oi := _) (v := ?_) rfl (by kernel_rfl) (by kernel_rfl) (by kernel_rfl) (fun _ _ _ h => h) (Or.inl ⟨by rfl, ?_⟩) (by assumption) ?_
      rotate_left 1
      · (intro w hSw; (try dsimp only at hSw); go_simp; first | done | with_reducible rfl)
      try simp only [Act.put]
      refine wpAnyH_ready (rs := [31]) (by kernel_rfl) (by simp) ?_
      refine AllReadyH.cons (o := _) rfl (fun K hK => ?_) AllReadyH.nil
      go_simp
      go_split_ands
      refine (wInt n' (HUx6.out _ (by assumption)).i _ (HBx6.out _ (by assumption))).mono ?_
      rintro e w7' ⟨rfl, g7⟩
      have gg7 := World.grownBy.trans (a := wx6) (by assumption) g7
      first | (refine hK.out _ _ ?_ (fun hHeld => ?_)) | (go_wp2_with fail; refine hK.out _ _ ?_ (fun hHeld => ?_))
      · (try dsimp only); (go_split_ands; (first | (exact HSx6.out _ (by assumption)) | (exact HSx6.out _ (grown_dr (by assumption))) | (exact HSx6.out _ (grown_al (by assumption))) | (exact HSx6.out _ (grown_dr (grown_al (by assumption))))))
      clear hK K
      refine wpAnyH_ready (rs := [39]) (by kernel_rfl) (by simp) ?_
      refine AllReadyH.cons (o := _) rfl (fun K hK => ?_) AllReadyH.nil
      go_simp
      go_split_ands
      refine (ser_text ⟨kd', n', s', A', ln', lc', l', B', tn', tc', t'⟩ _ (HBx6.out _ (by assumption)) (HUx6.out _ (by assumption))).mono ?_
      rintro e w8' ⟨rfl, g8⟩
      have gg8 := World.grownBy.trans (a := wx6) (by assumption) g8
      first | (refine hK.out _ _ ?_ (fun hHeld => ?_)) | (go_wp2_with fail; refine hK.out _ _ ?_ (fun hHeld => ?_))
      · (try dsimp only); (go_split_ands; (first | (exact HSx6.out _ (by assumption)) | (exact HSx6.out _ (grown_dr (by assumption))) | (exact HSx6.out _ (grown_al (by assumption))) | (exact HSx6.out _ (grown_dr (grown_al (by assumption))))))
      clear hK K
      refine wpAnyH_ready (rs := [47]) (by kernel_rfl) (by simp) ?_
      refine AllReadyH.cons (o := _) rfl (fun K hK => ?_) AllReadyH.nil
      go_simp
      go_split_ands
      refine (ser_ints ⟨kd', n', s', A', ln', lc', l', B', tn', tc', t'⟩ _ (HBx6.out _ (by assumption)) (HUx6.out _ (by assumption))).mono ?_
      rintro e w9' ⟨rfl, g9⟩
      have gg9 := World.grownBy.trans (a := wx6) (by assumption) g9
      first | (refine hK.out _ _ ?_ (fun hHeld => ?_)) | (go_wp2_with fail; refine hK.out _ _ ?_ (fun hHeld => ?_))
      · (try dsimp only); (go_split_ands; (first | (exact HSx6.out _ (by assumption)) | (exact HSx6.out _ (grown_dr (by assumption))) | (exact HSx6.out _ (grown_al (by assumption))) | (exact HSx6.out _ (grown_dr (grown_al (by assumption))))))
      clear hK K
      refine wpAnyH_ready (rs := [50]) (by kernel_rfl) (by simp) ?_
      refine AllReadyH.cons (o := _) rfl (fun K hK => ?_) AllReadyH.nil
      go_simp
      go_split_ands
      refine (ser_cut ⟨kd', n', s', A', ln', lc', l', B', tn', tc', t'⟩ _ (HUx6.out _ (by assumption))).mono ?_
      rintro e w10' ⟨A5, c5, rfl, A5y, g10⟩
      have gg10 := World.grownBy.trans (a := wx6) (by assumption) g10
      first | (refine hK.out _ _ ?_ (fun hHeld => ?_)) | (go_wp2_with fail; refine hK.out _ _ ?_ (fun hHeld => ?_))
      · (try dsimp only); (go_split_ands; (first | (exact HSx6.out _ (by assumption)) | (exact HSx6.out _ (grown_dr (by assumption))) | (exact HSx6.out _ (grown_al (by assumption))) | (exact HSx6.out _ (grown_dr (grown_al (by assumption))))))
      clear hK K
      refine wpAnyH_ready (rs := [51]) (by kernel_rfl) (by simp) ?_
      refine AllReadyH.cons (o := _) rfl (fun K hK => ?_) AllReadyH.nil
      go_simp
      go_split_ands
      refine (ser_texts t' _ _ _ _ (HBx6.out _ (by assumption)) A5y).mono ?_
      rintro e w11' ⟨rfl, g11⟩
      have gg11 := World.grownBy.trans (a := wx6) (by assumption) g11
      first | (refine hK.out _ _ ?_ (fun hHeld => ?_)) | (go_wp2_with fail; refine hK.out _ _ ?_ (fun hHeld => ?_))
      · (try dsimp only); (go_split_ands; (first | (exact HSx6.out _ (by assumption)) | (exact HSx6.out _ (grown_dr (by assumption))) | (exact HSx6.out _ (grown_al (by assumption))) | (exact HSx6.out _ (grown_dr (grown_al (by assumption))))))
      clear hK K
      refine wpAnyH_take (i := 58) (oi := _) (v := ?_) rfl (by kernel_rfl) (by kernel_rfl) (by kernel_rfl) (fun _ _ _ h => h) (Or.inl ⟨by rfl, ?_⟩) (by assumption) ?_
      rotate_left 1
      · (intro w hSw; (try dsimp only at hSw); go_simp; first | done | with_reducible rfl)
      try simp only [Act.put]
      refine wpAnyH_ready (rs := [52]) (by kernel_rfl) (by simp) ?_
      refine AllReadyH.cons (o := _) rfl (fun K hK => ?_) AllReadyH.nil
      go_simp
      first | (refine hK.out _ _ ?_ (fun hHeld => ?_)) | (go_wp2_with fail; refine hK.out _ _ ?_ (fun hHeld => ?_))
      · (try dsimp only); (go_split_ands; (first | (exact HSx6.out _ (by assumption)) | (exact HSx6.out _ (grown_dr (by assumption))) | (exact HSx6.out _ (grown_al (by assumption))) | (exact HSx6.out _ (grown_dr (grown_al (by assumption))))))
      clear hK K
      have hx12 : (w11'.alloc (.cells #[.string ⟨(serI n').toArray⟩, .string ⟨(serT (s'.take 100)).toArray⟩, .string ⟨(serL serI (l'.take 20)).toArray⟩, .string ⟨(serL serT (cutL t')).toArray⟩] 9)).cell? ⟨w11'.heap.size, 2, none⟩ = some (.string ⟨(serL serI (l'.take 20)).toArray⟩) := by simp
      have gx12 : wx6.grownBy (w11'.alloc (.cells #[.string ⟨(serI n').toArray⟩, .string ⟨(serT (s'.take 100)).toArray⟩, .string ⟨(serL serI (l'.take 20)).toArray⟩, .string ⟨(serL serT (cutL t')).toArray⟩] 9)) none := grown_al (by assumption)
      obtain ⟨wx12, hwx12⟩ : ∃ wx, w11'.alloc (.cells #[.string ⟨(serI n').toArray⟩, .string ⟨(serT (s'.take 100)).toArray⟩, .string ⟨(serL serI (l'.take 20)).toArray⟩, .string ⟨(serL serT (cutL t')).toArray⟩] 9) = wx := ⟨_, rfl⟩
      rw [hwx12] at hx12 gx12
      rw [hwx12]
      have lx12 := World.block_lt_of_cell? _ _ hx12
      clear hwx12
      have HBx12 := Lib.hid (fun w' (g : wx12.grownBy w' none) => HBx6.out w' (gx12.trans g))
      have HVx12 := Lib.hid (fun w' (g : wx12.grownBy w' none) => HVx6.out w' (gx12.trans g))
      have HUx12 := Lib.hid (fun w' (g : wx12.grownBy w' none) => HUx6.out w' (gx12.trans g))
      have HSx12 : Hid (∀ w', wx12.grownBy w' none → w'.cell? ⟨n1, 0, none⟩ = some (.int .u8 (kd : Int)) ∧ w'.cell? ⟨n1, 1, none⟩ = some (.int .i64 n) ∧ w'.cell? ⟨n1, 2, none⟩ = some (.string ⟨s.toArray⟩) ∧ w'.cell? ⟨n1, 3, none⟩ = some (.slice A ln lc) ∧ w'.cell? ⟨n1, 4, none⟩ = some (.slice B tn tc) ∧ w'.cell? ⟨n2, 0, none⟩ = some (.int .u8 (kd' : Int)) ∧ w'.cell? ⟨n2, 1, none⟩ = some (.int .i64 n') ∧ w'.cell? ⟨n2, 2, none⟩ = some (.string ⟨s'.toArray⟩) ∧ w'.cell? ⟨n2, 3, none⟩ = some (.slice A' ln' lc') ∧ w'.cell? ⟨n2, 4, none⟩ = some (.slice B' tn' tc') ∧ w'.cell? ⟨w11'.heap.size, 2, none⟩ = some (.string ⟨(serL serI (l'.take 20)).toArray⟩) ∧ wx12.grownBy w' none) := Lib.hid (fun w' g => by
        obtain ⟨y0, y1, y2, y3, y4, y5, y6, y7, y8, y9, yc, yg⟩ := HSx6.out w' (gx12.trans g)
        exact ⟨y0, y1, y2, y3, y4, y5, y6, y7, y8, y9, ((below_of_grown g).cell (p := ⟨w11'.heap.size, 2, none⟩) lx12).trans hx12, g⟩)
      refine wpAnyH_mono (S' := (fun w' => w'.cell? ⟨n1, 0, none⟩ = some (.int .u8 (kd : Int)) ∧ w'.cell? ⟨n1, 1, none⟩ = some (.int .i64 n) ∧ w'.cell? ⟨n1, 2, none⟩ = some (.string ⟨s.toArray⟩) ∧ w'.cell? ⟨n1, 3, none⟩ = some (.slice A ln lc) ∧ w'.cell? ⟨n1, 4, none⟩ = some (.slice B tn tc) ∧ w'.cell? ⟨n2, 0, none⟩ = some (.int .u8 (kd' : Int)) ∧ w'.cell? ⟨n2, 1, none⟩ = some (.int .i64 n') ∧ w'.cell? ⟨n2, 2, none⟩ = some (.string ⟨s'.toArray⟩) ∧ w'.cell? ⟨n2, 3, none⟩ = some (.slice A' ln' lc') ∧ w'.cell? ⟨n2, 4, none⟩ = some (.slice B' tn' tc') ∧ w'.cell? ⟨w11'.heap.size, 2, none⟩ = some (.string ⟨(serL serI (l'.take 20)).toArray⟩) ∧ wx12.grownBy w' none)) (fun w' h => HSx6.out w' (gx12.trans h.2.2.2.2.2.2.2.2.2.2.2)) _ _ _ _ ?_
      have grx12 : wx12.grownBy wx12 none := World.grownBy.refl _ _
      have hSx12 := HSx12.out wx12 (World.grownBy.refl _ _)
      refine wpAnyH_take (i := 56) (oi := _) (v := ?_) rfl (by kernel_rfl) (by kernel_rfl) (by kernel_rfl) (fun _ _ _ h => h) (Or.inl ⟨by rfl, ?_⟩) (by assumption) ?_
      rotate_left 1
      · (intro w hSw; (try dsimp only at hSw); go_simp; first | done | with_reducible rfl)
      try simp only [Act.put]
      refine wpAnyH_take (i := 57) (oi := _) (v := ?_) rfl (by kernel_rfl) (by kernel_rfl) (by kernel_rfl) (fun _ _ _ h => h) (Or.inl ⟨by rfl, ?_⟩) (by assumption) ?_
      rotate_left 1
      · (intro w hSw; (try dsimp only at hSw); go_simp; first | done | with_reducible rfl)
      try simp only [Act.put]
      refine wpAnyH_take (i := 59) (oi := _) (v := ?_) rfl (by kernel_rfl) (by kernel_rfl) (by kernel_rfl) (fun _ _ _ h => h) (Or.inl ⟨by rfl, ?_⟩) (by assumption) ?_
      rotate_left 1
      · (intro w hSw; (try dsimp only at hSw); go_simp; first | done | with_reducible rfl)
      try simp only [Act.put]
      refine wpAnyH_done (by kernel_rfl) ?_ _
      refine NoPanic.normal ?_
      go_wp2_with fail
      go_meet
      case rel => exact ⟨rfl, rfl, gx6.trans gx12⟩
    · go_simp
      go_split_ands
      refine (wInt n' (HU0.out _ (by assumption)).i _ (HB0.out _ (by assumption))).mono ?_
      rintro e w13' ⟨rfl, g13⟩
      have gg13 := World.grownBy.trans (a := w0) (by assumption) g13
      first | (refine hK.out _ _ ?_ (fun hHeld => ?_)) | (go_wp2_with fail; refine hK.out _ _ ?_ (fun hHeld => ?_))
      · (try dsimp only); (go_split_ands; (first | (exact HS0.out _ (by assumption)) | (exact HS0.out _ (grown_dr (by assumption))) | (exact HS0.out _ (grown_al (by assumption))) | (exact HS0.out _ (grown_dr (grown_al (by assumption))))))
      clear hK K
      refine wpAnyH_ready (rs := [23, 39]) (by kernel_rfl) (by simp) ?_
      refine AllReadyH.cons (o := _) rfl (fun K hK => ?_) (AllReadyH.cons (o := _) rfl (fun K hK => ?_) AllReadyH.nil)
      · go_simp
        first | (refine hK.out _ _ ?_ (fun hHeld => ?_)) | (go_wp2_with fail; refine hK.out _ _ ?_ (fun hHeld => ?_))
        · (try dsimp only); (go_split_ands; (first | (exact HS0.out _ (by assumption)) | (exact HS0.out _ (grown_dr (by assumption))) | (exact HS0.out _ (grown_al (by assumption))) | (exact HS0.out _ (grown_dr (grown_al (by assumption))))))
        clear hK K
        have hx14 : (w13'.alloc (.cells #[.string ⟨(serI n).toArray⟩, .string ⟨(serT (s.take 100)).toArray⟩, .string ⟨(serL serI (l.take 20)).toArray⟩, .string ⟨(serL serT (cutL t)).toArray⟩] 9)).cell? ⟨w13'.heap.size, 2, none⟩ = some (.string ⟨(serL serI (l.take 20)).toArray⟩) := by simp
        have gx14 : w0.grownBy (w13'.alloc (.cells #[.string ⟨(serI n).toArray⟩, .string ⟨(serT (s.take 100)).toArray⟩, .string ⟨(serL serI (l.take 20)).toArray⟩, .string ⟨(serL serT (cutL t)).toArray⟩] 9)) none := grown_al (by assumption)
        obtain ⟨wx14, hwx14⟩ : ∃ wx, w13'.alloc (.cells #[.string ⟨(serI n).toArray⟩, .string ⟨(serT (s.take 100)).toArray⟩, .string ⟨(serL serI (l.take 20)).toArray⟩, .string ⟨(serL serT (cutL t)).toArray⟩] 9) = wx := ⟨_, rfl⟩
        rw [hwx14] at hx14 gx14
        rw [hwx14]
        have lx14 := World.block_lt_of_cell? _ _ hx14
        clear hwx14
        have HBx14 := Lib.hid (fun w' (g : wx14.grownBy w' none) => HB0.out w' (gx14.trans g))
        have HVx14 := Lib.hid (fun w' (g : wx14.grownBy w' none) => HV0.out w' (gx14.trans g))
        have HUx14 := Lib.hid (fun w' (g : wx14.grownBy w' none) => HU0.out w' (gx14.trans g))
        have HSx14 : Hid (∀ w', wx14.grownBy w' none → w'.cell? ⟨n1, 0, none⟩ = some (.int .u8 (kd : Int)) ∧ w'.cell? ⟨n1, 1, none⟩ = some (.int .i64 n) ∧ w'.cell? ⟨n1, 2, none⟩ = some (.string ⟨s.toArray⟩) ∧ w'.cell? ⟨n1, 3, none⟩ = some (.slice A ln lc) ∧ w'.cell? ⟨n1, 4, none⟩ = some (.slice B tn tc) ∧ w'.cell? ⟨n2, 0, none⟩ = some (.int .u8 (kd' : Int)) ∧ w'.cell? ⟨n2, 1, none⟩ = some (.int .i64 n') ∧ w'.cell? ⟨n2, 2, none⟩ = some (.string ⟨s'.toArray⟩) ∧ w'.cell? ⟨n2, 3, none⟩ = some (.slice A' ln' lc') ∧ w'.cell? ⟨n2, 4, none⟩ = some (.slice B' tn' tc') ∧ w'.cell? ⟨w13'.heap.size, 2, none⟩ = some (.string ⟨(serL serI (l.take 20)).toArray⟩) ∧ wx14.grownBy w' none) := Lib.hid (fun w' g => by
          obtain ⟨y0, y1, y2, y3, y4, y5, y6, y7, y8, y9, yg⟩ := HS0.out w' (gx14.trans g)
          exact ⟨y0, y1, y2, y3, y4, y5, y6, y7, y8, y9, ((below_of_grown g).cell (p := ⟨w13'.heap.size, 2, none⟩) lx14).trans hx14, g⟩)
        refine wpAnyH_mono (S' := (fun w' => w'.cell? ⟨n1, 0, none⟩ = some (.int .u8 (kd : Int)) ∧ w'.cell? ⟨n1, 1, none⟩ = some (.int .i64 n) ∧ w'.cell? ⟨n1, 2, none⟩ = some (.string ⟨s.toArray⟩) ∧ w'.cell? ⟨n1, 3, none⟩ = some (.slice A ln lc) ∧ w'.cell? ⟨n1, 4, none⟩ = some (.slice B tn tc) ∧ w'.cell? ⟨n2, 0, none⟩ = some (.int .u8 (kd' : Int)) ∧ w'.cell? ⟨n2, 1, none⟩ = some (.int .i64 n') ∧ w'.cell? ⟨n2, 2, none⟩ = some (.string ⟨s'.toArray⟩) ∧ w'.cell? ⟨n2, 3, none⟩ = some (.slice A' ln' lc') ∧ w'.cell? ⟨n2, 4, none⟩ = some (.slice B' tn' tc') ∧ w'.cell? ⟨w13'.heap.size, 2, none⟩ = some (.string ⟨(serL serI (l.take 20)).toArray⟩) ∧ wx14.grownBy w' none)) (fun w' h => HS0.out w' (gx14.trans h.2.2.2.2.2.2.2.2.2.2.2)) _ _ _ _ ?_
        have grx14 : wx14.grownBy wx14 none := World.grownBy.refl _ _
        have hSx14 := HSx14.out wx14 (World.grownBy.refl _ _)
        refine wpAnyH_take (i := 27) (oi := _) (v := ?_) rfl (by kernel_rfl) (by kernel_rfl) (by kernel_rfl) (fun _ _ _ h => h) (Or.inl ⟨by rfl, ?_⟩) (by assumption) ?_
        rotate_left 1
        · (intro w hSw; (try dsimp only at hSw); go_simp; first | done | with_reducible rfl)
        try simp only [Act.put]
        refine wpAnyH_take (i := 28) (oi := _) (v := ?_) rfl (by kernel_rfl) (by kernel_rfl) (by kernel_rfl) (fun _ _ _ h => h) (Or.inl ⟨by rfl, ?_⟩) (by assumption) ?_
        rotate_left 1
        · (intro w hSw; (try dsimp only at hSw); go_simp; first | done | with_reducible rfl)
        try simp only [Act.put]
        refine wpAnyH_ready (rs := [39]) (by kernel_rfl) (by simp) ?_
        refine AllReadyH.cons (o := _) rfl (fun K hK => ?_) AllReadyH.nil
        go_simp
        go_split_ands
        refine (ser_text ⟨kd', n', s', A', ln', lc', l', B', tn', tc', t'⟩ _ (HBx14.out _ (by assumption)) (HUx14.out _ (by assumption))).mono ?_
        rintro e w15' ⟨rfl, g15⟩
        have gg15 := World.grownBy.trans (a := wx14) (by assumption) g15
        first | (refine hK.out _ _ ?_ (fun hHeld => ?_)) | (go_wp2_with fail; refine hK.out _ _ ?_ (fun hHeld => ?_))
        · (try dsimp only); (go_split_ands; (first | (exact HSx14.out _ (by assumption)) | (exact HSx14.out _ (grown_dr (by assumption))) | (exact HSx14.out _ (grown_al (by assumption))) | (exact HSx14.out _ (grown_dr (grown_al (by assumption))))))
        clear hK K
        refine wpAnyH_ready (rs := [47]) (by kernel_rfl) (by simp) ?_
        refine AllReadyH.cons (o := _) rfl (fun K hK => ?_) AllReadyH.nil
        go_simp
        go_split_ands
        refine (ser_ints ⟨kd', n', s', A', ln', lc', l', B', tn', tc', t'⟩ _ (HBx14.out _ (by assumption)) (HUx14.out _ (by assumption))).mono ?_
        rintro e w16' ⟨rfl, g16⟩
        have gg16 := World.grownBy.trans (a := wx14) (by assumption) g16
        first | (refine hK.out _ _ ?_ (fun hHeld => ?_)) | (go_wp2_with fail; refine hK.out _ _ ?_ (fun hHeld => ?_))
        · (try dsimp only); (go_split_ands; (first | (exact HSx14.out _ (by assumption)) | (exact HSx14.out _ (grown_dr (by assumption))) | (exact HSx14.out _ (grown_al (by assumption))) | (exact HSx14.out _ (grown_dr (grown_al (by assumption))))))
        clear hK K
        refine wpAnyH_ready (rs := [50]) (by kernel_rfl) (by simp) ?_
        refine AllReadyH.cons (o := _) rfl (fun K hK => ?_) AllReadyH.nil
        go_simp
        go_split_ands
        refine (ser_cut ⟨kd', n', s', A', ln', lc', l', B', tn', tc', t'⟩ _ (HUx14.out _ (by assumption))).mono ?_
        rintro e w17' ⟨A5, c5, rfl, A5y, g17⟩
        have gg17 := World.grownBy.trans (a := wx14) (by assumption) g17
        first | (refine hK.out _ _ ?_ (fun hHeld => ?_)) | (go_wp2_with fail; refine hK.out _ _ ?_ (fun hHeld => ?_))
        · (try dsimp only); (go_split_ands; (first | (exact HSx14.out _ (by assumption)) | (exact HSx14.out _ (grown_dr (by assumption))) | (exact HSx14.out _ (grown_al (by assumption))) | (exact HSx14.out _ (grown_dr (grown_al (by assumption))))))
        clear hK K
        refine wpAnyH_ready (rs := [51]) (by kernel_rfl) (by simp) ?_
        refine AllReadyH.cons (o := _) rfl (fun K hK => ?_) AllReadyH.nil
        go_simp
        go_split_ands
        refine (ser_texts t' _ _ _ _ (HBx14.out _ (by assumption)) A5y).mono ?_
        rintro e w18' ⟨rfl, g18⟩
        have gg18 := World.grownBy.trans (a := wx14) (by assumption) g18
        first | (refine hK.out _ _ ?_ (fun hHeld => ?_)) | (go_wp2_with fail; refine hK.out _ _ ?_ (fun hHeld => ?_))
        · (try dsimp only); (go_split_ands; (first | (exact HSx14.out _ (by assumption)) | (exact HSx14.out _ (grown_dr (by assumption))) | (exact HSx14.out _ (grown_al (by assumption))) | (exact HSx14.out _ (grown_dr (grown_al (by assumption))))))
        clear hK K
        refine wpAnyH_take (i := 58) (oi := _) (v := ?_) rfl (by kernel_rfl) (by kernel_rfl) (by kernel_rfl) (fun _ _ _ h => h) (Or.inl ⟨by rfl, ?_⟩) (by assumption) ?_
        rotate_left 1
        · (intro w hSw; (try dsimp only at hSw); go_simp; first | done | with_reducible rfl)
        try simp only [Act.put]
        refine wpAnyH_ready (rs := [52]) (by kernel_rfl) (by simp) ?_
        refine AllReadyH.cons (o := _) rfl (fun K hK => ?_) AllReadyH.nil
        go_simp
        first | (refine hK.out _ _ ?_ (fun hHeld => ?_)) | (go_wp2_with fail; refine hK.out _ _ ?_ (fun hHeld => ?_))
        · (try dsimp only); (go_split_ands; (first | (exact HSx14.out _ (by assumption)) | (exact HSx14.out _ (grown_dr (by assumption))) | (exact HSx14.out _ (grown_al (by assumption))) | (exact HSx14.out _ (grown_dr (grown_al (by assumption))))))
        clear hK K
        have hx19 : (w18'.alloc (.cells #[.string ⟨(serI n').toArray⟩, .string ⟨(serT (s'.take 100)).toArray⟩, .string ⟨(serL serI (l'.take 20)).toArray⟩, .string ⟨(serL serT (cutL t')).toArray⟩] 9)).cell? ⟨w18'.heap.size, 2, none⟩ = some (.string ⟨(serL serI (l'.take 20)).toArray⟩) := by simp
        have gx19 : wx14.grownBy (w18'.alloc (.cells #[.string ⟨(serI n').toArray⟩, .string ⟨(serT (s'.take 100)).toArray⟩, .string ⟨(serL serI (l'.take 20)).toArray⟩, .string ⟨(serL serT (cutL t')).toArray⟩] 9)) none := grown_al (by assumption)
        obtain ⟨wx19, hwx19⟩ : ∃ wx, w18'.alloc (.cells #[.string ⟨(serI n').toArray⟩, .string ⟨(serT (s'.take 100)).toArray⟩, .string ⟨(serL serI (l'.take 20)).toArray⟩, .string ⟨(serL serT (cutL t')).toArray⟩] 9) = wx := ⟨_, rfl⟩
        rw [hwx19] at hx19 gx19
        rw [hwx19]
        have lx19 := World.block_lt_of_cell? _ _ hx19
        clear hwx19
        have HBx19 := Lib.hid (fun w' (g : wx19.grownBy w' none) => HBx14.out w' (gx19.trans g))
        have HVx19 := Lib.hid (fun w' (g : wx19.grownBy w' none) => HVx14.out w' (gx19.trans g))
        have HUx19 := Lib.hid (fun w' (g : wx19.grownBy w' none) => HUx14.out w' (gx19.trans g))
        have HSx19 : Hid (∀ w', wx19.grownBy w' none → w'.cell? ⟨n1, 0, none⟩ = some (.int .u8 (kd : Int)) ∧ w'.cell? ⟨n1, 1, none⟩ = some (.int .i64 n) ∧ w'.cell? ⟨n1, 2, none⟩ = some (.string ⟨s.toArray⟩) ∧ w'.cell? ⟨n1, 3, none⟩ = some (.slice A ln lc) ∧ w'.cell? ⟨n1, 4, none⟩ = some (.slice B tn tc) ∧ w'.cell? ⟨n2, 0, none⟩ = some (.int .u8 (kd' : Int)) ∧ w'.cell? ⟨n2, 1, none⟩ = some (.int .i64 n') ∧ w'.cell? ⟨n2, 2, none⟩ = some (.string ⟨s'.toArray⟩) ∧ w'.cell? ⟨n2, 3, none⟩ = some (.slice A' ln' lc') ∧ w'.cell? ⟨n2, 4, none⟩ = some (.slice B' tn' tc') ∧ w'.cell? ⟨w18'.heap.size, 2, none⟩ = some (.string ⟨(serL serI (l'.take 20)).toArray⟩) ∧ wx19.grownBy w' none) := Lib.hid (fun w' g => by
          obtain ⟨y0, y1, y2, y3, y4, y5, y6, y7, y8, y9, yc, yg⟩ := HSx14.out w' (gx19.trans g)
          exact ⟨y0, y1, y2, y3, y4, y5, y6, y7, y8, y9, ((below_of_grown g).cell (p := ⟨w18'.heap.size, 2, none⟩) lx19).trans hx19, g⟩)
        refine wpAnyH_mono (S' := (fun w' => w'.cell? ⟨n1, 0, none⟩ = some (.int .u8 (kd : Int)) ∧ w'.cell? ⟨n1, 1, none⟩ = some (.int .i64 n) ∧ w'.cell? ⟨n1, 2, none⟩ = some (.string ⟨s.toArray⟩) ∧ w'.cell? ⟨n1, 3, none⟩ = some (.slice A ln lc) ∧ w'.cell? ⟨n1, 4, none⟩ = some (.slice B tn tc) ∧ w'.cell? ⟨n2, 0, none⟩ = some (.int .u8 (kd' : Int)) ∧ w'.cell? ⟨n2, 1, none⟩ = some (.int .i64 n') ∧ w'.cell? ⟨n2, 2, none⟩ = some (.string ⟨s'.toArray⟩) ∧ w'.cell? ⟨n2, 3, none⟩ = some (.slice A' ln' lc') ∧ w'.cell? ⟨n2, 4, none⟩ = some (.slice B' tn' tc') ∧ w'.cell? ⟨w18'.heap.size, 2, none⟩ = some (.string ⟨(serL serI (l'.take 20)).toArray⟩) ∧ wx19.grownBy w' none)) (fun w' h => HSx14.out w' (gx19.trans h.2.2.2.2.2.2.2.2.2.2.2)) _ _ _ _ ?_
        have grx19 : wx19.grownBy wx19 none := World.grownBy.refl _ _
        have hSx19 := HSx19.out wx19 (World.grownBy.refl _ _)
        refine wpAnyH_take (i := 56) (oi := _) (v := ?_) rfl (by kernel_rfl) (by kernel_rfl) (by kernel_rfl) (fun _ _ _ h => h) (Or.inl ⟨by rfl, ?_⟩) (by assumption) ?_
        rotate_left 1
        · (intro w hSw; (try dsimp only at hSw); go_simp; first | done | with_reducible rfl)
        try simp only [Act.put]
        refine wpAnyH_take (i := 57) (oi := _) (v := ?_) rfl (by kernel_rfl) (by kernel_rfl) (by kernel_rfl) (fun _ _ _ h => h) (Or.inl ⟨by rfl, ?_⟩) (by assumption) ?_
        rotate_left 1
        · (intro w hSw; (try dsimp only at hSw); go_simp; first | done | with_reducible rfl)
        try simp only [Act.put]
        refine wpAnyH_take (i := 59) (oi := _) (v := ?_) rfl (by kernel_rfl) (by kernel_rfl) (by kernel_rfl) (fun _ _ _ h => h) (Or.inl ⟨by rfl, ?_⟩) (by assumption) ?_
        rotate_left 1
        · (intro w hSw; (try dsimp only at hSw); go_simp; first | done | with_reducible rfl)
        try simp only [Act.put]
        refine wpAnyH_done (by kernel_rfl) ?_ _
        refine NoPanic.normal ?_
        go_wp2_with fail
        go_meet
        case rel => exact ⟨rfl, rfl, gx14.trans gx19⟩
      · go_simp
        go_split_ands
        refine (ser_text ⟨kd', n', s', A', ln', lc', l', B', tn', tc', t'⟩ _ (HB0.out _ (by assumption)) (HU0.out _ (by assumption))).mono ?_
        rintro e w20' ⟨rfl, g20⟩
        have gg20 := World.grownBy.trans (a := w0) (by assumption) g20
        first | (refine hK.out _ _ ?_ (fun hHeld => ?_)) | (go_wp2_with fail; refine hK.out _ _ ?_ (fun hHeld => ?_))
        · (try dsimp only); (go_split_ands; (first | (exact HS0.out _ (by assumption)) | (exact HS0.out _ (grown_dr (by assumption))) | (exact HS0.out _ (grown_al (by assumption))) | (exact HS0.out _ (grown_dr (grown_al (by assumption))))))
        clear hK K
        refine wpAnyH_ready (rs := [23, 47]) (by kernel_rfl) (by simp) ?_
        refine AllReadyH.cons (o := _) rfl (fun K hK => ?_) (AllReadyH.cons (o := _) rfl (fun K hK => ?_) AllReadyH.nil)
        · go_simp
          first | (refine hK.out _ _ ?_ (fun hHeld => ?_)) | (go_wp2_with fail; refine hK.out _ _ ?_ (fun hHeld => ?_))
          · (try dsimp only); (go_split_ands; (first | (exact HS0.out _ (by assumption)) | (exact HS0.out _ (grown_dr (by assumption))) | (exact HS0.out _ (grown_al (by assumption))) | (exact HS0.out _ (grown_dr (grown_al (by assumption))))))
          clear hK K
          have hx21 : (w20'.alloc (.cells #[.string ⟨(serI n).toArray⟩, .string ⟨(serT (s.take 100)).toArray⟩, .string ⟨(serL serI (l.take 20)).toArray⟩, .string ⟨(serL serT (cutL t)).toArray⟩] 9)).cell? ⟨w20'.heap.size, 2, none⟩ = some (.string ⟨(serL serI (l.take 20)).toArray⟩) := by simp
          have gx21 : w0.grownBy (w20'.alloc (.cells #[.string ⟨(serI n).toArray⟩, .string ⟨(serT (s.take 100)).toArray⟩, .string ⟨(serL serI (l.take 20)).toArray⟩, .string ⟨(serL serT (cutL t)).toArray⟩] 9)) none := grown_al (by assumption)
          obtain ⟨wx21, hwx21⟩ : ∃ wx, w20'.alloc (.cells #[.string ⟨(serI n).toArray⟩, .string ⟨(serT (s.take 100)).toArray⟩, .string ⟨(serL serI (l.take 20)).toArray⟩, .string ⟨(serL serT (cutL t)).toArray⟩] 9) = wx := ⟨_, rfl⟩
          rw [hwx21] at hx21 gx21
          rw [hwx21]
          have lx21 := World.block_lt_of_cell? _ _ hx21
          clear hwx21
          have HBx21 := Lib.hid (fun w' (g : wx21.grownBy w' none) => HB0.out w' (gx21.trans g))
          have HVx21 := Lib.hid (fun w' (g : wx21.grownBy w' none) => HV0.out w' (gx21.trans g))
          have HUx21 := Lib.hid (fun w' (g : wx21.grownBy w' none) => HU0.out w' (gx21.trans g))
          have HSx21 : Hid (∀ w', wx21.grownBy w' none → w'.cell? ⟨n1, 0, none⟩ = some (.int .u8 (kd : Int)) ∧ w'.cell? ⟨n1, 1, none⟩ = some (.int .i64 n) ∧ w'.cell? ⟨n1, 2, none⟩ = some (.string ⟨s.toArray⟩) ∧ w'.cell? ⟨n1, 3, none⟩ = some (.slice A ln lc) ∧ w'.cell? ⟨n1, 4, none⟩ = some (.slice B tn tc) ∧ w'.cell? ⟨n2, 0, none⟩ = some (.int .u8 (kd' : Int)) ∧ w'.cell? ⟨n2, 1, none⟩ = some (.int .i64 n') ∧ w'.cell? ⟨n2, 2, none⟩ = some (.string ⟨s'.toArray⟩) ∧ w'.cell? ⟨n2, 3, none⟩ = some (.slice A' ln' lc') ∧ w'.cell? ⟨n2, 4, none⟩ = some (.slice B' tn' tc') ∧ w'.cell? ⟨w20'.heap.size, 2, none⟩ = some (.string ⟨(serL serI (l.take 20)).toArray⟩) ∧ wx21.grownBy w' none) := Lib.hid (fun w' g => by
            obtain ⟨y0, y1, y2, y3, y4, y5, y6, y7, y8, y9, yg⟩ := HS0.out w' (gx21.trans g)
            exact ⟨y0, y1, y2, y3, y4, y5, y6, y7, y8, y9, ((below_of_grown g).cell (p := ⟨w20'.heap.size, 2, none⟩) lx21).trans hx21, g⟩)
          refine wpAnyH_mono (S' := (fun w' => w'.cell? ⟨n1, 0, none⟩ = some (.int .u8 (kd : Int)) ∧ w'.cell? ⟨n1, 1, none⟩ = some (.int .i64 n) ∧ w'.cell? ⟨n1, 2, none⟩ = some (.string ⟨s.toArray⟩) ∧ w'.cell? ⟨n1, 3, none⟩ = some (.slice A ln lc) ∧ w'.cell? ⟨n1, 4, none⟩ = some (.slice B tn tc) ∧ w'.cell? ⟨n2, 0, none⟩ = some (.int .u8 (kd' : Int)) ∧ w'.cell? ⟨n2, 1, none⟩ = some (.int .i64 n') ∧ w'.cell? ⟨n2, 2, none⟩ = some (.string ⟨s'.toArray⟩) ∧ w'.cell? ⟨n2, 3, none⟩ = some (.slice A' ln' lc') ∧ w'.cell? ⟨n2, 4, none⟩ = some (.slice B' tn' tc') ∧ w'.cell? ⟨w20'.heap.size, 2, none⟩ = some (.string ⟨(serL serI (l.take 20)).toArray⟩) ∧ wx21.grownBy w' none)) (fun w' h => HS0.out w' (gx21.trans h.2.2.2.2.2.2.2.2.2.2.2)) _ _ _ _ ?_
          have grx21 : wx21.grownBy wx21 none := World.grownBy.refl _ _
          have hSx21 := HSx21.out wx21 (World.grownBy.refl _ _)
          refine wpAnyH_take (i := 27) (oi := _) (v := ?_) rfl (by kernel_rfl) (by kernel_rfl) (by kernel_rfl) (fun _ _ _ h => h) (Or.inl ⟨by rfl, ?_⟩) (by assumption) ?_
          rotate_left 1
          · (intro w hSw; (try dsimp only at hSw); go_simp; first | done | with_reducible rfl)
          try simp only [Act.put]
          refine wpAnyH_take (i := 28) (oi := _) (v := ?_) rfl (by kernel_rfl) (by kernel_rfl) (by kernel_rfl) (fun _ _ _ h => h) (Or.inl ⟨by rfl, ?_⟩) (by assumption) ?_
          rotate_left 1
          · (intro w hSw; (try dsimp only at hSw); go_simp; first | done | with_reducible rfl)
          try simp only [Act.put]
          refine wpAnyH_ready (rs := [47]) (by kernel_rfl) (by simp) ?_
          refine AllReadyH.cons (o := _) rfl (fun K hK => ?_) AllReadyH.nil
          go_simp
          go_split_ands
          refine (ser_ints ⟨kd', n', s', A', ln', lc', l', B', tn', tc', t'⟩ _ (HBx21.out _ (by assumption)) (HUx21.out _ (by assumption))).mono ?_
          rintro e w22' ⟨rfl, g22⟩
          have gg22 := World.grownBy.trans (a := wx21) (by assumption) g22
          first | (refine hK.out _ _ ?_ (fun hHeld => ?_)) | (go_wp2_with fail; refine hK.out _ _ ?_ (fun hHeld => ?_))
          · (try dsimp only); (go_split_ands; (first | (exact HSx21.out _ (by assumption)) | (exact HSx21.out _ (grown_dr (by assumption))) | (exact HSx21.out _ (grown_al (by assumption))) | (exact HSx21.out _ (grown_dr (grown_al (by assumption))))))
          clear hK K
          refine wpAnyH_ready (rs := [50]) (by kernel_rfl) (by simp) ?_
          refine AllReadyH.cons (o := _) rfl (fun K hK => ?_) AllReadyH.nil
          go_simp
          go_split_ands
          refine (ser_cut ⟨kd', n', s', A', ln', lc', l', B', tn', tc', t'⟩ _ (HUx21.out _ (by assumption))).mono ?_
          rintro e w23' ⟨A5, c5, rfl, A5y, g23⟩
          have gg23 := World.grownBy.trans (a := wx21) (by assumption) g23
          first | (refine hK.out _ _ ?_ (fun hHeld => ?_)) | (go_wp2_with fail; refine hK.out _ _ ?_ (fun hHeld => ?_))
          · (try dsimp only); (go_split_ands; (first | (exact HSx21.out _ (by assumption)) | (exact HSx21.out _ (grown_dr (by assumption))) | (exact HSx21.out _ (grown_al (by assumption))) | (exact HSx21.out _ (grown_dr (grown_al (by assumption))))))
          clear hK K
          refine wpAnyH_ready (rs := [51]) (by kernel_rfl) (by simp) ?_
          refine AllReadyH.cons (o := _) rfl (fun K hK => ?_) AllReadyH.nil
          go_simp
          go_split_ands
          refine (ser_texts t' _ _ _ _ (HBx21.out _ (by assumption)) A5y).mono ?_
          rintro e w24' ⟨rfl, g24⟩
          have gg24 := World.grownBy.trans (a := wx21) (by assumption) g24
          first | (refine hK.out _ _ ?_ (fun hHeld => ?_)) | (go_wp2_with fail; refine hK.out _ _ ?_ (fun hHeld => ?_))
          · (try dsimp only); (go_split_ands; (first | (exact HSx21.out _ (by assumption)) | (exact HSx21.out _ (grown_dr (by assumption))) | (exact HSx21.out _ (grown_al (by assumption))) | (exact HSx21.out _ (grown_dr (grown_al (by assumption))))))
          clear hK K
          refine wpAnyH_take (i := 58) (oi := _) (v := ?_) rfl (by kernel_rfl) (by kernel_rfl) (by kernel_rfl) (fun _ _ _ h => h) (Or.inl ⟨by rfl, ?_⟩) (by assumption) ?_
          rotate_left 1
          · (intro w hSw; (try dsimp only at hSw); go_simp; first | done | with_reducible rfl)
          try simp only [Act.put]
          refine wpAnyH_ready (rs := [52]) (by kernel_rfl) (by simp) ?_
          refine AllReadyH.cons (o := _) rfl (fun K hK => ?_) AllReadyH.nil
          go_simp
          first | (refine hK.out _ _ ?_ (fun hHeld => ?_)) | (go_wp2_with fail; refine hK.out _ _ ?_ (fun hHeld => ?_))
          · (try dsimp only); (go_split_ands; (first | (exact HSx21.out _ (by assumption)) | (exact HSx21.out _ (grown_dr (by assumption))) | (exact HSx21.out _ (grown_al (by assumption))) | (exact HSx21.out _ (grown_dr (grown_al (by assumption))))))
          clear hK K
          have hx25 : (w24'.alloc (.cells #[.string ⟨(serI n').toArray⟩, .string ⟨(serT (s'.take 100)).toArray⟩, .string ⟨(serL serI (l'.take 20)).toArray⟩, .string ⟨(serL serT (cutL t')).toArray⟩] 9)).cell? ⟨w24'.heap.size, 2, none⟩ = some (.string ⟨(serL serI (l'.take 20)).toArray⟩) := by simp
          have gx25 : wx21.grownBy (w24'.alloc (.cells #[.string ⟨(serI n').toArray⟩, .string ⟨(serT (s'.take 100)).toArray⟩, .string ⟨(serL serI (l'.take 20)).toArray⟩, .string ⟨(serL serT (cutL t')).toArray⟩] 9)) none := grown_al (by assumption)
          obtain ⟨wx25, hwx25⟩ : ∃ wx, w24'.alloc (.cells #[.string ⟨(serI n').toArray⟩, .string ⟨(serT (s'.take 100)).toArray⟩, .string ⟨(serL serI (l'.take 20)).toArray⟩, .string ⟨(serL serT (cutL t')).toArray⟩] 9) = wx := ⟨_, rfl⟩
          rw [hwx25] at hx25 gx25
          rw [hwx25]
          have lx25 := World.block_lt_of_cell? _ _ hx25
          clear hwx25
          have HBx25 := Lib.hid (fun w' (g : wx25.grownBy w' none) => HBx21.out w' (gx25.trans g))
          have HVx25 := Lib.hid (fun w' (g : wx25.grownBy w' none) => HVx21.out w' (gx25.trans g))
          have HUx25 := Lib.hid (fun w' (g : wx25.grownBy w' none) => HUx21.out w' (gx25.trans g))
          have HSx25 : Hid (∀ w', wx25.grownBy w' none → w'.cell? ⟨n1, 0, none⟩ = some (.int .u8 (kd : Int)) ∧ w'.cell? ⟨n1, 1, none⟩ = some (.int .i64 n) ∧ w'.cell? ⟨n1, 2, none⟩ = some (.string ⟨s.toArray⟩) ∧ w'.cell? ⟨n1, 3, none⟩ = some (.slice A ln lc) ∧ w'.cell? ⟨n1, 4, none⟩ = some (.slice B tn tc) ∧ w'.cell? ⟨n2, 0, none⟩ = some (.int .u8 (kd' : Int)) ∧ w'.cell? ⟨n2, 1, none⟩ = some (.int .i64 n') ∧ w'.cell? ⟨n2, 2, none⟩ = some (.string ⟨s'.toArray⟩) ∧ w'.cell? ⟨n2, 3, none⟩ = some (.slice A' ln' lc') ∧ w'.cell? ⟨n2, 4, none⟩ = some (.slice B' tn' tc') ∧ w'.cell? ⟨w24'.heap.size, 2, none⟩ = some (.string ⟨(serL serI (l'.take 20)).toArray⟩) ∧ wx25.grownBy w' none) := Lib.hid (fun w' g => by
            obtain ⟨y0, y1, y2, y3, y4, y5, y6, y7, y8, y9, yc, yg⟩ := HSx21.out w' (gx25.trans g)
            exact ⟨y0, y1, y2, y3, y4, y5, y6, y7, y8, y9, ((below_of_grown g).cell (p := ⟨w24'.heap.size, 2, none⟩) lx25).trans hx25, g⟩)
          refine wpAnyH_mono (S' := (fun w' => w'.cell? ⟨n1, 0, none⟩ = some (.int .u8 (kd : Int)) ∧ w'.cell? ⟨n1, 1, none⟩ = some (.int .i64 n) ∧ w'.cell? ⟨n1, 2, none⟩ = some (.string ⟨s.toArray⟩) ∧ w'.cell? ⟨n1, 3, none⟩ = some (.slice A ln lc) ∧ w'.cell? ⟨n1, 4, none⟩ = some (.slice B tn tc) ∧ w'.cell? ⟨n2, 0, none⟩ = some (.int .u8 (kd' : Int)) ∧ w'.cell? ⟨n2, 1, none⟩ = some (.int .i64 n') ∧ w'.cell? ⟨n2, 2, none⟩ = some (.string ⟨s'.toArray⟩) ∧ w'.cell? ⟨n2, 3, none⟩ = some (.slice A' ln' lc') ∧ w'.cell? ⟨n2, 4, none⟩ = some (.slice B' tn' tc') ∧ w'.cell? ⟨w24'.heap.size, 2, none⟩ = some (.string ⟨(serL serI (l'.take 20)).toArray⟩) ∧ wx25.grownBy w' none)) (fun w' h => HSx21.out w' (gx25.trans h.2.2.2.2.2.2.2.2.2.2.2)) _ _ _ _ ?_
          have grx25 : wx25.grownBy wx25 none := World.grownBy.refl _ _
          have hSx25 := HSx25.out wx25 (World.grownBy.refl _ _)
          refine wpAnyH_take (i := 56) (oi := _) (v := ?_) rfl (by kernel_rfl) (by kernel_rfl) (by kernel_rfl) (fun _ _ _ h => h) (Or.inl ⟨by rfl, ?_⟩) (by assumption) ?_
          rotate_left 1
          · (intro w hSw; (try dsimp only at hSw); go_simp; first | done | with_reducible rfl)
          try simp only [Act.put]
          refine wpAnyH_take (i := 57) (oi := _) (v := ?_) rfl (by kernel_rfl) (by kernel_rfl) (by kernel_rfl) (fun _ _ _ h => h) (Or.inl ⟨by rfl, ?_⟩) (by assumption) ?_
          rotate_left 1
          · (intro w hSw; (try dsimp only at hSw); go_simp; first | done | with_reducible rfl)
          try simp only [Act.put]
          refine wpAnyH_take (i := 59) (oi := _) (v := ?_) rfl (by kernel_rfl) (by kernel_rfl) (by kernel_rfl) (fun _ _ _ h => h) (Or.inl ⟨by rfl, ?_⟩) (by assumption) ?_
          rotate_left 1
          · (intro w hSw; (try dsimp only at hSw); go_simp; first | done | with_reducible rfl)
          try simp only [Act.put]
          refine wpAnyH_done (by kernel_rfl) ?_ _
          refine NoPanic.normal ?_
          go_wp2_with fail
          go_meet
          case rel => exact ⟨rfl, rfl, gx21.trans gx25⟩
        · go_simp
          go_split_ands
          refine (ser_ints ⟨kd', n', s', A', ln', lc', l', B', tn', tc', t'⟩ _ (HB0.out _ (by assumption)) (HU0.out _ (by assumption))).mono ?_
          rintro e w26' ⟨rfl, g26⟩
          have gg26 := World.grownBy.trans (a := w0) (by assumption) g26
          first | (refine hK.out _ _ ?_ (fun hHeld => ?_)) | (go_wp2_with fail; refine hK.out _ _ ?_ (fun hHeld => ?_))
          · (try dsimp only); (go_split_ands; (first | (exact HS0.out _ (by assumption)) | (exact HS0.out _ (grown_dr (by assumption))) | (exact HS0.out _ (grown_al (by assumption))) | (exact HS0.out _ (grown_dr (grown_al (by assumption))))))
          clear hK K
          refine wpAnyH_ready (rs := [23, 50]) (by kernel_rfl) (by simp) ?_
          refine AllReadyH.cons (o := _) rfl (fun K hK => ?_) (AllReadyH.cons (o := _) rfl (fun K hK => ?_) AllReadyH.nil)
          · go_simp
            first | (refine hK.out _ _ ?_ (fun hHeld => ?_)) | (go_wp2_with fail; refine hK.out _ _ ?_ (fun hHeld => ?_))
            · (try dsimp only); (go_split_ands; (first | (exact HS0.out _ (by assumption)) | (exact HS0.out _ (grown_dr (by assumption))) | (exact HS0.out _ (grown_al (by assumption))) | (exact HS0.out _ (grown_dr (grown_al (by assumption))))))
            clear hK K
            have hx27 : (w26'.alloc (.cells #[.string ⟨(serI n).toArray⟩, .string ⟨(serT (s.take 100)).toArray⟩, .string ⟨(serL serI (l.take 20)).toArray⟩, .string ⟨(serL serT (cutL t)).toArray⟩] 9)).cell? ⟨w26'.heap.size, 2, none⟩ = some (.string ⟨(serL serI (l.take 20)).toArray⟩) := by simp
            have gx27 : w0.grownBy (w26'.alloc (.cells #[.string ⟨(serI n).toArray⟩, .string ⟨(serT (s.take 100)).toArray⟩, .string ⟨(serL serI (l.take 20)).toArray⟩, .string ⟨(serL serT (cutL t)).toArray⟩] 9)) none := grown_al (by assumption)
            obtain ⟨wx27, hwx27⟩ : ∃ wx, w26'.alloc (.cells #[.string ⟨(serI n).toArray⟩, .string ⟨(serT (s.take 100)).toArray⟩, .string ⟨(serL serI (l.take 20)).toArray⟩, .string ⟨(serL serT (cutL t)).toArray⟩] 9) = wx := ⟨_, rfl⟩
            rw [hwx27] at hx27 gx27
            rw [hwx27]
            have lx27 := World.block_lt_of_cell? _ _ hx27
            clear hwx27
            have HBx27 := Lib.hid (fun w' (g : wx27.grownBy w' none) => HB0.out w' (gx27.trans g))
            have HVx27 := Lib.hid (fun w' (g : wx27.grownBy w' none) => HV0.out w' (gx27.trans g))
            have HUx27 := Lib.hid (fun w' (g : wx27.grownBy w' none) => HU0.out w' (gx27.trans g))
            have HSx27 : Hid (∀ w', wx27.grownBy w' none → w'.cell? ⟨n1, 0, none⟩ = some (.int .u8 (kd : Int)) ∧ w'.cell? ⟨n1, 1, none⟩ = some (.int .i64 n) ∧ w'.cell? ⟨n1, 2, none⟩ = some (.string ⟨s.toArray⟩) ∧ w'.cell? ⟨n1, 3, none⟩ = some (.slice A ln lc) ∧ w'.cell? ⟨n1, 4, none⟩ = some (.slice B tn tc) ∧ w'.cell? ⟨n2, 0, none⟩ = some (.int .u8 (kd' : Int)) ∧ w'.cell? ⟨n2, 1, none⟩ = some (.int .i64 n') ∧ w'.cell? ⟨n2, 2, none⟩ = some (.string ⟨s'.toArray⟩) ∧ w'.cell? ⟨n2, 3, none⟩ = some (.slice A' ln' lc') ∧ w'.cell? ⟨n2, 4, none⟩ = some (.slice B' tn' tc') ∧ w'.cell? ⟨w26'.heap.size, 2, none⟩ = some (.string ⟨(serL serI (l.take 20)).toArray⟩) ∧ wx27.grownBy w' none) := Lib.hid (fun w' g => by
              obtain ⟨y0, y1, y2, y3, y4, y5, y6, y7, y8, y9, yg⟩ := HS0.out w' (gx27.trans g)
              exact ⟨y0, y1, y2, y3, y4, y5, y6, y7, y8, y9, ((below_of_grown g).cell (p := ⟨w26'.heap.size, 2, none⟩) lx27).trans hx27, g⟩)
            refine wpAnyH_mono (S' := (fun w' => w'.cell? ⟨n1, 0, none⟩ = some (.int .u8 (kd : Int)) ∧ w'.cell? ⟨n1, 1, none⟩ = some (.int .i64 n) ∧ w'.cell? ⟨n1, 2, none⟩ = some (.string ⟨s.toArray⟩) ∧ w'.cell? ⟨n1, 3, none⟩ = some (.slice A ln lc) ∧ w'.cell? ⟨n1, 4, none⟩ = some (.slice B tn tc) ∧ w'.cell? ⟨n2, 0, none⟩ = some (.int .u8 (kd' : Int)) ∧ w'.cell? ⟨n2, 1, none⟩ = some (.int .i64 n') ∧ w'.cell? ⟨n2, 2, none⟩ = some (.string ⟨s'.toArray⟩) ∧ w'.cell? ⟨n2, 3, none⟩ = some (.slice A' ln' lc') ∧ w'.cell? ⟨n2, 4, none⟩ = some (.slice B' tn' tc') ∧ w'.cell? ⟨w26'.heap.size, 2, none⟩ = some (.string ⟨(serL serI (l.take 20)).toArray⟩) ∧ wx27.grownBy w' none)) (fun w' h => HS0.out w' (gx27.trans h.2.2.2.2.2.2.2.2.2.2.2)) _ _ _ _ ?_
            have grx27 : wx27.grownBy wx27 none := World.grownBy.refl _ _
            have hSx27 := HSx27.out wx27 (World.grownBy.refl _ _)
            refine wpAnyH_take (i := 27) (oi := _) (v := ?_) rfl (by kernel_rfl) (by kernel_rfl) (by kernel_rfl) (fun _ _ _ h => h) (Or.inl ⟨by rfl, ?_⟩) (by assumption) ?_
            rotate_left 1
            · (intro w hSw; (try dsimp only at hSw); go_simp; first | done | with_reducible rfl)
            try simp only [Act.put]
            refine wpAnyH_take (i := 28) (oi := _) (v := ?_) rfl (by kernel_rfl) (by kernel_rfl) (by kernel_rfl) (fun _ _ _ h => h) (Or.inl ⟨by rfl, ?_⟩) (by assumption) ?_
            rotate_left 1
            · (intro w hSw; (try dsimp only at hSw); go_simp; first | done | with_reducible rfl)
            try simp only [Act.put]
            refine wpAnyH_ready (rs := [50]) (by kernel_rfl) (by simp) ?_
            refine AllReadyH.cons (o := _) rfl (fun K hK => ?_) AllReadyH.nil
            go_simp
            go_split_ands
            refine (ser_cut ⟨kd', n', s', A', ln', lc', l', B', tn', tc', t'⟩ _ (HUx27.out _ (by assumption))).mono ?_
            rintro e w28' ⟨A5, c5, rfl, A5y, g28⟩
            have gg28 := World.grownBy.trans (a := wx27) (by assumption) g28
            first | (refine hK.out _ _ ?_ (fun hHeld => ?_)) | (go_wp2_with fail; refine hK.out _ _ ?_ (fun hHeld => ?_))
            · (try dsimp only); (go_split_ands; (first | (exact HSx27.out _ (by assumption)) | (exact HSx27.out _ (grown_dr (by assumption))) | (exact HSx27.out _ (grown_al (by assumption))) | (exact HSx27.out _ (grown_dr (grown_al (by assumption))))))
            clear hK K
            refine wpAnyH_ready (rs := [51]) (by kernel_rfl) (by simp) ?_
            refine AllReadyH.cons (o := _) rfl (fun K hK => ?_) AllReadyH.nil
            go_simp
            go_split_ands
            refine (ser_texts t' _ _ _ _ (HBx27.out _ (by assumption)) A5y).mono ?_
            rintro e w29' ⟨rfl, g29⟩
            have gg29 := World.grownBy.trans (a := wx27) (by assumption) g29
            first | (refine hK.out _ _ ?_ (fun hHeld => ?_)) | (go_wp2_with fail; refine hK.out _ _ ?_ (fun hHeld => ?_))
            · (try dsimp only); (go_split_ands; (first | (exact HSx27.out _ (by assumption)) | (exact HSx27.out _ (grown_dr (by assumption))) | (exact HSx27.out _ (grown_al (by assumption))) | (exact HSx27.out _ (grown_dr (grown_al (by assumption))))))
            clear hK K
            refine wpAnyH_take (i := 58) (oi := _) (v := ?_) rfl (by kernel_rfl) (by kernel_rfl) (by kernel_rfl) (fun _ _ _ h => h) (Or.inl ⟨by rfl, ?_⟩) (by assumption) ?_
            rotate_left 1
            · (intro w hSw; (try dsimp only at hSw); go_simp; first | done | with_reducible rfl)
            try simp only [Act.put]
            refine wpAnyH_ready (rs := [52]) (by kernel_rfl) (by simp) ?_
            refine AllReadyH.cons (o := _) rfl (fun K hK => ?_) AllReadyH.nil
            go_simp
            first | (refine hK.out _ _ ?_ (fun hHeld => ?_)) | (go_wp2_with fail; refine hK.out _ _ ?_ (fun hHeld => ?_))
            · (try dsimp only); (go_split_ands; (first | (exact HSx27.out _ (by assumption)) | (exact HSx27.out _ (grown_dr (by assumption))) | (exact HSx27.out _ (grown_al (by assumption))) | (exact HSx27.out _ (grown_dr (grown_al (by assumption))))))
            clear hK K
            have hx30 : (w29'.alloc (.cells #[.string ⟨(serI n').toArray⟩, .string ⟨(serT (s'.take 100)).toArray⟩, .string ⟨(serL serI (l'.take 20)).toArray⟩, .string ⟨(serL serT (cutL t')).toArray⟩] 9)).cell? ⟨w29'.heap.size, 2, none⟩ = some (.string ⟨(serL serI (l'.take 20)).toArray⟩) := by simp
            have gx30 : wx27.grownBy (w29'.alloc (.cells #[.string ⟨(serI n').toArray⟩, .string ⟨(serT (s'.take 100)).toArray⟩, .string ⟨(serL serI (l'.take 20)).toArray⟩, .string ⟨(serL serT (cutL t')).toArray⟩] 9)) none := grown_al (by assumption)
            obtain ⟨wx30, hwx30⟩ : ∃ wx, w29'.alloc (.cells #[.string ⟨(serI n').toArray⟩, .string ⟨(serT (s'.take 100)).toArray⟩, .string ⟨(serL serI (l'.take 20)).toArray⟩, .string ⟨(serL serT (cutL t')).toArray⟩] 9) = wx := ⟨_, rfl⟩
            rw [hwx30] at hx30 gx30
            rw [hwx30]
            have lx30 := World.block_lt_of_cell? _ _ hx30
            clear hwx30
            have HBx30 := Lib.hid (fun w' (g : wx30.grownBy w' none) => HBx27.out w' (gx30.trans g))
            have HVx30 := Lib.hid (fun w' (g : wx30.grownBy w' none) => HVx27.out w' (gx30.trans g))
            have HUx30 := Lib.hid (fun w' (g : wx30.grownBy w' none) => HUx27.out w' (gx30.trans g))
            have HSx30 : Hid (∀ w', wx30.grownBy w' none → w'.cell? ⟨n1, 0, none⟩ = some (.int .u8 (kd : Int)) ∧ w'.cell? ⟨n1, 1, none⟩ = some (.int .i64 n) ∧ w'.cell? ⟨n1, 2, none⟩ = some (.string ⟨s.toArray⟩) ∧ w'.cell? ⟨n1, 3, none⟩ = some (.slice A ln lc) ∧ w'.cell? ⟨n1, 4, none⟩ = some (.slice B tn tc) ∧ w'.cell? ⟨n2, 0, none⟩ = some (.int .u8 (kd' : Int)) ∧ w'.cell? ⟨n2, 1, none⟩ = some (.int .i64 n') ∧ w'.cell? ⟨n2, 2, none⟩ = some (.string ⟨s'.toArray⟩) ∧ w'.cell? ⟨n2, 3, none⟩ = some (.slice A' ln' lc') ∧ w'.cell? ⟨n2, 4, none⟩ = some (.slice B' tn' tc') ∧ w'.cell? ⟨w29'.heap.size, 2, none⟩ = some (.string ⟨(serL serI (l'.take 20)).toArray⟩) ∧ wx30.grownBy w' none) := Lib.hid (fun w' g => by
              obtain ⟨y0, y1, y2, y3, y4, y5, y6, y7, y8, y9, yc, yg⟩ := HSx27.out w' (gx30.trans g)
              exact ⟨y0, y1, y2, y3, y4, y5, y6, y7, y8, y9, ((below_of_grown g).cell (p := ⟨w29'.heap.size, 2, none⟩) lx30).trans hx30, g⟩)
            refine wpAnyH_mono (S' := (fun w' => w'.cell? ⟨n1, 0, none⟩ = some (.int .u8 (kd : Int)) ∧ w'.cell? ⟨n1, 1, none⟩ = some (.int .i64 n) ∧ w'.cell? ⟨n1, 2, none⟩ = some (.string ⟨s.toArray⟩) ∧ w'.cell? ⟨n1, 3, none⟩ = some (.slice A ln lc) ∧ w'.cell? ⟨n1, 4, none⟩ = some (.slice B tn tc) ∧ w'.cell? ⟨n2, 0, none⟩ = some (.int .u8 (kd' : Int)) ∧ w'.cell? ⟨n2, 1, none⟩ = some (.int .i64 n') ∧ w'.cell? ⟨n2, 2, none⟩ = some (.string ⟨s'.toArray⟩) ∧ w'.cell? ⟨n2, 3, none⟩ = some (.slice A' ln' lc') ∧ w'.cell? ⟨n2, 4, none⟩ = some (.slice B' tn' tc') ∧ w'.cell? ⟨w29'.heap.size, 2, none⟩ = some (.string ⟨(serL serI (l'.take 20)).toArray⟩) ∧ wx30.grownBy w' none)) (fun w' h => HSx27.out w' (gx30.trans h.2.2.2.2.2.2.2.2.2.2.2)) _ _ _ _ ?_
            have grx30 : wx30.grownBy wx30 none := World.grownBy.refl _ _
            have hSx30 := HSx30.out wx30 (World.grownBy.refl _ _)
            refine wpAnyH_take (i := 56) (oi := _) (v := ?_) rfl (by kernel_rfl) (by kernel_rfl) (by kernel_rfl) (fun _ _ _ h => h) (Or.inl ⟨by rfl, ?_⟩) (by assumption) ?_
            rotate_left 1
            · (intro w hSw; (try dsimp only at hSw); go_simp; first | done | with_reducible rfl)
            try simp only [Act.put]
            refine wpAnyH_take (i := 57) (oi := _) (v := ?_) rfl (by kernel_rfl) (by kernel_rfl) (by kernel_rfl) (fun _ _ _ h => h) (Or.inl ⟨by rfl, ?_⟩) (by assumption) ?_
            rotate_left 1
            · (intro w hSw; (try dsimp only at hSw); go_simp; first | done | with_reducible rfl)
            try simp only [Act.put]
            refine wpAnyH_take (i := 59) (oi := _) (v := ?_) rfl (by kernel_rfl) (by kernel_rfl) (by kernel_rfl) (fun _ _ _ h => h) (Or.inl ⟨by rfl, ?_⟩) (by assumption) ?_
            rotate_left 1
            · (intro w hSw; (try dsimp only at hSw); go_simp; first | done | with_reducible rfl)
            try simp only [Act.put]
            refine wpAnyH_done (by kernel_rfl) ?_ _
            refine NoPanic.normal ?_
            go_wp2_with fail
            go_meet
            case rel => exact ⟨rfl, rfl, gx27.trans gx30⟩
          · go_simp
            go_split_ands
            refine (ser_cut ⟨kd', n', s', A', ln', lc', l', B', tn', tc', t'⟩ _ (HU0.out _ (by assumption))).mono ?_
            rintro e w31' ⟨A5, c5, rfl, A5y, g31⟩
            have gg31 := World.grownBy.trans (a := w0) (by assumption) g31
            first | (refine hK.out _ _ ?_ (fun hHeld => ?_)) | (go_wp2_with fail; refine hK.out _ _ ?_ (fun hHeld => ?_))
            · (try dsimp only); (go_split_ands; (first | (exact HS0.out _ (by assumption)) | (exact HS0.out _ (grown_dr (by assumption))) | (exact HS0.out _ (grown_al (by assumption))) | (exact HS0.out _ (grown_dr (grown_al (by assumption))))))
            clear hK K
            refine wpAnyH_ready (rs := [23, 51]) (by kernel_rfl) (by simp) ?_
            refine AllReadyH.cons (o := _) rfl (fun K hK => ?_) (AllReadyH.cons (o := _) rfl (fun K hK => ?_) AllReadyH.nil)
            · go_simp
              first | (refine hK.out _ _ ?_ (fun hHeld => ?_)) | (go_wp2_with fail; refine hK.out _ _ ?_ (fun hHeld => ?_))
              · (try dsimp only); (go_split_ands; (first | (exact HS0.out _ (by assumption)) | (exact HS0.out _ (grown_dr (by assumption))) | (exact HS0.out _ (grown_al (by assumption))) | (exact HS0.out _ (grown_dr (grown_al (by assumption))))))
              clear hK K
              have hx32 : (w31'.alloc (.cells #[.string ⟨(serI n).toArray⟩, .string ⟨(serT (s.take 100)).toArray⟩, .string ⟨(serL serI (l.take 20)).toArray⟩, .string ⟨(serL serT (cutL t)).toArray⟩] 9)).cell? ⟨w31'.heap.size, 2, none⟩ = some (.string ⟨(serL serI (l.take 20)).toArray⟩) := by simp
              have gx32 : w0.grownBy (w31'.alloc (.cells #[.string ⟨(serI n).toArray⟩, .string ⟨(serT (s.take 100)).toArray⟩, .string ⟨(serL serI (l.take 20)).toArray⟩, .string ⟨(serL serT (cutL t)).toArray⟩] 9)) none := grown_al (by assumption)
              have oy := own_al A5y (.cells #[.string ⟨(serI n).toArray⟩, .string ⟨(serT (s.take 100)).toArray⟩, .string ⟨(serL serI (l.take 20)).toArray⟩, .string ⟨(serL serT (cutL t)).toArray⟩] 9)
              obtain ⟨wx32, hwx32⟩ : ∃ wx, w31'.alloc (.cells #[.string ⟨(serI n).toArray⟩, .string ⟨(serT (s.take 100)).toArray⟩, .string ⟨(serL serI (l.take 20)).toArray⟩, .string ⟨(serL serT (cutL t)).toArray⟩] 9) = wx := ⟨_, rfl⟩
              rw [hwx32] at hx32 gx32 oy
              rw [hwx32]
              have lx32 := World.block_lt_of_cell? _ _ hx32
              clear hwx32
              have HBx32 := Lib.hid (fun w' (g : wx32.grownBy w' none) => HB0.out w' (gx32.trans g))
              have HVx32 := Lib.hid (fun w' (g : wx32.grownBy w' none) => HV0.out w' (gx32.trans g))
              have HUx32 := Lib.hid (fun w' (g : wx32.grownBy w' none) => HU0.out w' (gx32.trans g))
              have HSx32 : Hid (∀ w', wx32.grownBy w' none → w'.cell? ⟨n1, 0, none⟩ = some (.int .u8 (kd : Int)) ∧ w'.cell? ⟨n1, 1, none⟩ = some (.int .i64 n) ∧ w'.cell? ⟨n1, 2, none⟩ = some (.string ⟨s.toArray⟩) ∧ w'.cell? ⟨n1, 3, none⟩ = some (.slice A ln lc) ∧ w'.cell? ⟨n1, 4, none⟩ = some (.slice B tn tc) ∧ w'.cell? ⟨n2, 0, none⟩ = some (.int .u8 (kd' : Int)) ∧ w'.cell? ⟨n2, 1, none⟩ = some (.int .i64 n') ∧ w'.cell? ⟨n2, 2, none⟩ = some (.string ⟨s'.toArray⟩) ∧ w'.cell? ⟨n2, 3, none⟩ = some (.slice A' ln' lc') ∧ w'.cell? ⟨n2, 4, none⟩ = some (.slice B' tn' tc') ∧ w'.cell? ⟨w31'.heap.size, 2, none⟩ = some (.string ⟨(serL serI (l.take 20)).toArray⟩) ∧ wx32.grownBy w' none) := Lib.hid (fun w' g => by
                obtain ⟨y0, y1, y2, y3, y4, y5, y6, y7, y8, y9, yg⟩ := HS0.out w' (gx32.trans g)
                exact ⟨y0, y1, y2, y3, y4, y5, y6, y7, y8, y9, ((below_of_grown g).cell (p := ⟨w31'.heap.size, 2, none⟩) lx32).trans hx32, g⟩)
              refine wpAnyH_mono (S' := (fun w' => w'.cell? ⟨n1, 0, none⟩ = some (.int .u8 (kd : Int)) ∧ w'.cell? ⟨n1, 1, none⟩ = some (.int .i64 n) ∧ w'.cell? ⟨n1, 2, none⟩ = some (.string ⟨s.toArray⟩) ∧ w'.cell? ⟨n1, 3, none⟩ = some (.slice A ln lc) ∧ w'.cell? ⟨n1, 4, none⟩ = some (.slice B tn tc) ∧ w'.cell? ⟨n2, 0, none⟩ = some (.int .u8 (kd' : Int)) ∧ w'.cell? ⟨n2, 1, none⟩ = some (.int .i64 n') ∧ w'.cell? ⟨n2, 2, none⟩ = some (.string ⟨s'.toArray⟩) ∧ w'.cell? ⟨n2, 3, none⟩ = some (.slice A' ln' lc') ∧ w'.cell? ⟨n2, 4, none⟩ = some (.slice B' tn' tc') ∧ w'.cell? ⟨w31'.heap.size, 2, none⟩ = some (.string ⟨(serL serI (l.take 20)).toArray⟩) ∧ wx32.grownBy w' none)) (fun w' h => HS0.out w' (gx32.trans h.2.2.2.2.2.2.2.2.2.2.2)) _ _ _ _ ?_
              have grx32 : wx32.grownBy wx32 none := World.grownBy.refl _ _
              have hSx32 := HSx32.out wx32 (World.grownBy.refl _ _)
              refine wpAnyH_take (i := 27) (oi := _) (v := ?_) rfl (by kernel_rfl) (by kernel_rfl) (by kernel_rfl) (fun _ _ _ h => h) (Or.inl ⟨by rfl, ?_⟩) (by assumption) ?_
              rotate_left 1
              · (intro w hSw; (try dsimp only at hSw); go_simp; first | done | with_reducible rfl)
              try simp only [Act.put]
              refine wpAnyH_take (i := 28) (oi := _) (v := ?_) rfl (by kernel_rfl) (by kernel_rfl) (by kernel_rfl) (fun _ _ _ h => h) (Or.inl ⟨by rfl, ?_⟩) (by assumption) ?_
              rotate_left 1
              · (intro w hSw; (try dsimp only at hSw); go_simp; first | done | with_reducible rfl)
              try simp only [Act.put]
              refine wpAnyH_ready (rs := [51]) (by kernel_rfl) (by simp) ?_
              refine AllReadyH.cons (o := _) rfl (fun K hK => ?_) AllReadyH.nil
              go_simp
              go_split_ands
              refine (ser_texts t' _ _ _ _ (HBx32.out _ (by assumption)) oy).mono ?_
              rintro e w33' ⟨rfl, g33⟩
              have gg33 := World.grownBy.trans (a := wx32) (by assumption) g33
              first | (refine hK.out _ _ ?_ (fun hHeld => ?_)) | (go_wp2_with fail; refine hK.out _ _ ?_ (fun hHeld => ?_))
              · (try dsimp only); (go_split_ands; (first | (exact HSx32.out _ (by assumption)) | (exact HSx32.out _ (grown_dr (by assumption))) | (exact HSx32.out _ (grown_al (by assumption))) | (exact HSx32.out _ (grown_dr (grown_al (by assumption))))))
              clear hK K
              refine wpAnyH_take (i := 58) (oi := _) (v := ?_) rfl (by kernel_rfl) (by kernel_rfl) (by kernel_rfl) (fun _ _ _ h => h) (Or.inl ⟨by rfl, ?_⟩) (by assumption) ?_
              rotate_left 1
              · (intro w hSw; (try dsimp only at hSw); go_simp; first | done | with_reducible rfl)
              try simp only [Act.put]
              refine wpAnyH_ready (rs := [52]) (by kernel_rfl) (by simp) ?_
              refine AllReadyH.cons (o := _) rfl (fun K hK => ?_) AllReadyH.nil
              go_simp
              first | (refine hK.out _ _ ?_ (fun hHeld => ?_)) | (go_wp2_with fail; refine hK.out _ _ ?_ (fun hHeld => ?_))
              · (try dsimp only); (go_split_ands; (first | (exact HSx32.out _ (by assumption)) | (exact HSx32.out _ (grown_dr (by assumption))) | (exact HSx32.out _ (grown_al (by assumption))) | (exact HSx32.out _ (grown_dr (grown_al (by assumption))))))
              clear hK K
              have hx34 : (w33'.alloc (.cells #[.string ⟨(serI n').toArray⟩, .string ⟨(serT (s'.take 100)).toArray⟩, .string ⟨(serL serI (l'.take 20)).toArray⟩, .string ⟨(serL serT (cutL t')).toArray⟩] 9)).cell? ⟨w33'.heap.size, 2, none⟩ = some (.string ⟨(serL serI (l'.take 20)).toArray⟩) := by simp
              have gx34 : wx32.grownBy (w33'.alloc (.cells #[.string ⟨(serI n').toArray⟩, .string ⟨(serT (s'.take 100)).toArray⟩, .string ⟨(serL serI (l'.take 20)).toArray⟩, .string ⟨(serL serT (cutL t')).toArray⟩] 9)) none := grown_al (by assumption)
              obtain ⟨wx34, hwx34⟩ : ∃ wx, w33'.alloc (.cells #[.string ⟨(serI n').toArray⟩, .string ⟨(serT (s'.take 100)).toArray⟩, .string ⟨(serL serI (l'.take 20)).toArray⟩, .string ⟨(serL serT (cutL t')).toArray⟩] 9) = wx := ⟨_, rfl⟩
              rw [hwx34] at hx34 gx34
              rw [hwx34]
              have lx34 := World.block_lt_of_cell? _ _ hx34
              clear hwx34
              have HBx34 := Lib.hid (fun w' (g : wx34.grownBy w' none) => HBx32.out w' (gx34.trans g))
              have HVx34 := Lib.hid (fun w' (g : wx34.grownBy w' none) => HVx32.out w' (gx34.trans g))
              have HUx34 := Lib.hid (fun w' (g : wx34.grownBy w' none) => HUx32.out w' (gx34.trans g))
              have HSx34 : Hid (∀ w', wx34.grownBy w' none → w'.cell? ⟨n1, 0, none⟩ = some (.int .u8 (kd : Int)) ∧ w'.cell? ⟨n1, 1, none⟩ = some (.int .i64 n) ∧ w'.cell? ⟨n1, 2, none⟩ = some (.string ⟨s.toArray⟩) ∧ w'.cell? ⟨n1, 3, none⟩ = some (.slice A ln lc) ∧ w'.cell? ⟨n1, 4, none⟩ = some (.slice B tn tc) ∧ w'.cell? ⟨n2, 0, none⟩ = some (.int .u8 (kd' : Int)) ∧ w'.cell? ⟨n2, 1, none⟩ = some (.int .i64 n') ∧ w'.cell? ⟨n2, 2, none⟩ = some (.string ⟨s'.toArray⟩) ∧ w'.cell? ⟨n2, 3, none⟩ = some (.slice A' ln' lc') ∧ w'.cell? ⟨n2, 4, none⟩ = some (.slice B' tn' tc') ∧ w'.cell? ⟨w33'.heap.size, 2, none⟩ = some (.string ⟨(serL serI (l'.take 20)).toArray⟩) ∧ wx34.grownBy w' none) := Lib.hid (fun w' g => by
                obtain ⟨y0, y1, y2, y3, y4, y5, y6, y7, y8, y9, yc, yg⟩ := HSx32.out w' (gx34.trans g)
                exact ⟨y0, y1, y2, y3, y4, y5, y6, y7, y8, y9, ((below_of_grown g).cell (p := ⟨w33'.heap.size, 2, none⟩) lx34).trans hx34, g⟩)
              refine wpAnyH_mono (S' := (fun w' => w'.cell? ⟨n1, 0, none⟩ = some (.int .u8 (kd : Int)) ∧ w'.cell? ⟨n1, 1, none⟩ = some (.int .i64 n) ∧ w'.cell? ⟨n1, 2, none⟩ = some (.string ⟨s.toArray⟩) ∧ w'.cell? ⟨n1, 3, none⟩ = some (.slice A ln lc) ∧ w'.cell? ⟨n1, 4, none⟩ = some (.slice B tn tc) ∧ w'.cell? ⟨n2, 0, none⟩ = some (.int .u8 (kd' : Int)) ∧ w'.cell? ⟨n2, 1, none⟩ = some (.int .i64 n') ∧ w'.cell? ⟨n2, 2, none⟩ = some (.string ⟨s'.toArray⟩) ∧ w'.cell? ⟨n2, 3, none⟩ = some (.slice A' ln' lc') ∧ w'.cell? ⟨n2, 4, none⟩ = some (.slice B' tn' tc') ∧ w'.cell? ⟨w33'.heap.size, 2, none⟩ = some (.string ⟨(serL serI (l'.take 20)).toArray⟩) ∧ wx34.grownBy w' none)) (fun w' h => HSx32.out w' (gx34.trans h.2.2.2.2.2.2.2.2.2.2.2)) _ _ _ _ ?_
              have grx34 : wx34.grownBy wx34 none := World.grownBy.refl _ _
              have hSx34 := HSx34.out wx34 (World.grownBy.refl _ _)
              refine wpAnyH_take (i := 56) (oi := _) (v := ?_) rfl (by kernel_rfl) (by kernel_rfl) (by kernel_rfl) (fun _ _ _ h => h) (Or.inl ⟨by rfl, ?_⟩) (by assumption) ?_
              rotate_left 1
              · (intro w hSw; (try dsimp only at hSw); go_simp; first | done | with_reducible rfl)
              try simp only [Act.put]
              refine wpAnyH_take (i := 57) (oi := _) (v := ?_) rfl (by kernel_rfl) (by kernel_rfl) (by kernel_rfl) (fun _ _ _ h => h) (Or.inl ⟨by rfl, ?_⟩) (by assumption) ?_
              rotate_left 1
              · (intro w hSw; (try dsimp only at hSw); go_simp; first | done | with_reducible rfl)
              try simp only [Act.put]
              refine wpAnyH_take (i := 59) (oi := _) (v := ?_) rfl (by kernel_rfl) (by kernel_rfl) (by kernel_rfl) (fun _ _ _ h => h) (Or.inl ⟨by rfl, ?_⟩) (by assumption) ?_
              rotate_left 1
              · (intro w hSw; (try dsimp only at hSw); go_simp; first | done | with_reducible rfl)
              try simp only [Act.put]
              refine wpAnyH_done (by kernel_rfl) ?_ _
              refine NoPanic.normal ?_
              go_wp2_with fail
              go_meet
              case rel => exact ⟨rfl, rfl, gx32.trans gx34⟩
            · go_simp
              go_split_ands
              refine (ser_texts t' _ _ _ _ (HB0.out _ (by assumption)) A5y).mono ?_
              rintro e w35' ⟨rfl, g35⟩
              have gg35 := World.grownBy.trans (a := w0) (by assumption) g35
              first | (refine hK.out _ _ ?_ (fun hHeld => ?_)) | (go_wp2_with fail; refine hK.out _ _ ?_ (fun hHeld => ?_))
              · (try dsimp only); (go_split_ands; (first | (exact HS0.out _ (by assumption)) | (exact HS0.out _ (grown_dr (by assumption))) | (exact HS0.out _ (grown_al (by assumption))) | (exact HS0.out _ (grown_dr (grown_al (by assumption))))))
              clear hK K
              refine wpAnyH_ready (rs := [23, 52]) (by kernel_rfl) (by simp) ?_
              refine AllReadyH.cons (o := _) rfl (fun K hK => ?_) (AllReadyH.cons (o := _) rfl (fun K hK => ?_) AllReadyH.nil)
              · go_simp
                first | (refine hK.out _ _ ?_ (fun hHeld => ?_)) | (go_wp2_with fail; refine hK.out _ _ ?_ (fun hHeld => ?_))
                · (try dsimp only); (go_split_ands; (first | (exact HS0.out _ (by assumption)) | (exact HS0.out _ (grown_dr (by assumption))) | (exact HS0.out _ (grown_al (by assumption))) | (exact HS0.out _ (grown_dr (grown_al (by assumption))))))
                clear hK K
                have hx36 : (w35'.alloc (.cells #[.string ⟨(serI n).toArray⟩, .string ⟨(serT (s.take 100)).toArray⟩, .string ⟨(serL serI (l.take 20)).toArray⟩, .string ⟨(serL serT (cutL t)).toArray⟩] 9)).cell? ⟨w35'.heap.size, 2, none⟩ = some (.string ⟨(serL serI (l.take 20)).toArray⟩) := by simp
                have gx36 : w0.grownBy (w35'.alloc (.cells #[.string ⟨(serI n).toArray⟩, .string ⟨(serT (s.take 100)).toArray⟩, .string ⟨(serL serI (l.take 20)).toArray⟩, .string ⟨(serL serT (cutL t)).toArray⟩] 9)) none := grown_al (by assumption)
                obtain ⟨wx36, hwx36⟩ : ∃ wx, w35'.alloc (.cells #[.string ⟨(serI n).toArray⟩, .string ⟨(serT (s.take 100)).toArray⟩, .string ⟨(serL serI (l.take 20)).toArray⟩, .string ⟨(serL serT (cutL t)).toArray⟩] 9) = wx := ⟨_, rfl⟩
                rw [hwx36] at hx36 gx36
                rw [hwx36]
                have lx36 := World.block_lt_of_cell? _ _ hx36
                clear hwx36
                have HBx36 := Lib.hid (fun w' (g : wx36.grownBy w' none) => HB0.out w' (gx36.trans g))
                have HVx36 := Lib.hid (fun w' (g : wx36.grownBy w' none) => HV0.out w' (gx36.trans g))
                have HUx36 := Lib.hid (fun w' (g : wx36.grownBy w' none) => HU0.out w' (gx36.trans g))
                have HSx36 : Hid (∀ w', wx36.grownBy w' none → w'.cell? ⟨n1, 0, none⟩ = some (.int .u8 (kd : Int)) ∧ w'.cell? ⟨n1, 1, none⟩ = some (.int .i64 n) ∧ w'.cell? ⟨n1, 2, none⟩ = some (.string ⟨s.toArray⟩) ∧ w'.cell? ⟨n1, 3, none⟩ = some (.slice A ln lc) ∧ w'.cell? ⟨n1, 4, none⟩ = some (.slice B tn tc) ∧ w'.cell? ⟨n2, 0, none⟩ = some (.int .u8 (kd' : Int)) ∧ w'.cell? ⟨n2, 1, none⟩ = some (.int .i64 n') ∧ w'.cell? ⟨n2, 2, none⟩ = some (.string ⟨s'.toArray⟩) ∧ w'.cell? ⟨n2, 3, none⟩ = some (.slice A' ln' lc') ∧ w'.cell? ⟨n2, 4, none⟩ = some (.slice B' tn' tc') ∧ w'.cell? ⟨w35'.heap.size, 2, none⟩ = some (.string ⟨(serL serI (l.take 20)).toArray⟩) ∧ wx36.grownBy w' none) := Lib.hid (fun w' g => by
                  obtain ⟨y0, y1, y2, y3, y4, y5, y6, y7, y8, y9, yg⟩ := HS0.out w' (gx36.trans g)
                  exact ⟨y0, y1, y2, y3, y4, y5, y6, y7, y8, y9, ((below_of_grown g).cell (p := ⟨w35'.heap.size, 2, none⟩) lx36).trans hx36, g⟩)
                refine wpAnyH_mono (S' := (fun w' => w'.cell? ⟨n1, 0, none⟩ = some (.int .u8 (kd : Int)) ∧ w'.cell? ⟨n1, 1, none⟩ = some (.int .i64 n) ∧ w'.cell? ⟨n1, 2, none⟩ = some (.string ⟨s.toArray⟩) ∧ w'.cell? ⟨n1, 3, none⟩ = some (.slice A ln lc) ∧ w'.cell? ⟨n1, 4, none⟩ = some (.slice B tn tc) ∧ w'.cell? ⟨n2, 0, none⟩ = some (.int .u8 (kd' : Int)) ∧ w'.cell? ⟨n2, 1, none⟩ = some (.int .i64 n') ∧ w'.cell? ⟨n2, 2, none⟩ = some (.string ⟨s'.toArray⟩) ∧ w'.cell? ⟨n2, 3, none⟩ = some (.slice A' ln' lc') ∧ w'.cell? ⟨n2, 4, none⟩ = some (.slice B' tn' tc') ∧ w'.cell? ⟨w35'.heap.size, 2, none⟩ = some (.string ⟨(serL serI (l.take 20)).toArray⟩) ∧ wx36.grownBy w' none)) (fun w' h => HS0.out w' (gx36.trans h.2.2.2.2.2.2.2.2.2.2.2)) _ _ _ _ ?_
                have grx36 : wx36.grownBy wx36 none := World.grownBy.refl _ _
                have hSx36 := HSx36.out wx36 (World.grownBy.refl _ _)
                refine wpAnyH_take (i := 27) (oi := _) (v := ?_) rfl (by kernel_rfl) (by kernel_rfl) (by kernel_rfl) (fun _ _ _ h => h) (Or.inl ⟨by rfl, ?_⟩) (by assumption) ?_
                rotate_left 1
                · (intro w hSw; (try dsimp only at hSw); go_simp; first | done | with_reducible rfl)
                try simp only [Act.put]
                refine wpAnyH_take (i := 28) (oi := _) (v := ?_) rfl (by kernel_rfl) (by kernel_rfl) (by kernel_rfl) (fun _ _ _ h => h) (Or.inl ⟨by rfl, ?_⟩) (by assumption) ?_
                rotate_left 1
                · (intro w hSw; (try dsimp only at hSw); go_simp; first | done | with_reducible rfl)
                try simp only [Act.put]
                refine wpAnyH_take (i := 58) (oi := _) (v := ?_) rfl (by kernel_rfl) (by kernel_rfl) (by kernel_rfl) (fun _ _ _ h => h) (Or.inl ⟨by rfl, ?_⟩) (by assumption) ?_
                rotate_left 1
                · (intro w hSw; (try dsimp only at hSw); go_simp; first | done | with_reducible rfl)
                try simp only [Act.put]
                refine wpAnyH_ready (rs := [52]) (by kernel_rfl) (by simp) ?_
                refine AllReadyH.cons (o := _) rfl (fun K hK => ?_) AllReadyH.nil
                go_simp
                first | (refine hK.out _ _ ?_ (fun hHeld => ?_)) | (go_wp2_with fail; refine hK.out _ _ ?_ (fun hHeld => ?_))
                · (try dsimp only); (go_split_ands; (first | (exact HSx36.out _ (by assumption)) | (exact HSx36.out _ (grown_dr (by assumption))) | (exact HSx36.out _ (grown_al (by assumption))) | (exact HSx36.out _ (grown_dr (grown_al (by assumption))))))
                clear hK K
                have hx37 : (wx36.alloc (.cells #[.string ⟨(serI n').toArray⟩, .string ⟨(serT (s'.take 100)).toArray⟩, .string ⟨(serL serI (l'.take 20)).toArray⟩, .string ⟨(serL serT (cutL t')).toArray⟩] 9)).cell? ⟨wx36.heap.size, 2, none⟩ = some (.string ⟨(serL serI (l'.take 20)).toArray⟩) := by simp
                have gx37 : wx36.grownBy (wx36.alloc (.cells #[.string ⟨(serI n').toArray⟩, .string ⟨(serT (s'.take 100)).toArray⟩, .string ⟨(serL serI (l'.take 20)).toArray⟩, .string ⟨(serL serT (cutL t')).toArray⟩] 9)) none := grown_al (by assumption)
                obtain ⟨wx37, hwx37⟩ : ∃ wx, wx36.alloc (.cells #[.string ⟨(serI n').toArray⟩, .string ⟨(serT (s'.take 100)).toArray⟩, .string ⟨(serL serI (l'.take 20)).toArray⟩, .string ⟨(serL serT (cutL t')).toArray⟩] 9) = wx := ⟨_, rfl⟩
                rw [hwx37] at hx37 gx37
                rw [hwx37]
                have lx37 := World.block_lt_of_cell? _ _ hx37
                clear hwx37
                have HBx37 := Lib.hid (fun w' (g : wx37.grownBy w' none) => HBx36.out w' (gx37.trans g))
                have HVx37 := Lib.hid (fun w' (g : wx37.grownBy w' none) => HVx36.out w' (gx37.trans g))
                have HUx37 := Lib.hid (fun w' (g : wx37.grownBy w' none) => HUx36.out w' (gx37.trans g))
                have HSx37 : Hid (∀ w', wx37.grownBy w' none → w'.cell? ⟨n1, 0, none⟩ = some (.int .u8 (kd : Int)) ∧ w'.cell? ⟨n1, 1, none⟩ = some (.int .i64 n) ∧ w'.cell? ⟨n1, 2, none⟩ = some (.string ⟨s.toArray⟩) ∧ w'.cell? ⟨n1, 3, none⟩ = some (.slice A ln lc) ∧ w'.cell? ⟨n1, 4, none⟩ = some (.slice B tn tc) ∧ w'.cell? ⟨n2, 0, none⟩ = some (.int .u8 (kd' : Int)) ∧ w'.cell? ⟨n2, 1, none⟩ = some (.int .i64 n') ∧ w'.cell? ⟨n2, 2, none⟩ = some (.string ⟨s'.toArray⟩) ∧ w'.cell? ⟨n2, 3, none⟩ = some (.slice A' ln' lc') ∧ w'.cell? ⟨n2, 4, none⟩ = some (.slice B' tn' tc') ∧ w'.cell? ⟨wx36.heap.size, 2, none⟩ = some (.string ⟨(serL serI (l'.take 20)).toArray⟩) ∧ wx37.grownBy w' none) := Lib.hid (fun w' g => by
                  obtain ⟨y0, y1, y2, y3, y4, y5, y6, y7, y8, y9, yc, yg⟩ := HSx36.out w' (gx37.trans g)
                  exact ⟨y0, y1, y2, y3, y4, y5, y6, y7, y8, y9, ((below_of_grown g).cell (p := ⟨wx36.heap.size, 2, none⟩) lx37).trans hx37, g⟩)
                refine wpAnyH_mono (S' := (fun w' => w'.cell? ⟨n1, 0, none⟩ = some (.int .u8 (kd : Int)) ∧ w'.cell? ⟨n1, 1, none⟩ = some (.int .i64 n) ∧ w'.cell? ⟨n1, 2, none⟩ = some (.string ⟨s.toArray⟩) ∧ w'.cell? ⟨n1, 3, none⟩ = some (.slice A ln lc) ∧ w'.cell? ⟨n1, 4, none⟩ = some (.slice B tn tc) ∧ w'.cell? ⟨n2, 0, none⟩ = some (.int .u8 (kd' : Int)) ∧ w'.cell? ⟨n2, 1, none⟩ = some (.int .i64 n') ∧ w'.cell? ⟨n2, 2, none⟩ = some (.string ⟨s'.toArray⟩) ∧ w'.cell? ⟨n2, 3, none⟩ = some (.slice A' ln' lc') ∧ w'.cell? ⟨n2, 4, none⟩ = some (.slice B' tn' tc') ∧ w'.cell? ⟨wx36.heap.size, 2, none⟩ = some (.string ⟨(serL serI (l'.take 20)).toArray⟩) ∧ wx37.grownBy w' none)) (fun w' h => HSx36.out w' (gx37.trans h.2.2.2.2.2.2.2.2.2.2.2)) _ _ _ _ ?_
                have grx37 : wx37.grownBy wx37 none := World.grownBy.refl _ _
                have hSx37 := HSx37.out wx37 (World.grownBy.refl _ _)
                refine wpAnyH_take (i := 56) (oi := _) (v := ?_) rfl (by kernel_rfl) (by kernel_rfl) (by kernel_rfl) (fun _ _ _ h => h) (Or.inl ⟨by rfl, ?_⟩) (by assumption) ?_
                rotate_left 1
                · (intro w hSw; (try dsimp only at hSw); go_simp; first | done | with_reducible rfl)
                try simp only [Act.put]
                refine wpAnyH_take (i := 57) (oi := _) (v := ?_) rfl (by kernel_rfl) (by kernel_rfl) (by kernel_rfl) (fun _ _ _ h => h) (Or.inl ⟨by rfl, ?_⟩) (by assumption) ?_
                rotate_left 1
                · (intro w hSw; (try dsimp only at hSw); go_simp; first | done | with_reducible rfl)
                try simp only [Act.put]
                refine wpAnyH_take (i := 59) (oi := _) (v := ?_) rfl (by kernel_rfl) (by kernel_rfl) (by kernel_rfl) (fun _ _ _ h => h) (Or.inl ⟨by rfl, ?_⟩) (by assumption) ?_
                rotate_left 1
                · (intro w hSw; (try dsimp only at hSw); go_simp; first | done | with_reducible rfl)
                try simp only [Act.put]
                refine wpAnyH_done (by kernel_rfl) ?_ _
                refine NoPanic.normal ?_
                go_wp2_with fail
                go_meet
                case rel => exact ⟨rfl, rfl, gx36.trans gx37⟩
              · go_simp
                first | (refine hK.out _ _ ?_ (fun hHeld => ?_)) | (go_wp2_with fail; refine hK.out _ _ ?_ (fun hHeld => ?_))
                · (try dsimp only); (go_split_ands; (first | (exact HS0.out _ (by assumption)) | (exact HS0.out _ (grown_dr (by assumption))) | (exact HS0.out _ (grown_al (by assumption))) | (exact HS0.out _ (grown_dr (grown_al (by assumption))))))
                clear hK K
                have hx38 : (w35'.alloc (.cells #[.string ⟨(serI n').toArray⟩, .string ⟨(serT (s'.take 100)).toArray⟩, .string ⟨(serL serI (l'.take 20)).toArray⟩, .string ⟨(serL serT (cutL t')).toArray⟩] 9)).cell? ⟨w35'.heap.size, 2, none⟩ = some (.string ⟨(serL serI (l'.take 20)).toArray⟩) := by simp
                have gx38 : w0.grownBy (w35'.alloc (.cells #[.string ⟨(serI n').toArray⟩, .string ⟨(serT (s'.take 100)).toArray⟩, .string ⟨(serL serI (l'.take 20)).toArray⟩, .string ⟨(serL serT (cutL t')).toArray⟩] 9)) none := grown_al (by assumption)
                obtain ⟨wx38, hwx38⟩ : ∃ wx, w35'.alloc (.cells #[.string ⟨(serI n').toArray⟩, .string ⟨(serT (s'.take 100)).toArray⟩, .string ⟨(serL serI (l'.take 20)).toArray⟩, .string ⟨(serL serT (cutL t')).toArray⟩] 9) = wx := ⟨_, rfl⟩
                rw [hwx38] at hx38 gx38
                rw [hwx38]
                have lx38 := World.block_lt_of_cell? _ _ hx38
                clear hwx38
                have HBx38 := Lib.hid (fun w' (g : wx38.grownBy w' none) => HB0.out w' (gx38.trans g))
                have HVx38 := Lib.hid (fun w' (g : wx38.grownBy w' none) => HV0.out w' (gx38.trans g))
                have HUx38 := Lib.hid (fun w' (g : wx38.grownBy w' none) => HU0.out w' (gx38.trans g))
                have HSx38 : Hid (∀ w', wx38.grownBy w' none → w'.cell? ⟨n1, 0, none⟩ = some (.int .u8 (kd : Int)) ∧ w'.cell? ⟨n1, 1, none⟩ = some (.int .i64 n) ∧ w'.cell? ⟨n1, 2, none⟩ = some (.string ⟨s.toArray⟩) ∧ w'.cell? ⟨n1, 3, none⟩ = some (.slice A ln lc) ∧ w'.cell? ⟨n1, 4, none⟩ = some (.slice B tn tc) ∧ w'.cell? ⟨n2, 0, none⟩ = some (.int .u8 (kd' : Int)) ∧ w'.cell? ⟨n2, 1, none⟩ = some (.int .i64 n') ∧ w'.cell? ⟨n2, 2, none⟩ = some (.string ⟨s'.toArray⟩) ∧ w'.cell? ⟨n2, 3, none⟩ = some (.slice A' ln' lc') ∧ w'.cell? ⟨n2, 4, none⟩ = some (.slice B' tn' tc') ∧ w'.cell? ⟨w35'.heap.size, 2, none⟩ = some (.string ⟨(serL serI (l'.take 20)).toArray⟩) ∧ wx38.grownBy w' none) := Lib.hid (fun w' g => by
                  obtain ⟨y0, y1, y2, y3, y4, y5, y6, y7, y8, y9, yg⟩ := HS0.out w' (gx38.trans g)
                  exact ⟨y0, y1, y2, y3, y4, y5, y6, y7, y8, y9, ((below_of_grown g).cell (p := ⟨w35'.heap.size, 2, none⟩) lx38).trans hx38, g⟩)
                refine wpAnyH_mono (S' := (fun w' => w'.cell? ⟨n1, 0, none⟩ = some (.int .u8 (kd : Int)) ∧ w'.cell? ⟨n1, 1, none⟩ = some (.int .i64 n) ∧ w'.cell? ⟨n1, 2, none⟩ = some (.string ⟨s.toArray⟩) ∧ w'.cell? ⟨n1, 3, none⟩ = some (.slice A ln lc) ∧ w'.cell? ⟨n1, 4, none⟩ = some (.slice B tn tc) ∧ w'.cell? ⟨n2, 0, none⟩ = some (.int .u8 (kd' : Int)) ∧ w'.cell? ⟨n2, 1, none⟩ = some (.int .i64 n') ∧ w'.cell? ⟨n2, 2, none⟩ = some (.string ⟨s'.toArray⟩) ∧ w'.cell? ⟨n2, 3, none⟩ = some (.slice A' ln' lc') ∧ w'.cell? ⟨n2, 4, none⟩ = some (.slice B' tn' tc') ∧ w'.cell? ⟨w35'.heap.size, 2, none⟩ = some (.string ⟨(serL serI (l'.take 20)).toArray⟩) ∧ wx38.grownBy w' none)) (fun w' h => HS0.out w' (gx38.trans h.2.2.2.2.2.2.2.2.2.2.2)) _ _ _ _ ?_
                have grx38 : wx38.grownBy wx38 none := World.grownBy.refl _ _
                have hSx38 := HSx38.out wx38 (World.grownBy.refl _ _)
                refine wpAnyH_take (i := 56) (oi := _) (v := ?_) rfl (by kernel_rfl) (by kernel_rfl) (by kernel_rfl) (fun _ _ _ h => h) (Or.inl ⟨by rfl, ?_⟩) (by assumption) ?_
                rotate_left 1
                · (intro w hSw; (try dsimp only at hSw); go_simp; first | done | with_reducible rfl)
                try simp only [Act.put]
                refine wpAnyH_take (i := 57) (oi := _) (v := ?_) rfl (by kernel_rfl) (by kernel_rfl) (by kernel_rfl) (fun _ _ _ h => h) (Or.inl ⟨by rfl, ?_⟩) (by assumption) ?_
                rotate_left 1
                · (intro w hSw; (try dsimp only at hSw); go_simp; first | done | with_reducible rfl)
                try simp only [Act.put]
                refine wpAnyH_ready (rs := [23]) (by kernel_rfl) (by simp) ?_
                refine AllReadyH.cons (o := _) rfl (fun K hK => ?_) AllReadyH.nil
                go_simp
                first | (refine hK.out _ _ ?_ (fun hHeld => ?_)) | (go_wp2_with fail; refine hK.out _ _ ?_ (fun hHeld => ?_))
                · (try dsimp only); (go_split_ands; (first | (exact HSx38.out _ (by assumption)) | (exact HSx38.out _ (grown_dr (by assumption))) | (exact HSx38.out _ (grown_al (by assumption))) | (exact HSx38.out _ (grown_dr (grown_al (by assumption))))))
                clear hK K
                have hx39 : (wx38.alloc (.cells #[.string ⟨(serI n).toArray⟩, .string ⟨(serT (s.take 100)).toArray⟩, .string ⟨(serL serI (l.take 20)).toArray⟩, .string ⟨(serL serT (cutL t)).toArray⟩] 9)).cell? ⟨wx38.heap.size, 2, none⟩ = some (.string ⟨(serL serI (l.take 20)).toArray⟩) := by simp
                have gx39 : wx38.grownBy (wx38.alloc (.cells #[.string ⟨(serI n).toArray⟩, .string ⟨(serT (s.take 100)).toArray⟩, .string ⟨(serL serI (l.take 20)).toArray⟩, .string ⟨(serL serT (cutL t)).toArray⟩] 9)) none := grown_al (by assumption)
                obtain ⟨wx39, hwx39⟩ : ∃ wx, wx38.alloc (.cells #[.string ⟨(serI n).toArray⟩, .string ⟨(serT (s.take 100)).toArray⟩, .string ⟨(serL serI (l.take 20)).toArray⟩, .string ⟨(serL serT (cutL t)).toArray⟩] 9) = wx := ⟨_, rfl⟩
                rw [hwx39] at hx39 gx39
                rw [hwx39]
                have lx39 := World.block_lt_of_cell? _ _ hx39
                clear hwx39
                have HBx39 := Lib.hid (fun w' (g : wx39.grownBy w' none) => HBx38.out w' (gx39.trans g))
                have HVx39 := Lib.hid (fun w' (g : wx39.grownBy w' none) => HVx38.out w' (gx39.trans g))
                have HUx39 := Lib.hid (fun w' (g : wx39.grownBy w' none) => HUx38.out w' (gx39.trans g))
                have HSx39 : Hid (∀ w', wx39.grownBy w' none → w'.cell? ⟨n1, 0, none⟩ = some (.int .u8 (kd : Int)) ∧ w'.cell? ⟨n1, 1, none⟩ = some (.int .i64 n) ∧ w'.cell? ⟨n1, 2, none⟩ = some (.string ⟨s.toArray⟩) ∧ w'.cell? ⟨n1, 3, none⟩ = some (.slice A ln lc) ∧ w'.cell? ⟨n1, 4, none⟩ = some (.slice B tn tc) ∧ w'.cell? ⟨n2, 0, none⟩ = some (.int .u8 (kd' : Int)) ∧ w'.cell? ⟨n2, 1, none⟩ = some (.int .i64 n') ∧ w'.cell? ⟨n2, 2, none⟩ = some (.string ⟨s'.toArray⟩) ∧ w'.cell? ⟨n2, 3, none⟩ = some (.slice A' ln' lc') ∧ w'.cell? ⟨n2, 4, none⟩ = some (.slice B' tn' tc') ∧ w'.cell? ⟨wx38.heap.size, 2, none⟩ = some (.string ⟨(serL serI (l.take 20)).toArray⟩) ∧ wx39.grownBy w' none) := Lib.hid (fun w' g => by
                  obtain ⟨y0, y1, y2, y3, y4, y5, y6, y7, y8, y9, yc, yg⟩ := HSx38.out w' (gx39.trans g)
                  exact ⟨y0, y1, y2, y3, y4, y5, y6, y7, y8, y9, ((below_of_grown g).cell (p := ⟨wx38.heap.size, 2, none⟩) lx39).trans hx39, g⟩)
                refine wpAnyH_mono (S' := (fun w' => w'.cell? ⟨n1, 0, none⟩ = some (.int .u8 (kd : Int)) ∧ w'.cell? ⟨n1, 1, none⟩ = some (.int .i64 n) ∧ w'.cell? ⟨n1, 2, none⟩ = some (.string ⟨s.toArray⟩) ∧ w'.cell? ⟨n1, 3, none⟩ = some (.slice A ln lc) ∧ w'.cell? ⟨n1, 4, none⟩ = some (.slice B tn tc) ∧ w'.cell? ⟨n2, 0, none⟩ = some (.int .u8 (kd' : Int)) ∧ w'.cell? ⟨n2, 1, none⟩ = some (.int .i64 n') ∧ w'.cell? ⟨n2, 2, none⟩ = some (.string ⟨s'.toArray⟩) ∧ w'.cell? ⟨n2, 3, none⟩ = some (.slice A' ln' lc') ∧ w'.cell? ⟨n2, 4, none⟩ = some (.slice B' tn' tc') ∧ w'.cell? ⟨wx38.heap.size, 2, none⟩ = some (.string ⟨(serL serI (l.take 20)).toArray⟩) ∧ wx39.grownBy w' none)) (fun w' h => HSx38.out w' (gx39.trans h.2.2.2.2.2.2.2.2.2.2.2)) _ _ _ _ ?_
                have grx39 : wx39.grownBy wx39 none := World.grownBy.refl _ _
                have hSx39 := HSx39.out wx39 (World.grownBy.refl _ _)
                refine wpAnyH_take (i := 27) (oi := _) (v := ?_) rfl (by kernel_rfl) (by kernel_rfl) (by kernel_rfl) (fun _ _ _ h => h) (Or.inl ⟨by rfl, ?_⟩) (by assumption) ?_
                rotate_left 1
                · (intro w hSw; (try dsimp only at hSw); go_simp; first | done | with_reducible rfl)
                try simp only [Act.put]
                refine wpAnyH_take (i := 28) (oi := _) (v := ?_) rfl (by kernel_rfl) (by kernel_rfl) (by kernel_rfl) (fun _ _ _ h => h) (Or.inl ⟨by rfl, ?_⟩) (by assumption) ?_
                rotate_left 1
                · (intro w hSw; (try dsimp only at hSw); go_simp; first | done | with_reducible rfl)
                try simp only [Act.put]
                refine wpAnyH_take (i := 58) (oi := _) (v := ?_) rfl (by kernel_rfl) (by kernel_rfl) (by kernel_rfl) (fun _ _ _ h => h) (Or.inl ⟨by rfl, ?_⟩) (by assumption) ?_
                rotate_left 1
                · (intro w hSw; (try dsimp only at hSw); go_simp; first | done | with_reducible rfl)
                try simp only [Act.put]
                refine wpAnyH_take (i := 59) (oi := _) (v := ?_) rfl (by kernel_rfl) (by kernel_rfl) (by kernel_rfl) (fun _ _ _ h => h) (Or.inl ⟨by rfl, ?_⟩) (by assumption) ?_
                rotate_left 1
                · (intro w hSw; (try dsimp only at hSw); go_simp; first | done | with_reducible rfl)
                try simp only [Act.put]
                refine wpAnyH_done (by kernel_rfl) ?_ _
                refine NoPanic.normal ?_
                go_wp2_with fail
                go_meet
                case rel => exact ⟨rfl, rfl, gx38.trans gx39⟩
  case rest =>
    obtain ⟨rfl, rfl, hg⟩ := hcut
    obtain ⟨d0, d1, d2, d3, d4, u0, u1, u2, u3, u4, _⟩ := HS0.out wc hg
    have hP := pre_ints (x := l.take 20) (y := l'.take 20) (fun x hx => Hhv.out.li x (List.mem_of_mem_take hx)) (fun x hx => Hhu.out.li x (List.mem_of_mem_take hx))
    have hX : (serL serI (l.take 20)).length ≤ 10000 := by
      have := Val.ser_len Hhv.out; unfold Val.ser at this; simp only [show kd % 4 = 2 from Hk4.out] at this; exact this
    have hY : (serL serI (l'.take 20)).length ≤ 10000 := by
      have := Val.ser_len (v := ⟨kd, n', s', A', ln', lc', l', B', tn', tc', t'⟩) (w := w) { Hhu.out with k := Hhv.out.k }; unfold Val.ser at this; simp only [show kd % 4 = 2 from Hk4.out] at this; exact this
    have HG := Lib.hid ((gw0.out).trans hg)
    have hP1 := hP.1
    have hP2 := hP.2
    generalize hgX : serL serI (l.take 20) = X at hP1 hP2 hX ⊢
    generalize hgY : serL serI (l'.take 20) = Y at hP1 hP2 hY ⊢
    clear hgX hgY hP
    by_cases hEq : l.take 20 = l'.take 20
    · have b1 : (X == Y) = true := by simpa using hP1.2 hEq
      have b2 : (List.take (min (X.length : Int) (Y.length : Int)).toNat X == List.take (min (X.length : Int) (Y.length : Int)).toNat Y) = true := by
        have e : (min (X.length : Int) (Y.length : Int)).toNat = min X.length Y.length := by omega
        rw [e]
        simpa using hP2.2 hEq
      have m1 : (0 : Int) ≤ min (X.length : Int) (Y.length : Int) := by omega
      have m2 : min (X.length : Int) (Y.length : Int) ≤ (X.length : Int) := by omega
      have m3 : min (X.length : Int) (Y.length : Int) ≤ (Y.length : Int) := by omega
      have b3 : decide (l.take 20 = l'.take 20) = true := by simpa using hEq
      have HE := Lib.hid hEq
      clear hEq hP1 hP2
      have HC := Lib.hid (fun w' (g : w0.grownBy w' none) => same_ints ⟨kd, n, s, A, ln, lc, l, B, tn, tc, t⟩ ⟨kd', n', s', A', ln', lc', l', B', tn', tc', t'⟩ w' (HV0.out w' g) (HU0.out w' g))
      simp only [b3] at HC
      clear b3
      go_wp2_with fail
      refine wp_region_noPanic ?_
      refine wp_region_held_drew (S := (fun w' => w'.cell? ⟨n1, 0, none⟩ = some (.int .u8 (kd : Int)) ∧ w'.cell? ⟨n1, 1, none⟩ = some (.int .i64 n) ∧ w'.cell? ⟨n1, 2, none⟩ = some (.string ⟨s.toArray⟩) ∧ w'.cell? ⟨n1, 3, none⟩ = some (.slice A ln lc) ∧ w'.cell? ⟨n1, 4, none⟩ = some (.slice B tn tc) ∧ w'.cell? ⟨n2, 0, none⟩ = some (.int .u8 (kd' : Int)) ∧ w'.cell? ⟨n2, 1, none⟩ = some (.int .i64 n') ∧ w'.cell? ⟨n2, 2, none⟩ = some (.string ⟨s'.toArray⟩) ∧ w'.cell? ⟨n2, 3, none⟩ = some (.slice A' ln' lc') ∧ w'.cell? ⟨n2, 4, none⟩ = some (.slice B' tn' tc') ∧ w0.grownBy w' none)) (by kernel_rfl) ?_ (fun hHeld => ?_)
      · (try dsimp only); (go_split_ands; (first | (exact HS0.out _ (by assumption)) | (exact HS0.out _ (grown_dr (by assumption))) | (exact HS0.out _ (grown_al (by assumption))) | (exact HS0.out _ (grown_dr (grown_al (by assumption))))))
      refine wpAnyH_take (i := 0) (oi := _) (v := ?_) rfl (by kernel_rfl) (by kernel_rfl) (by kernel_rfl) (fun _ _ _ h => h) (Or.inl ⟨by rfl, ?_⟩) (by assumption) ?_
      rotate_left 1
      · (intro w hSw; (try dsimp only at hSw); go_simp; first | done | with_reducible rfl)
      try simp only [Act.put]
      refine wpAnyH_take (i := 1) (oi := _) (v := ?_) rfl (by kernel_rfl) (by kernel_rfl) (by kernel_rfl) (fun _ _ _ h => h) (Or.inl ⟨by rfl, ?_⟩) (by assumption) ?_
      rotate_left 1
      · (intro w hSw; (try dsimp only at hSw); go_simp; first | done | with_reducible rfl)
      try simp only [Act.put]
      refine wpAnyH_take (i := 2) (oi := _) (v := ?_) rfl (by kernel_rfl) (by kernel_rfl) (by kernel_rfl) (fun _ _ _ h => h) (Or.inl ⟨by rfl, ?_⟩) (by assumption) ?_
      rotate_left 1
      · (intro w hSw; (try dsimp only at hSw); go_simp; first | done | with_reducible rfl)
      try simp only [Act.put]
      refine wpAnyH_take (i := 3) (oi := _) (v := ?_) rfl (by kernel_rfl) (by kernel_rfl) (by kernel_rfl) (fun _ _ _ h => h) (Or.inl ⟨by rfl, ?_⟩) (by assumption) ?_
      rotate_left 1
      · (intro w hSw; (try dsimp only at hSw); go_simp; first | done | with_reducible rfl)
      try simp only [Act.put]
      refine wpAnyH_take (i := 4) (oi := _) (v := ?_) rfl (by kernel_rfl) (by kernel_rfl) (by kernel_rfl) (fun _ _ _ h => h) (Or.inl ⟨by rfl, ?_⟩) (by assumption) ?_
      rotate_left 1
      · (intro w hSw; (try dsimp only at hSw); go_simp; first | done | with_reducible rfl)
      try simp only [Act.put]
      refine wpAnyH_take (i := 5) (oi := _) (v := ?_) rfl (by kernel_rfl) (by kernel_rfl) (by kernel_rfl) (fun _ _ _ h => h) (Or.inl ⟨by rfl, ?_⟩) (by assumption) ?_
      rotate_left 1
      · (intro w hSw; (try dsimp only at hSw); go_simp; first | done | with_reducible rfl)
      try simp only [Act.put]
      refine wpAnyH_take (i := 6) (oi := _) (v := ?_) rfl (by kernel_rfl) (by kernel_rfl) (by kernel_rfl) (fun _ _ _ h => h) (Or.inl ⟨by rfl, ?_⟩) (by assumption) ?_
      rotate_left 1
      · (intro w hSw; (try dsimp only at hSw); go_simp; first | done | with_reducible rfl)
      try simp only [Act.put]
      refine wpAnyH_take (i := 7) (oi := _) (v := ?_) rfl (by kernel_rfl) (by kernel_rfl) (by kernel_rfl) (fun _ _ _ h => h) (Or.inl ⟨by rfl, ?_⟩) (by assumption) ?_
      rotate_left 1
      · (intro w hSw; (try dsimp only at hSw); go_simp; first | done | with_reducible rfl)
      try simp only [Act.put]
      refine wpAnyH_take (i := 8) (oi := _) (v := ?_) rfl (by kernel_rfl) (by kernel_rfl) (by kernel_rfl) (fun _ _ _ h => h) (Or.inl ⟨by rfl, ?_⟩) (by assumption) ?_
      rotate_left 1
      · (intro w hSw; (try dsimp only at hSw); go_simp; first | done | with_reducible rfl)
      try simp only [Act.put]
      refine wpAnyH_take (i := 9) (oi := _) (v := ?_) rfl (by kernel_rfl) (by kernel_rfl) (by kernel_rfl) (fun _ _ _ h => h) (Or.inl ⟨by rfl, ?_⟩) (by assumption) ?_
      rotate_left 1
      · (intro w hSw; (try dsimp only at hSw); go_simp; first | done | with_reducible rfl)
      try simp only [Act.put]
      refine wpAnyH_take (i := 10) (oi := _) (v := ?_) rfl (by kernel_rfl) (by kernel_rfl) (by kernel_rfl) (fun _ _ _ h => h) (Or.inl ⟨by rfl, ?_⟩) (by assumption) ?_
      rotate_left 1
      · (intro w hSw; (try dsimp only at hSw); go_simp; first | done | with_reducible rfl)
      try simp only [Act.put]
      refine wpAnyH_take (i := 11) (oi := _) (v := ?_) rfl (by kernel_rfl) (by kernel_rfl) (by kernel_rfl) (fun _ _ _ h => h) (Or.inl ⟨by rfl, ?_⟩) (by assumption) ?_
      rotate_left 1
      · (intro w hSw; (try dsimp only at hSw); go_simp; first | done | with_reducible rfl)
      try simp only [Act.put]
      refine wpAnyH_take (i := 12) (oi := _) (v := ?_) rfl (by kernel_rfl) (by kernel_rfl) (by kernel_rfl) (fun _ _ _ h => h) (Or.inl ⟨by rfl, ?_⟩) (by assumption) ?_
      rotate_left 1
      · (intro w hSw; (try dsimp only at hSw); go_simp; first | done | with_reducible rfl)
      try simp only [Act.put]
      refine wpAnyH_take (i := 13) (oi := _) (v := ?_) rfl (by kernel_rfl) (by kernel_rfl) (by kernel_rfl) (fun _ _ _ h => h) (Or.inl ⟨by rfl, ?_⟩) (by assumption) ?_
      rotate_left 1
      · (intro w hSw; (try dsimp only at hSw); go_simp; first | done | with_reducible rfl)
      try simp only [Act.put]
      refine wpAnyH_ready (rs := [14]) (by kernel_rfl) (by simp) ?_
      refine AllReadyH.cons (o := _) rfl (fun K hK => ?_) AllReadyH.nil
      go_simp
      go_split_ands
      refine (HC.out _ (by assumption)).mono ?_
      rintro e w2' ⟨rfl, g2⟩
      have gg2 := World.grownBy.trans (a := w0) (by assumption) g2
      first | (refine hK.out _ _ ?_ (fun hHeld => ?_)) | (go_wp2_with fail; refine hK.out _ _ ?_ (fun hHeld => ?_))
      · (try dsimp only); (go_split_ands; (first | (exact HS0.out _ (by assumption)) | (exact HS0.out _ (grown_dr (by assumption))) | (exact HS0.out _ (grown_al (by assumption))) | (exact HS0.out _ (grown_dr (grown_al (by assumption))))))
      clear hK K
      refine wpAnyH_take (i := 15) (oi := _) (v := ?_) rfl (by kernel_rfl) (by kernel_rfl) (by kernel_rfl) (fun _ _ _ h => h) (Or.inl ⟨by rfl, ?_⟩) (by assumption) ?_
      rotate_left 1
      · (intro w hSw; (try dsimp only at hSw); go_simp; first | done | with_reducible rfl)
      try simp only [Act.put]
      refine wpAnyH_done (by kernel_rfl) ?_ _
      refine NoPanic.normal ?_
      go_wp2_with fail
      go_quiet (fail)
      go_wp2_with fail
      go_ret
      exact ⟨rfl, by first | exact HG.out.trans (grown_drewN _ _ none) | exact (HG.out.trans (grown_drewN _ _ none)).trans (grown_drewN _ _ none) | exact (gw0.out.trans gg2).trans (grown_drewN _ _ none) | exact (gw0.out.trans gg4).trans (grown_drewN _ _ none)⟩
    · have b1 : (X == Y) = false := by simpa using fun h => hEq (hP1.1 h)
      have b2 : (List.take (min (X.length : Int) (Y.length : Int)).toNat X == List.take (min (X.length : Int) (Y.length : Int)).toNat Y) = false := by
        have e : (min (X.length : Int) (Y.length : Int)).toNat = min X.length Y.length := by omega
        rw [e]
        simpa using fun h => hEq (hP2.1 h)
      have m1 : (0 : Int) ≤ min (X.length : Int) (Y.length : Int) := by omega
      have m2 : min (X.length : Int) (Y.length : Int) ≤ (X.length : Int) := by omega
      have m3 : min (X.length : Int) (Y.length : Int) ≤ (Y.length : Int) := by omega
      have b3 : decide (l.take 20 = l'.take 20) = false := by simpa using hEq
      have HE := Lib.hid hEq
      clear hEq hP1 hP2
      have HC := Lib.hid (fun w' (g : w0.grownBy w' none) => same_ints ⟨kd, n, s, A, ln, lc, l, B, tn, tc, t⟩ ⟨kd', n', s', A', ln', lc', l', B', tn', tc', t'⟩ w' (HV0.out w' g) (HU0.out w' g))
      simp only [b3] at HC
      clear b3
      go_wp2_with fail
      refine wp_region_noPanic ?_
      refine wp_region_held_drew (S := (fun w' => w'.cell? ⟨n1, 0, none⟩ = some (.int .u8 (kd : Int)) ∧ w'.cell? ⟨n1, 1, none⟩ = some (.int .i64 n) ∧ w'.cell? ⟨n1, 2, none⟩ = some (.string ⟨s.toArray⟩) ∧ w'.cell? ⟨n1, 3, none⟩ = some (.slice A ln lc) ∧ w'.cell? ⟨n1, 4, none⟩ = some (.slice B tn tc) ∧ w'.cell? ⟨n2, 0, none⟩ = some (.int .u8 (kd' : Int)) ∧ w'.cell? ⟨n2, 1, none⟩ = some (.int .i64 n') ∧ w'.cell? ⟨n2, 2, none⟩ = some (.string ⟨s'.toArray⟩) ∧ w'.cell? ⟨n2, 3, none⟩ = some (.slice A' ln' lc') ∧ w'.cell? ⟨n2, 4, none⟩ = some (.slice B' tn' tc') ∧ w0.grownBy w' none)) (by kernel_rfl) ?_ (fun hHeld => ?_)
      · (try dsimp only); (go_split_ands; (first | (exact HS0.out _ (by assumption)) | (exact HS0.out _ (grown_dr (by assumption))) | (exact HS0.out _ (grown_al (by assumption))) | (exact HS0.out _ (grown_dr (grown_al (by assumption))))))
      refine wpAnyH_take (i := 0) (oi := _) (v := ?_) rfl (by kernel_rfl) (by kernel_rfl) (by kernel_rfl) (fun _ _ _ h => h) (Or.inl ⟨by rfl, ?_⟩) (by assumption) ?_
      rotate_left 1
      · (intro w hSw; (try dsimp only at hSw); go_simp; first | done | with_reducible rfl)
      try simp only [Act.put]
      refine wpAnyH_take (i := 1) (oi := _) (v := ?_) rfl (by kernel_rfl) (by kernel_rfl) (by kernel_rfl) (fun _ _ _ h => h) (Or.inl ⟨by rfl, ?_⟩) (by assumption) ?_
      rotate_left 1
      · (intro w hSw; (try dsimp only at hSw); go_simp; first | done | with_reducible rfl)
      try simp only [Act.put]
      refine wpAnyH_take (i := 2) (oi := _) (v := ?_) rfl (by kernel_rfl) (by kernel_rfl) (by kernel_rfl) (fun _ _ _ h => h) (Or.inl ⟨by rfl, ?_⟩) (by assumption) ?_
      rotate_left 1
      · (intro w hSw; (try dsimp only at hSw); go_simp; first | done | with_reducible rfl)
      try simp only [Act.put]
      refine wpAnyH_take (i := 3) (oi := _) (v := ?_) rfl (by kernel_rfl) (by kernel_rfl) (by kernel_rfl) (fun _ _ _ h => h) (Or.inl ⟨by rfl, ?_⟩) (by assumption) ?_
      rotate_left 1
      · (intro w hSw; (try dsimp only at hSw); go_simp; first | done | with_reducible rfl)
      try simp only [Act.put]
      refine wpAnyH_take (i := 4) (oi := _) (v := ?_) rfl (by kernel_rfl) (by kernel_rfl) (by kernel_rfl) (fun _ _ _ h => h) (Or.inl ⟨by rfl, ?_⟩) (by assumption) ?_
      rotate_left 1
      · (intro w hSw; (try dsimp only at hSw); go_simp; first | done | with_reducible rfl)
      try simp only [Act.put]
      refine wpAnyH_take (i := 5) (oi := _) (v := ?_) rfl (by kernel_rfl) (by kernel_rfl) (by kernel_rfl) (fun _ _ _ h => h) (Or.inl ⟨by rfl, ?_⟩) (by assumption) ?_
      rotate_left 1
      · (intro w hSw; (try dsimp only at hSw); go_simp; first | done | with_reducible rfl)
      try simp only [Act.put]
      refine wpAnyH_take (i := 6) (oi := _) (v := ?_) rfl (by kernel_rfl) (by kernel_rfl) (by kernel_rfl) (fun _ _ _ h => h) (Or.inl ⟨by rfl, ?_⟩) (by assumption) ?_
      rotate_left 1
      · (intro w hSw; (try dsimp only at hSw); go_simp; first | done | with_reducible rfl)
      try simp only [Act.put]
      refine wpAnyH_take (i := 7) (oi := _) (v := ?_) rfl (by kernel_rfl) (by kernel_rfl) (by kernel_rfl) (fun _ _ _ h => h) (Or.inl ⟨by rfl, ?_⟩) (by assumption) ?_
      rotate_left 1
      · (intro w hSw; (try dsimp only at hSw); go_simp; first | done | with_reducible rfl)
      try simp only [Act.put]
      refine wpAnyH_take (i := 8) (oi := _) (v := ?_) rfl (by kernel_rfl) (by kernel_rfl) (by kernel_rfl) (fun _ _ _ h => h) (Or.inl ⟨by rfl, ?_⟩) (by assumption) ?_
      rotate_left 1
      · (intro w hSw; (try dsimp only at hSw); go_simp; first | done | with_reducible rfl)
      try simp only [Act.put]
      refine wpAnyH_take (i := 9) (oi := _) (v := ?_) rfl (by kernel_rfl) (by kernel_rfl) (by kernel_rfl) (fun _ _ _ h => h) (Or.inl ⟨by rfl, ?_⟩) (by assumption) ?_
      rotate_left 1
      · (intro w hSw; (try dsimp only at hSw); go_simp; first | done | with_reducible rfl)
      try simp only [Act.put]
      refine wpAnyH_take (i := 10) (oi := _) (v := ?_) rfl (by kernel_rfl) (by kernel_rfl) (by kernel_rfl) (fun _ _ _ h => h) (Or.inl ⟨by rfl, ?_⟩) (by assumption) ?_
      rotate_left 1
      · (intro w hSw; (try dsimp only at hSw); go_simp; first | done | with_reducible rfl)
      try simp only [Act.put]
      refine wpAnyH_take (i := 11) (oi := _) (v := ?_) rfl (by kernel_rfl) (by kernel_rfl) (by kernel_rfl) (fun _ _ _ h => h) (Or.inl ⟨by rfl, ?_⟩) (by assumption) ?_
      rotate_left 1
      · (intro w hSw; (try dsimp only at hSw); go_simp; first | done | with_reducible rfl)
      try simp only [Act.put]
      refine wpAnyH_take (i := 12) (oi := _) (v := ?_) rfl (by kernel_rfl) (by kernel_rfl) (by kernel_rfl) (fun _ _ _ h => h) (Or.inl ⟨by rfl, ?_⟩) (by assumption) ?_
      rotate_left 1
      · (intro w hSw; (try dsimp only at hSw); go_simp; first | done | with_reducible rfl)
      try simp only [Act.put]
      refine wpAnyH_take (i := 13) (oi := _) (v := ?_) rfl (by kernel_rfl) (by kernel_rfl) (by kernel_rfl) (fun _ _ _ h => h) (Or.inl ⟨by rfl, ?_⟩) (by assumption) ?_
      rotate_left 1
      · (intro w hSw; (try dsimp only at hSw); go_simp; first | done | with_reducible rfl)
      try simp only [Act.put]
      refine wpAnyH_ready (rs := [14]) (by kernel_rfl) (by simp) ?_
      refine AllReadyH.cons (o := _) rfl (fun K hK => ?_) AllReadyH.nil
      go_simp
      go_split_ands
      refine (HC.out _ (by assumption)).mono ?_
      rintro e w2' ⟨rfl, g2⟩
      have gg2 := World.grownBy.trans (a := w0) (by assumption) g2
      first | (refine hK.out _ _ ?_ (fun hHeld => ?_)) | (go_wp2_with fail; refine hK.out _ _ ?_ (fun hHeld => ?_))
      · (try dsimp only); (go_split_ands; (first | (exact HS0.out _ (by assumption)) | (exact HS0.out _ (grown_dr (by assumption))) | (exact HS0.out _ (grown_al (by assumption))) | (exact HS0.out _ (grown_dr (grown_al (by assumption))))))
      clear hK K
      refine wpAnyH_take (i := 15) (oi := _) (v := ?_) rfl (by kernel_rfl) (by kernel_rfl) (by kernel_rfl) (fun _ _ _ h => h) (Or.inl ⟨by rfl, ?_⟩) (by assumption) ?_
      rotate_left 1
      · (intro w hSw; (try dsimp only at hSw); go_simp; first | done | with_reducible rfl)
      try simp only [Act.put]
      refine wpAnyH_done (by kernel_rfl) ?_ _
      refine NoPanic.normal ?_
      go_wp2_with fail
      go_quiet (fail)
      go_wp2_with fail
      go_ret
      exact ⟨rfl, by first | exact HG.out.trans (grown_drewN _ _ none) | exact (HG.out.trans (grown_drewN _ _ none)).trans (grown_drewN _ _ none) | exact (gw0.out.trans gg2).trans (grown_drewN _ _ none) | exact (gw0.out.trans gg4).trans (grown_drewN _ _ none)⟩
end Go.Proofs.YtmohcanfkcopiaaDoor
