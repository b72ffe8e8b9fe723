/-
  WireTruncated: the walk.
-/
import Derived.Test.YtmohcanfkcopiaaDoorVal
import Derived.Deep.RegionHeld3
namespace Go.Proofs.YtmohcanfkcopiaaDoor
open Go.RowKit
attribute [local go_sem] get_mk extract_mk

set_option maxRecDepth 100000 in
set_option maxHeartbeats 4000000 in
theorem trunc_walk0 (v : Val) (hk4 : v.kd % 4 = 0) (q : Nat) (hq : q ≤ 65535) (w : World) (hb : Base w) (hv : v.ok w) : Calls Tryd.prog 7 #[.agg v.cells, .int .u16 q] w fun e w' => e = .returned (.bool true) ∧ w.grownBy w' none := by
  have hb6 := hb.size
  obtain ⟨kd, n, s, A, ln, lc, l, B, tn, tc, t⟩ := v
  simp only [Val.cells]
  go_enter Tryd.func7, Tryd.ntmps7
  have a0 := World.grownBy_alloc w (.cells #[.int .u8 (kd : Int), .int .i64 n, .string ⟨s.toArray⟩, .slice A ln lc, .slice B tn tc] 45) none
  have Hs := Lib.hid (fun w1 (g : (w.alloc (.cells #[.int .u8 (kd : Int), .int .i64 n, .string ⟨s.toArray⟩, .slice A ln lc, .slice B tn tc] 45)).grownBy w1 none) => sane w1 ((hb.none_ a0).none_ g))
  have hbox : (w.alloc (.cells #[.int .u8 (kd : Int), .int .i64 n, .string ⟨s.toArray⟩, .slice A ln lc, .slice B tn tc] 45)).heap[w.heap.size]? = some (.cells #[.int .u8 (kd : Int), .int .i64 n, .string ⟨s.toArray⟩, .slice A ln lc, .slice B tn tc] 45 (0, 0)) := heap_alloc_new w _
  have lt1 : w.heap.size < (w.alloc (.cells #[.int .u8 (kd : Int), .int .i64 n, .string ⟨s.toArray⟩, .slice A ln lc, .slice B tn tc] 45)).heap.size := by simp
  go_wp2_with fail
  refine (Hs.out _ (World.grownBy.refl _ _)).mono ?_
  rintro e w0 ⟨rfl, g1⟩
  clear Hs
  have hbw := hb.none_ (a0.trans g1)
  have hvw := hv.kept (a0.trans g1)
  have gw0 := Lib.hid (a0.trans g1)
  have hbox := (g1.block _ lt1 (by simp)).trans hbox
  have lt1 := Nat.lt_of_lt_of_le lt1 g1.size
  clear g1 a0
  generalize hn1 : w.heap.size = n1 at *
  have HB : Hid (∀ w', w0.grownBy w' none → Base w') := Lib.hid (fun w' g => hbw.none_ g)
  have HV : Hid (∀ w', w0.grownBy w' none → Val.ok ⟨kd, n, s, A, ln, lc, l, B, tn, tc, t⟩ w') := Lib.hid (fun w' g => hvw.kept g)
  have HS : Hid (∀ w', w0.grownBy w' none → w'.cell? ⟨n1, 0, none⟩ = some (.int .u8 (kd : Int)) ∧ w'.cell? ⟨n1, 1, none⟩ = some (.int .i64 n) ∧ w'.cell? ⟨n1, 2, none⟩ = some (.string ⟨s.toArray⟩) ∧
      w'.cell? ⟨n1, 3, none⟩ = some (.slice A ln lc) ∧ w'.cell? ⟨n1, 4, none⟩ = some (.slice B tn tc) ∧ w0.grownBy w' none) := by
    refine Lib.hid (fun w' g => ?_)
    have hblk := (g.block n1 lt1 (by simp)).trans hbox
    refine ⟨?_, ?_, ?_, ?_, ?_, g⟩ <;> simp [World.cell?, hblk]
  have g1 : w0.grownBy w0 none := World.grownBy.refl _ _
  obtain ⟨d0, d1, d2, d3, d4, _⟩ := HS.out w0 g1
  have Hb0 := Lib.hid hbox
  have e1 : (0 : Int) ≤ min (s.length : Int) 100 := by omega
  have e2 : min (s.length : Int) 100 ≤ (s.length : Int) := by omega
  have e3 : (0 : Int) ≤ min (ln : Int) 20 := by omega
  have e4 : min (ln : Int) 20 ≤ (lc : Int) := by have := hv.lle; simp only at this; omega
  have hk : (kd : Int).tmod 4 = 0 := by
    rw [Int.tmod_eq_emod_of_nonneg (by omega)]
    have : kd % 4 = 0 := hk4
    omega
  have hk' : (kd : Int) % 4 = 0 := by
    have : kd % 4 = 0 := hk4
    omega
  have Hk4 := Lib.hid hk4
  clear hk4
  have e5 : (0 : Int) ≤ (kd : Int) % 4 := by omega
  have e6 : (kd : Int) % 4 < 4 := by omega
  have e7 : (kd : Int) ≤ 255 := by have := hv.k; simp only at this; omega
  have e8 : s.length ≤ 9223372036854775807 := hv.sl
  have e9 : ln ≤ lc := hv.lle
  have e10 : lc ≤ 9223372036854775807 := hv.lcm
  have Hq := Lib.hid hq
  have Hhv := Lib.hid hv
  have Hb6 := Lib.hid hb6
  have Hn1 := Lib.hid hn1
  clear hbox hbw hvw hb hq hv hb6 hn1
  go_wp2_with fail
  refine wp_region_noPanic ?_
  refine wp_region_held_drew (S := (fun w' => w'.cell? ⟨n1, 0, none⟩ = some (.int .u8 (kd : Int)) ∧ w'.cell? ⟨n1, 1, none⟩ = some (.int .i64 n) ∧ w'.cell? ⟨n1, 2, none⟩ = some (.string ⟨s.toArray⟩) ∧
        w'.cell? ⟨n1, 3, none⟩ = some (.slice A ln lc) ∧ w'.cell? ⟨n1, 4, none⟩ = some (.slice B tn tc) ∧ w0.grownBy w' none)) (by kernel_rfl) ?_ (fun hHeld => ?_)
  · (try dsimp only); (go_split_ands; (first | (exact HS.out _ (by assumption)) | (exact HS.out _ (grown_dr (by assumption))) | (exact HS.out _ (grown_al (by assumption))) | (exact HS.out _ (grown_dr (grown_al (by assumption))))))
  refine wpAnyH_take (i := 0) (oi := _) (v := ?_) rfl (by kernel_rfl) (by kernel_rfl) (by kernel_rfl) (fun _ _ _ h => h) (Or.inl ⟨by rfl, ?_⟩) (by assumption) ?_
  rotate_left 1
  · (intro w hSw; (try dsimp only at hSw); go_simp; first | done | with_reducible rfl)
  try simp only [Act.put]
  refine wpAnyH_take (i := 1) (oi := _) (v := ?_) rfl (by kernel_rfl) (by kernel_rfl) (by kernel_rfl) (fun _ _ _ h => h) (Or.inl ⟨by rfl, ?_⟩) (by assumption) ?_
  rotate_left 1
  · (intro w hSw; (try dsimp only at hSw); go_simp; first | done | with_reducible rfl)
  try simp only [Act.put]
  refine wpAnyH_take (i := 3) (oi := _) (v := ?_) rfl (by kernel_rfl) (by kernel_rfl) (by kernel_rfl) (fun _ _ _ h => h) (Or.inl ⟨by rfl, ?_⟩) (by assumption) ?_
  rotate_left 1
  · (intro w hSw; (try dsimp only at hSw); go_simp; first | done | with_reducible rfl)
  try simp only [Act.put]
  refine wpAnyH_take (i := 4) (oi := _) (v := ?_) rfl (by kernel_rfl) (by kernel_rfl) (by kernel_rfl) (fun _ _ _ h => h) (Or.inl ⟨by rfl, ?_⟩) (by assumption) ?_
  rotate_left 1
  · (intro w hSw; (try dsimp only at hSw); go_simp; first | done | with_reducible rfl)
  try simp only [Act.put]
  refine wpAnyH_take (i := 5) (oi := _) (v := ?_) rfl (by kernel_rfl) (by kernel_rfl) (by kernel_rfl) (fun _ _ _ h => h) (Or.inl ⟨by rfl, ?_⟩) (by assumption) ?_
  rotate_left 1
  · (intro w hSw; (try dsimp only at hSw); go_simp; first | done | with_reducible rfl)
  try simp only [Act.put]
  refine wpAnyH_take (i := 6) (oi := _) (v := ?_) rfl (by kernel_rfl) (by kernel_rfl) (by kernel_rfl) (fun _ _ _ h => h) (Or.inl ⟨by rfl, ?_⟩) (by assumption) ?_
  rotate_left 1
  · (intro w hSw; (try dsimp only at hSw); go_simp; first | done | with_reducible rfl)
  try simp only [Act.put]
  refine wpAnyH_take (i := 7) (oi := _) (v := ?_) rfl (by kernel_rfl) (by kernel_rfl) (by kernel_rfl) (fun _ _ _ h => h) (Or.inl ⟨by rfl, ?_⟩) (by assumption) ?_
  rotate_left 1
  · (intro w hSw; (try dsimp only at hSw); go_simp; first | done | with_reducible rfl)
  try simp only [Act.put]
  refine wpAnyH_take (i := 8) (oi := _) (v := ?_) rfl (by kernel_rfl) (by kernel_rfl) (by kernel_rfl) (fun _ _ _ h => h) (Or.inl ⟨by rfl, ?_⟩) (by assumption) ?_
  rotate_left 1
  · (intro w hSw; (try dsimp only at hSw); go_simp; first | done | with_reducible rfl)
  try simp only [Act.put]
  refine wpAnyH_take (i := 9) (oi := _) (v := ?_) rfl (by kernel_rfl) (by kernel_rfl) (by kernel_rfl) (fun _ _ _ h => h) (Or.inl ⟨by rfl, ?_⟩) (by assumption) ?_
  rotate_left 1
  · (intro w hSw; (try dsimp only at hSw); go_simp; first | done | with_reducible rfl)
  try simp only [Act.put]
  refine wpAnyH_take (i := 11) (oi := _) (v := ?_) rfl (by kernel_rfl) (by kernel_rfl) (by kernel_rfl) (fun _ _ _ h => h) (Or.inl ⟨by rfl, ?_⟩) (by assumption) ?_
  rotate_left 1
  · (intro w hSw; (try dsimp only at hSw); go_simp; first | done | with_reducible rfl)
  try simp only [Act.put]
  refine wpAnyH_take (i := 12) (oi := _) (v := ?_) rfl (by kernel_rfl) (by kernel_rfl) (by kernel_rfl) (fun _ _ _ h => h) (Or.inl ⟨by rfl, ?_⟩) (by assumption) ?_
  rotate_left 1
  · (intro w hSw; (try dsimp only at hSw); go_simp; first | done | with_reducible rfl)
  try simp only [Act.put]
  refine wpAnyH_take (i := 13) (oi := _) (v := ?_) rfl (by kernel_rfl) (by kernel_rfl) (by kernel_rfl) (fun _ _ _ h => h) (Or.inl ⟨by rfl, ?_⟩) (by assumption) ?_
  rotate_left 1
  · (intro w hSw; (try dsimp only at hSw); go_simp; first | done | with_reducible rfl)
  try simp only [Act.put]
  refine wpAnyH_take (i := 14) (oi := _) (v := ?_) rfl (by kernel_rfl) (by kernel_rfl) (by kernel_rfl) (fun _ _ _ h => h) (Or.inl ⟨by rfl, ?_⟩) (by assumption) ?_
  rotate_left 1
  · (intro w hSw; (try dsimp only at hSw); go_simp; first | done | with_reducible rfl)
  try simp only [Act.put]
  refine wpAnyH_take (i := 15) (oi := _) (v := ?_) rfl (by kernel_rfl) (by kernel_rfl) (by kernel_rfl) (fun _ _ _ h => h) (Or.inl ⟨by rfl, ?_⟩) (by assumption) ?_
  rotate_left 1
  · (intro w hSw; (try dsimp only at hSw); go_simp; first | done | with_reducible rfl)
  try simp only [Act.put]
  refine wpAnyH_take (i := 16) (oi := _) (v := ?_) rfl (by kernel_rfl) (by kernel_rfl) (by kernel_rfl) (fun _ _ _ h => h) (Or.inl ⟨by rfl, ?_⟩) (by assumption) ?_
  rotate_left 1
  · (intro w hSw; (try dsimp only at hSw); go_simp; first | done | with_reducible rfl)
  try simp only [Act.put]
  refine wpAnyH_take (i := 17) (oi := _) (v := ?_) rfl (by kernel_rfl) (by kernel_rfl) (by kernel_rfl) (fun _ _ _ h => h) (Or.inl ⟨by rfl, ?_⟩) (by assumption) ?_
  rotate_left 1
  · (intro w hSw; (try dsimp only at hSw); go_simp; first | done | with_reducible rfl)
  try simp only [Act.put]
  refine wpAnyH_take (i := 19) (oi := _) (v := ?_) rfl (by kernel_rfl) (by kernel_rfl) (by kernel_rfl) (fun _ _ _ h => h) (Or.inl ⟨by rfl, ?_⟩) (by assumption) ?_
  rotate_left 1
  · (intro w hSw; (try dsimp only at hSw); go_simp; first | done | with_reducible rfl)
  try simp only [Act.put]
  refine wpAnyH_take (i := 20) (oi := _) (v := ?_) rfl (by kernel_rfl) (by kernel_rfl) (by kernel_rfl) (fun _ _ _ h => h) (Or.inl ⟨by rfl, ?_⟩) (by assumption) ?_
  rotate_left 1
  · (intro w hSw; (try dsimp only at hSw); go_simp; first | done | with_reducible rfl)
  try simp only [Act.put]
  refine wpAnyH_take (i := 24) (oi := _) (v := ?_) rfl (by kernel_rfl) (by kernel_rfl) (by kernel_rfl) (fun _ _ _ h => h) (Or.inl ⟨by rfl, ?_⟩) (by assumption) ?_
  rotate_left 1
  · (intro w hSw; (try dsimp only at hSw); go_simp; first | done | with_reducible rfl)
  try simp only [Act.put]
  refine wpAnyH_take (i := 25) (oi := _) (v := ?_) rfl (by kernel_rfl) (by kernel_rfl) (by kernel_rfl) (fun _ _ _ h => h) (Or.inl ⟨by rfl, ?_⟩) (by assumption) ?_
  rotate_left 1
  · (intro w hSw; (try dsimp only at hSw); go_simp; first | done | with_reducible rfl)
  try simp only [Act.put]
  refine wpAnyH_take (i := 26) (oi := _) (v := ?_) rfl (by kernel_rfl) (by kernel_rfl) (by kernel_rfl) (fun _ _ _ h => h) (Or.inl ⟨by rfl, ?_⟩) (by assumption) ?_
  rotate_left 1
  · (intro w hSw; (try dsimp only at hSw); go_simp; first | done | with_reducible rfl)
  try simp only [Act.put]
  refine wpAnyH_ready (rs := [2]) (by kernel_rfl) (by simp) ?_
  refine AllReadyH.cons (o := _) rfl (fun K hK => ?_) AllReadyH.nil
  go_simp
  go_split_ands
  refine (wInt n (HV.out _ g1).i _ (HB.out _ (by assumption))).mono ?_
  rintro e w2 ⟨rfl, g2⟩
  have g02 := World.grownBy.trans (a := w0) (by assumption) g2
  first | (refine hK.out _ _ ?_ (fun hHeld => ?_)) | (go_wp2_with fail; refine hK.out _ _ ?_ (fun hHeld => ?_))
  · (try dsimp only); (go_split_ands; (first | (exact HS.out _ (by assumption)) | (exact HS.out _ (grown_dr (by assumption))) | (exact HS.out _ (grown_al (by assumption))) | (exact HS.out _ (grown_dr (grown_al (by assumption))))))
  clear hK K
  refine wpAnyH_ready (rs := [10]) (by kernel_rfl) (by simp) ?_
  refine AllReadyH.cons (o := _) rfl (fun K hK => ?_) AllReadyH.nil
  go_simp
  go_split_ands
  refine (ser_text ⟨kd, n, s, A, ln, lc, l, B, tn, tc, t⟩ _ (HB.out _ (by assumption)) (HV.out _ (by assumption))).mono ?_
  rintro e w3 ⟨rfl, g3⟩
  have g03 := World.grownBy.trans (a := w0) (by assumption) g3
  first | (refine hK.out _ _ ?_ (fun hHeld => ?_)) | (go_wp2_with fail; refine hK.out _ _ ?_ (fun hHeld => ?_))
  · (try dsimp only); (go_split_ands; (first | (exact HS.out _ (by assumption)) | (exact HS.out _ (grown_dr (by assumption))) | (exact HS.out _ (grown_al (by assumption))) | (exact HS.out _ (grown_dr (grown_al (by assumption))))))
  clear hK K
  refine wpAnyH_ready (rs := [18]) (by kernel_rfl) (by simp) ?_
  refine AllReadyH.cons (o := _) rfl (fun K hK => ?_) AllReadyH.nil
  go_simp
  go_split_ands
  refine (ser_ints ⟨kd, n, s, A, ln, lc, l, B, tn, tc, t⟩ _ (HB.out _ (by assumption)) (HV.out _ (by assumption))).mono ?_
  rintro e w4 ⟨rfl, g4⟩
  have g04 := World.grownBy.trans (a := w0) (by assumption) g4
  first | (refine hK.out _ _ ?_ (fun hHeld => ?_)) | (go_wp2_with fail; refine hK.out _ _ ?_ (fun hHeld => ?_))
  · (try dsimp only); (go_split_ands; (first | (exact HS.out _ (by assumption)) | (exact HS.out _ (grown_dr (by assumption))) | (exact HS.out _ (grown_al (by assumption))) | (exact HS.out _ (grown_dr (grown_al (by assumption))))))
  clear hK K
  refine wpAnyH_ready (rs := [21]) (by kernel_rfl) (by simp) ?_
  refine AllReadyH.cons (o := _) rfl (fun K hK => ?_) AllReadyH.nil
  go_simp
  go_split_ands
  refine (ser_cut ⟨kd, n, s, A, ln, lc, l, B, tn, tc, t⟩ _ (HV.out _ (by assumption))).mono ?_
  rintro e w5 ⟨A5, c5, rfl, o5, g5⟩
  have g05 := World.grownBy.trans (a := w0) (by assumption) g5
  first | (refine hK.out _ _ ?_ (fun hHeld => ?_)) | (go_wp2_with fail; refine hK.out _ _ ?_ (fun hHeld => ?_))
  · (try dsimp only); (go_split_ands; (first | (exact HS.out _ (by assumption)) | (exact HS.out _ (grown_dr (by assumption))) | (exact HS.out _ (grown_al (by assumption))) | (exact HS.out _ (grown_dr (grown_al (by assumption))))))
  clear hK K
  refine wpAnyH_ready (rs := [22]) (by kernel_rfl) (by simp) ?_
  refine AllReadyH.cons (o := _) rfl (fun K hK => ?_) AllReadyH.nil
  go_simp
  go_split_ands
  refine (ser_texts t _ A5 c5 _ (HB.out _ (by assumption)) o5).mono ?_
  rintro e w6 ⟨rfl, g6⟩
  have g06 := World.grownBy.trans (a := w0) (by assumption) g6
  first | (refine hK.out _ _ ?_ (fun hHeld => ?_)) | (go_wp2_with fail; refine hK.out _ _ ?_ (fun hHeld => ?_))
  · (try dsimp only); (go_split_ands; (first | (exact HS.out _ (by assumption)) | (exact HS.out _ (grown_dr (by assumption))) | (exact HS.out _ (grown_al (by assumption))) | (exact HS.out _ (grown_dr (grown_al (by assumption))))))
  clear hK K
  refine wpAnyH_ready (rs := [23]) (by kernel_rfl) (by simp) ?_
  refine AllReadyH.cons (o := _) rfl (fun K hK => ?_) AllReadyH.nil
  go_simp
  first | (refine hK.out _ _ ?_ (fun hHeld => ?_)) | (go_wp2_with fail; refine hK.out _ _ ?_ (fun hHeld => ?_))
  · (try dsimp only); (go_split_ands; (first | (exact HS.out _ (by assumption)) | (exact HS.out _ (grown_dr (by assumption))) | (exact HS.out _ (grown_al (by assumption))) | (exact HS.out _ (grown_dr (grown_al (by assumption))))))
  clear hK K
  refine wpAnyH_take (i := 27) (oi := _) (v := ?_) rfl (by kernel_rfl) (by kernel_rfl) (by kernel_rfl) (fun _ _ _ h => h) (Or.inl ⟨by rfl, ?_⟩) (by assumption) ?_
  rotate_left 1
  · (intro w hSw; (try dsimp only at hSw); go_simp; first | done | with_reducible rfl)
  try simp only [Act.put]
  refine wpAnyH_ready (rs := [28]) (by kernel_rfl) (by simp) ?_
  refine AllReadyH.cons (o := _) rfl (fun K hK => ?_) AllReadyH.nil
  go_simp
  first | (refine hK.out _ _ ?_ (fun hHeld => ?_)) | (go_wp2_with fail; refine hK.out _ _ ?_ (fun hHeld => ?_))
  · (try dsimp only); (go_split_ands; (first | (exact HS.out _ (by assumption)) | (exact HS.out _ (grown_dr (by assumption))) | (exact HS.out _ (grown_al (by assumption))) | (exact HS.out _ (grown_dr (grown_al (by assumption))))))
  clear hK K
  refine wpAnyH_take (i := 29) (oi := _) (v := ?_) rfl (by kernel_rfl) (by kernel_rfl) (by kernel_rfl) (fun _ _ _ h => h) (Or.inl ⟨by rfl, ?_⟩) (by assumption) ?_
  rotate_left 1
  · (intro w hSw; (try dsimp only at hSw); go_simp; first | done | with_reducible rfl)
  try simp only [Act.put]
  refine wpAnyH_done (by kernel_rfl) ?_ _
  refine NoPanic.normal ?_
  have hX : serI n = Val.ser ⟨kd, n, s, A, ln, lc, l, B, tn, tc, t⟩ := by
    unfold Val.ser
    have : kd % 4 = 0 := Hk4.out
    simp only [this]
  have hXp := Val.ser_pos (v := ⟨kd, n, s, A, ln, lc, l, B, tn, tc, t⟩)
  have hXl := Val.ser_len Hhv.out
  have hXt := fun m => Val.trunc Hhv.out m
  simp only [Hk4.out] at hXt
  rw [← hX] at hXp hXl hXt
  clear hX
  generalize serI n = X at *
  go_split_ands
  have hX0 : ((X.length : Int) == 0) = false := by rw [beq_eq_false_iff_ne]; omega
  have HXt := Lib.hid hXt
  clear hXt
  have q0 : (0 : Int) ≤ (q : Int) := by omega
  have q1 : (q : Int) ≤ 65535 := by have := Hq.out; omega
  have m0 : (0 : Int) ≤ (q : Int) % (X.length : Int) := Int.emod_nonneg _ (by omega)
  have m1 : (q : Int) % (X.length : Int) < (X.length : Int) := Int.emod_lt_of_pos _ (by omega)
  have xp : (0 : Int) < (X.length : Int) := by omega
  have xl : (X.length : Int) ≤ 10000 := by omega
  have tm : (q : Int).tmod (X.length : Int) = (q : Int) % (X.length : Int) := Int.tmod_eq_emod_of_nonneg q0
  have z0 : (0 : Int) ≤ (X.length : Int) - 1 - (q : Int) % (X.length : Int) := by omega
  have z1 : (X.length : Int) - 1 - (q : Int) % (X.length : Int) ≤ (X.length : Int) := by omega
  go_wp2_with fail
  refine (new_k _ _).mono ?_
  rintro e w7 ⟨rfl, r7, g7, l7⟩
  have hz := HXt.out (X.length - 1 - q % X.length) (by omega)
  have gT := (grown_al (o := .cells #[.string ⟨(X).toArray⟩, .string ⟨(serT (s.take 100)).toArray⟩, .string ⟨(serL serI (l.take 20)).toArray⟩, .string ⟨(serL serT (cutL t)).toArray⟩] 9) g06).trans g7
  have hbl : (w6.alloc (.cells #[.string ⟨(X).toArray⟩, .string ⟨(serT (s.take 100)).toArray⟩, .string ⟨(serL serI (l.take 20)).toArray⟩, .string ⟨(serL serT (cutL t)).toArray⟩] 9)).heap.size = w6.heap.size + 1 := by simp
  rw [hbl] at r7 l7
  have s6 : w0.heap.size ≤ w6.heap.size := g06.size
  have b6 : n1 < w0.heap.size := lt1
  have n6 := Hb6.out
  obtain ⟨x0, x1, x2, x3, x4, _⟩ := HS.out _ gT
  have hd := decodes_k w7 (HB.out _ gT) (w6.heap.size + 1) (by omega) _ r7 (fun l e => by injection e with e; subst e; rw [List.length_take]; omega) 0 (by omega)
  rw [hz.1, hz.2] at hd
  have Hd := Lib.hid hd
  clear hd hz HXt
  go_wp2_with fail
  refine Hd.out.mono ?_
  rintro e w8 ⟨rfl, r8, g8⟩
  go_wp2_with fail
  refine (Bad_k _ _ _ r8).mono ?_
  rintro e w' ⟨rfl, rfl⟩
  have wlt : w.heap.size ≤ w6.heap.size := by have := Hn1.out; omega
  have gAll := Lib.hid ((gw0.out.trans gT).andThen g8 (fun j hj => .inl (by injection hj with hj; omega)))
  have hB8 : Hid (Base w8) := Lib.hid ((HB.out _ gT).grown g8 (fun k hk => by injection hk with hk; omega))
  generalize hbn : w6.heap.size + 1 = bn at *
  have hbn6 : 6 ≤ bn := by omega
  have hbw : w.heap.size ≤ bn := by omega
  clear hbn
  go_wp2_with fail
  go_loopw [8] (fun i wr => ∃ k : Nat, k ≤ 4 ∧ i = .int .i64 k ∧ Rd wr bn none ∧ w8.grownBy wr (some bn)) (fun i _ => 4 - (intOf i).toNat)
  case atStart => exact ⟨0, by omega, rfl, r8, World.grownBy.refl _ _⟩
  case round =>
    obtain ⟨k, hk, rfl, hr, hg⟩ := hrel
    by_cases hlt : k < 4
    · have hbr := Lib.hid (hB8.out.grown hg (fun k hk => by injection hk with hk; omega))
      have hd := decodes_k wr hbr.out bn hbn6 none hr (fun l e => by cases e) k hlt
      rw [(none_zero k).1, (none_zero k).2] at hd
      have Hd := Lib.hid hd
      clear hd
      go_wp2_with fail
      refine Hd.out.mono ?_
      rintro e w9 ⟨rfl, r9, g9⟩
      go_wp2_with fail
      refine (Bad_k _ _ _ r9).mono ?_
      rintro e w' ⟨rfl, rfl⟩
      go_wp2_with fail
      refine (Left_k _ _ _ r9).mono ?_
      rintro e w' ⟨rfl, rfl⟩
      go_wp2_with fail
      exact ⟨⟨k + 1, by omega, by go_num, r9, hg.trans g9⟩, by simp [intOf]; omega⟩
    · go_wp2_with fail
      go_ret
      exact ⟨rfl, gAll.out.andThen hg (fun j hj => .inl (by injection hj with hj; omega))⟩
set_option maxRecDepth 100000 in
set_option maxHeartbeats 4000000 in
theorem trunc_walk1 (v : Val) (hk4 : v.kd % 4 = 1) (q : Nat) (hq : q ≤ 65535) (w : World) (hb : Base w) (hv : v.ok w) : Calls Tryd.prog 7 #[.agg v.cells, .int .u16 q] w fun e w' => e = .returned (.bool true) ∧ w.grownBy w' none := by
  have hb6 := hb.size
  obtain ⟨kd, n, s, A, ln, lc, l, B, tn, tc, t⟩ := v
  simp only [Val.cells]
  go_enter Tryd.func7, Tryd.ntmps7
  have a0 := World.grownBy_alloc w (.cells #[.int .u8 (kd : Int), .int .i64 n, .string ⟨s.toArray⟩, .slice A ln lc, .slice B tn tc] 45) none
  have Hs := Lib.hid (fun w1 (g : (w.alloc (.cells #[.int .u8 (kd : Int), .int .i64 n, .string ⟨s.toArray⟩, .slice A ln lc, .slice B tn tc] 45)).grownBy w1 none) => sane w1 ((hb.none_ a0).none_ g))
  have hbox : (w.alloc (.cells #[.int .u8 (kd : Int), .int .i64 n, .string ⟨s.toArray⟩, .slice A ln lc, .slice B tn tc] 45)).heap[w.heap.size]? = some (.cells #[.int .u8 (kd : Int), .int .i64 n, .string ⟨s.toArray⟩, .slice A ln lc, .slice B tn tc] 45 (0, 0)) := heap_alloc_new w _
  have lt1 : w.heap.size < (w.alloc (.cells #[.int .u8 (kd : Int), .int .i64 n, .string ⟨s.toArray⟩, .slice A ln lc, .slice B tn tc] 45)).heap.size := by simp
  go_wp2_with fail
  refine (Hs.out _ (World.grownBy.refl _ _)).mono ?_
  rintro e w0 ⟨rfl, g1⟩
  clear Hs
  have hbw := hb.none_ (a0.trans g1)
  have hvw := hv.kept (a0.trans g1)
  have gw0 := Lib.hid (a0.trans g1)
  have hbox := (g1.block _ lt1 (by simp)).trans hbox
  have lt1 := Nat.lt_of_lt_of_le lt1 g1.size
  clear g1 a0
  generalize hn1 : w.heap.size = n1 at *
  have HB : Hid (∀ w', w0.grownBy w' none → Base w') := Lib.hid (fun w' g => hbw.none_ g)
  have HV : Hid (∀ w', w0.grownBy w' none → Val.ok ⟨kd, n, s, A, ln, lc, l, B, tn, tc, t⟩ w') := Lib.hid (fun w' g => hvw.kept g)
  have HS : Hid (∀ w', w0.grownBy w' none → w'.cell? ⟨n1, 0, none⟩ = some (.int .u8 (kd : Int)) ∧ w'.cell? ⟨n1, 1, none⟩ = some (.int .i64 n) ∧ w'.cell? ⟨n1, 2, none⟩ = some (.string ⟨s.toArray⟩) ∧
      w'.cell? ⟨n1, 3, none⟩ = some (.slice A ln lc) ∧ w'.cell? ⟨n1, 4, none⟩ = some (.slice B tn tc) ∧ w0.grownBy w' none) := by
    refine Lib.hid (fun w' g => ?_)
    have hblk := (g.block n1 lt1 (by simp)).trans hbox
    refine ⟨?_, ?_, ?_, ?_, ?_, g⟩ <;> simp [World.cell?, hblk]
  have g1 : w0.grownBy w0 none := World.grownBy.refl _ _
  obtain ⟨d0, d1, d2, d3, d4, _⟩ := HS.out w0 g1
  have Hb0 := Lib.hid hbox
  have e1 : (0 : Int) ≤ min (s.length : Int) 100 := by omega
  have e2 : min (s.length : Int) 100 ≤ (s.length : Int) := by omega
  have e3 : (0 : Int) ≤ min (ln : Int) 20 := by omega
  have e4 : min (ln : Int) 20 ≤ (lc : Int) := by have := hv.lle; simp only at this; omega
  have hk : (kd : Int).tmod 4 = 1 := by
    rw [Int.tmod_eq_emod_of_nonneg (by omega)]
    have : kd % 4 = 1 := hk4
    omega
  have hk' : (kd : Int) % 4 = 1 := by
    have : kd % 4 = 1 := hk4
    omega
  have Hk4 := Lib.hid hk4
  clear hk4
  have e5 : (0 : Int) ≤ (kd : Int) % 4 := by omega
  have e6 : (kd : Int) % 4 < 4 := by omega
  have e7 : (kd : Int) ≤ 255 := by have := hv.k; simp only at this; omega
  have e8 : s.length ≤ 9223372036854775807 := hv.sl
  have e9 : ln ≤ lc := hv.lle
  have e10 : lc ≤ 9223372036854775807 := hv.lcm
  have Hq := Lib.hid hq
  have Hhv := Lib.hid hv
  have Hb6 := Lib.hid hb6
  have Hn1 := Lib.hid hn1
  clear hbox hbw hvw hb hq hv hb6 hn1
  go_wp2_with fail
  refine wp_region_noPanic ?_
  refine wp_region_held_drew (S := (fun w' => w'.cell? ⟨n1, 0, none⟩ = some (.int .u8 (kd : Int)) ∧ w'.cell? ⟨n1, 1, none⟩ = some (.int .i64 n) ∧ w'.cell? ⟨n1, 2, none⟩ = some (.string ⟨s.toArray⟩) ∧
        w'.cell? ⟨n1, 3, none⟩ = some (.slice A ln lc) ∧ w'.cell? ⟨n1, 4, none⟩ = some (.slice B tn tc) ∧ w0.grownBy w' none)) (by kernel_rfl) ?_ (fun hHeld => ?_)
  · (try dsimp only); (go_split_ands; (first | (exact HS.out _ (by assumption)) | (exact HS.out _ (grown_dr (by assumption))) | (exact HS.out _ (grown_al (by assumption))) | (exact HS.out _ (grown_dr (grown_al (by assumption))))))
  refine wpAnyH_take (i := 0) (oi := _) (v := ?_) rfl (by kernel_rfl) (by kernel_rfl) (by kernel_rfl) (fun _ _ _ h => h) (Or.inl ⟨by rfl, ?_⟩) (by assumption) ?_
  rotate_left 1
  · (intro w hSw; (try dsimp only at hSw); go_simp; first | done | with_reducible rfl)
  try simp only [Act.put]
  refine wpAnyH_take (i := 1) (oi := _) (v := ?_) rfl (by kernel_rfl) (by kernel_rfl) (by kernel_rfl) (fun _ _ _ h => h) (Or.inl ⟨by rfl, ?_⟩) (by assumption) ?_
  rotate_left 1
  · (intro w hSw; (try dsimp only at hSw); go_simp; first | done | with_reducible rfl)
  try simp only [Act.put]
  refine wpAnyH_take (i := 3) (oi := _) (v := ?_) rfl (by kernel_rfl) (by kernel_rfl) (by kernel_rfl) (fun _ _ _ h => h) (Or.inl ⟨by rfl, ?_⟩) (by assumption) ?_
  rotate_left 1
  · (intro w hSw; (try dsimp only at hSw); go_simp; first | done | with_reducible rfl)
  try simp only [Act.put]
  refine wpAnyH_take (i := 4) (oi := _) (v := ?_) rfl (by kernel_rfl) (by kernel_rfl) (by kernel_rfl) (fun _ _ _ h => h) (Or.inl ⟨by rfl, ?_⟩) (by assumption) ?_
  rotate_left 1
  · (intro w hSw; (try dsimp only at hSw); go_simp; first | done | with_reducible rfl)
  try simp only [Act.put]
  refine wpAnyH_take (i := 5) (oi := _) (v := ?_) rfl (by kernel_rfl) (by kernel_rfl) (by kernel_rfl) (fun _ _ _ h => h) (Or.inl ⟨by rfl, ?_⟩) (by assumption) ?_
  rotate_left 1
  · (intro w hSw; (try dsimp only at hSw); go_simp; first | done | with_reducible rfl)
  try simp only [Act.put]
  refine wpAnyH_take (i := 6) (oi := _) (v := ?_) rfl (by kernel_rfl) (by kernel_rfl) (by kernel_rfl) (fun _ _ _ h => h) (Or.inl ⟨by rfl, ?_⟩) (by assumption) ?_
  rotate_left 1
  · (intro w hSw; (try dsimp only at hSw); go_simp; first | done | with_reducible rfl)
  try simp only [Act.put]
  refine wpAnyH_take (i := 7) (oi := _) (v := ?_) rfl (by kernel_rfl) (by kernel_rfl) (by kernel_rfl) (fun _ _ _ h => h) (Or.inl ⟨by rfl, ?_⟩) (by assumption) ?_
  rotate_left 1
  · (intro w hSw; (try dsimp only at hSw); go_simp; first | done | with_reducible rfl)
  try simp only [Act.put]
  refine wpAnyH_take (i := 8) (oi := _) (v := ?_) rfl (by kernel_rfl) (by kernel_rfl) (by kernel_rfl) (fun _ _ _ h => h) (Or.inl ⟨by rfl, ?_⟩) (by assumption) ?_
  rotate_left 1
  · (intro w hSw; (try dsimp only at hSw); go_simp; first | done | with_reducible rfl)
  try simp only [Act.put]
  refine wpAnyH_take (i := 9) (oi := _) (v := ?_) rfl (by kernel_rfl) (by kernel_rfl) (by kernel_rfl) (fun _ _ _ h => h) (Or.inl ⟨by rfl, ?_⟩) (by assumption) ?_
  rotate_left 1
  · (intro w hSw; (try dsimp only at hSw); go_simp; first | done | with_reducible rfl)
  try simp only [Act.put]
  refine wpAnyH_take (i := 11) (oi := _) (v := ?_) rfl (by kernel_rfl) (by kernel_rfl) (by kernel_rfl) (fun _ _ _ h => h) (Or.inl ⟨by rfl, ?_⟩) (by assumption) ?_
  rotate_left 1
  · (intro w hSw; (try dsimp only at hSw); go_simp; first | done | with_reducible rfl)
  try simp only [Act.put]
  refine wpAnyH_take (i := 12) (oi := _) (v := ?_) rfl (by kernel_rfl) (by kernel_rfl) (by kernel_rfl) (fun _ _ _ h => h) (Or.inl ⟨by rfl, ?_⟩) (by assumption) ?_
  rotate_left 1
  · (intro w hSw; (try dsimp only at hSw); go_simp; first | done | with_reducible rfl)
  try simp only [Act.put]
  refine wpAnyH_take (i := 13) (oi := _) (v := ?_) rfl (by kernel_rfl) (by kernel_rfl) (by kernel_rfl) (fun _ _ _ h => h) (Or.inl ⟨by rfl, ?_⟩) (by assumption) ?_
  rotate_left 1
  · (intro w hSw; (try dsimp only at hSw); go_simp; first | done | with_reducible rfl)
  try simp only [Act.put]
  refine wpAnyH_take (i := 14) (oi := _) (v := ?_) rfl (by kernel_rfl) (by kernel_rfl) (by kernel_rfl) (fun _ _ _ h => h) (Or.inl ⟨by rfl, ?_⟩) (by assumption) ?_
  rotate_left 1
  · (intro w hSw; (try dsimp only at hSw); go_simp; first | done | with_reducible rfl)
  try simp only [Act.put]
  refine wpAnyH_take (i := 15) (oi := _) (v := ?_) rfl (by kernel_rfl) (by kernel_rfl) (by kernel_rfl) (fun _ _ _ h => h) (Or.inl ⟨by rfl, ?_⟩) (by assumption) ?_
  rotate_left 1
  · (intro w hSw; (try dsimp only at hSw); go_simp; first | done | with_reducible rfl)
  try simp only [Act.put]
  refine wpAnyH_take (i := 16) (oi := _) (v := ?_) rfl (by kernel_rfl) (by kernel_rfl) (by kernel_rfl) (fun _ _ _ h => h) (Or.inl ⟨by rfl, ?_⟩) (by assumption) ?_
  rotate_left 1
  · (intro w hSw; (try dsimp only at hSw); go_simp; first | done | with_reducible rfl)
  try simp only [Act.put]
  refine wpAnyH_take (i := 17) (oi := _) (v := ?_) rfl (by kernel_rfl) (by kernel_rfl) (by kernel_rfl) (fun _ _ _ h => h) (Or.inl ⟨by rfl, ?_⟩) (by assumption) ?_
  rotate_left 1
  · (intro w hSw; (try dsimp only at hSw); go_simp; first | done | with_reducible rfl)
  try simp only [Act.put]
  refine wpAnyH_take (i := 19) (oi := _) (v := ?_) rfl (by kernel_rfl) (by kernel_rfl) (by kernel_rfl) (fun _ _ _ h => h) (Or.inl ⟨by rfl, ?_⟩) (by assumption) ?_
  rotate_left 1
  · (intro w hSw; (try dsimp only at hSw); go_simp; first | done | with_reducible rfl)
  try simp only [Act.put]
  refine wpAnyH_take (i := 20) (oi := _) (v := ?_) rfl (by kernel_rfl) (by kernel_rfl) (by kernel_rfl) (fun _ _ _ h => h) (Or.inl ⟨by rfl, ?_⟩) (by assumption) ?_
  rotate_left 1
  · (intro w hSw; (try dsimp only at hSw); go_simp; first | done | with_reducible rfl)
  try simp only [Act.put]
  refine wpAnyH_take (i := 24) (oi := _) (v := ?_) rfl (by kernel_rfl) (by kernel_rfl) (by kernel_rfl) (fun _ _ _ h => h) (Or.inl ⟨by rfl, ?_⟩) (by assumption) ?_
  rotate_left 1
  · (intro w hSw; (try dsimp only at hSw); go_simp; first | done | with_reducible rfl)
  try simp only [Act.put]
  refine wpAnyH_take (i := 25) (oi := _) (v := ?_) rfl (by kernel_rfl) (by kernel_rfl) (by kernel_rfl) (fun _ _ _ h => h) (Or.inl ⟨by rfl, ?_⟩) (by assumption) ?_
  rotate_left 1
  · (intro w hSw; (try dsimp only at hSw); go_simp; first | done | with_reducible rfl)
  try simp only [Act.put]
  refine wpAnyH_take (i := 26) (oi := _) (v := ?_) rfl (by kernel_rfl) (by kernel_rfl) (by kernel_rfl) (fun _ _ _ h => h) (Or.inl ⟨by rfl, ?_⟩) (by assumption) ?_
  rotate_left 1
  · (intro w hSw; (try dsimp only at hSw); go_simp; first | done | with_reducible rfl)
  try simp only [Act.put]
  refine wpAnyH_ready (rs := [2]) (by kernel_rfl) (by simp) ?_
  refine AllReadyH.cons (o := _) rfl (fun K hK => ?_) AllReadyH.nil
  go_simp
  go_split_ands
  refine (wInt n (HV.out _ g1).i _ (HB.out _ (by assumption))).mono ?_
  rintro e w2 ⟨rfl, g2⟩
  have g02 := World.grownBy.trans (a := w0) (by assumption) g2
  first | (refine hK.out _ _ ?_ (fun hHeld => ?_)) | (go_wp2_with fail; refine hK.out _ _ ?_ (fun hHeld => ?_))
  · (try dsimp only); (go_split_ands; (first | (exact HS.out _ (by assumption)) | (exact HS.out _ (grown_dr (by assumption))) | (exact HS.out _ (grown_al (by assumption))) | (exact HS.out _ (grown_dr (grown_al (by assumption))))))
  clear hK K
  refine wpAnyH_ready (rs := [10]) (by kernel_rfl) (by simp) ?_
  refine AllReadyH.cons (o := _) rfl (fun K hK => ?_) AllReadyH.nil
  go_simp
  go_split_ands
  refine (ser_text ⟨kd, n, s, A, ln, lc, l, B, tn, tc, t⟩ _ (HB.out _ (by assumption)) (HV.out _ (by assumption))).mono ?_
  rintro e w3 ⟨rfl, g3⟩
  have g03 := World.grownBy.trans (a := w0) (by assumption) g3
  first | (refine hK.out _ _ ?_ (fun hHeld => ?_)) | (go_wp2_with fail; refine hK.out _ _ ?_ (fun hHeld => ?_))
  · (try dsimp only); (go_split_ands; (first | (exact HS.out _ (by assumption)) | (exact HS.out _ (grown_dr (by assumption))) | (exact HS.out _ (grown_al (by assumption))) | (exact HS.out _ (grown_dr (grown_al (by assumption))))))
  clear hK K
  refine wpAnyH_ready (rs := [18]) (by kernel_rfl) (by simp) ?_
  refine AllReadyH.cons (o := _) rfl (fun K hK => ?_) AllReadyH.nil
  go_simp
  go_split_ands
  refine (ser_ints ⟨kd, n, s, A, ln, lc, l, B, tn, tc, t⟩ _ (HB.out _ (by assumption)) (HV.out _ (by assumption))).mono ?_
  rintro e w4 ⟨rfl, g4⟩
  have g04 := World.grownBy.trans (a := w0) (by assumption) g4
  first | (refine hK.out _ _ ?_ (fun hHeld => ?_)) | (go_wp2_with fail; refine hK.out _ _ ?_ (fun hHeld => ?_))
  · (try dsimp only); (go_split_ands; (first | (exact HS.out _ (by assumption)) | (exact HS.out _ (grown_dr (by assumption))) | (exact HS.out _ (grown_al (by assumption))) | (exact HS.out _ (grown_dr (grown_al (by assumption))))))
  clear hK K
  refine wpAnyH_ready (rs := [21]) (by kernel_rfl) (by simp) ?_
  refine AllReadyH.cons (o := _) rfl (fun K hK => ?_) AllReadyH.nil
  go_simp
  go_split_ands
  refine (ser_cut ⟨kd, n, s, A, ln, lc, l, B, tn, tc, t⟩ _ (HV.out _ (by assumption))).mono ?_
  rintro e w5 ⟨A5, c5, rfl, o5, g5⟩
  have g05 := World.grownBy.trans (a := w0) (by assumption) g5
  first | (refine hK.out _ _ ?_ (fun hHeld => ?_)) | (go_wp2_with fail; refine hK.out _ _ ?_ (fun hHeld => ?_))
  · (try dsimp only); (go_split_ands; (first | (exact HS.out _ (by assumption)) | (exact HS.out _ (grown_dr (by assumption))) | (exact HS.out _ (grown_al (by assumption))) | (exact HS.out _ (grown_dr (grown_al (by assumption))))))
  clear hK K
  refine wpAnyH_ready (rs := [22]) (by kernel_rfl) (by simp) ?_
  refine AllReadyH.cons (o := _) rfl (fun K hK => ?_) AllReadyH.nil
  go_simp
  go_split_ands
  refine (ser_texts t _ A5 c5 _ (HB.out _ (by assumption)) o5).mono ?_
  rintro e w6 ⟨rfl, g6⟩
  have g06 := World.grownBy.trans (a := w0) (by assumption) g6
  first | (refine hK.out _ _ ?_ (fun hHeld => ?_)) | (go_wp2_with fail; refine hK.out _ _ ?_ (fun hHeld => ?_))
  · (try dsimp only); (go_split_ands; (first | (exact HS.out _ (by assumption)) | (exact HS.out _ (grown_dr (by assumption))) | (exact HS.out _ (grown_al (by assumption))) | (exact HS.out _ (grown_dr (grown_al (by assumption))))))
  clear hK K
  refine wpAnyH_ready (rs := [23]) (by kernel_rfl) (by simp) ?_
  refine AllReadyH.cons (o := _) rfl (fun K hK => ?_) AllReadyH.nil
  go_simp
  first | (refine hK.out _ _ ?_ (fun hHeld => ?_)) | (go_wp2_with fail; refine hK.out _ _ ?_ (fun hHeld => ?_))
  · (try dsimp only); (go_split_ands; (first | (exact HS.out _ (by assumption)) | (exact HS.out _ (grown_dr (by assumption))) | (exact HS.out _ (grown_al (by assumption))) | (exact HS.out _ (grown_dr (grown_al (by assumption))))))
  clear hK K
  refine wpAnyH_take (i := 27) (oi := _) (v := ?_) rfl (by kernel_rfl) (by kernel_rfl) (by kernel_rfl) (fun _ _ _ h => h) (Or.inl ⟨by rfl, ?_⟩) (by assumption) ?_
  rotate_left 1
  · (intro w hSw; (try dsimp only at hSw); go_simp; first | done | with_reducible rfl)
  try simp only [Act.put]
  refine wpAnyH_ready (rs := [28]) (by kernel_rfl) (by simp) ?_
  refine AllReadyH.cons (o := _) rfl (fun K hK => ?_) AllReadyH.nil
  go_simp
  first | (refine hK.out _ _ ?_ (fun hHeld => ?_)) | (go_wp2_with fail; refine hK.out _ _ ?_ (fun hHeld => ?_))
  · (try dsimp only); (go_split_ands; (first | (exact HS.out _ (by assumption)) | (exact HS.out _ (grown_dr (by assumption))) | (exact HS.out _ (grown_al (by assumption))) | (exact HS.out _ (grown_dr (grown_al (by assumption))))))
  clear hK K
  refine wpAnyH_take (i := 29) (oi := _) (v := ?_) rfl (by kernel_rfl) (by kernel_rfl) (by kernel_rfl) (fun _ _ _ h => h) (Or.inl ⟨by rfl, ?_⟩) (by assumption) ?_
  rotate_left 1
  · (intro w hSw; (try dsimp only at hSw); go_simp; first | done | with_reducible rfl)
  try simp only [Act.put]
  refine wpAnyH_done (by kernel_rfl) ?_ _
  refine NoPanic.normal ?_
  have hX : serT (s.take 100) = Val.ser ⟨kd, n, s, A, ln, lc, l, B, tn, tc, t⟩ := by
    unfold Val.ser
    have : kd % 4 = 1 := Hk4.out
    simp only [this]
  have hXp := Val.ser_pos (v := ⟨kd, n, s, A, ln, lc, l, B, tn, tc, t⟩)
  have hXl := Val.ser_len Hhv.out
  have hXt := fun m => Val.trunc Hhv.out m
  simp only [Hk4.out] at hXt
  rw [← hX] at hXp hXl hXt
  clear hX
  generalize serT (s.take 100) = X at *
  go_split_ands
  have hX0 : ((X.length : Int) == 0) = false := by rw [beq_eq_false_iff_ne]; omega
  have HXt := Lib.hid hXt
  clear hXt
  have q0 : (0 : Int) ≤ (q : Int) := by omega
  have q1 : (q : Int) ≤ 65535 := by have := Hq.out; omega
  have m0 : (0 : Int) ≤ (q : Int) % (X.length : Int) := Int.emod_nonneg _ (by omega)
  have m1 : (q : Int) % (X.length : Int) < (X.length : Int) := Int.emod_lt_of_pos _ (by omega)
  have xp : (0 : Int) < (X.length : Int) := by omega
  have xl : (X.length : Int) ≤ 10000 := by omega
  have tm : (q : Int).tmod (X.length : Int) = (q : Int) % (X.length : Int) := Int.tmod_eq_emod_of_nonneg q0
  have z0 : (0 : Int) ≤ (X.length : Int) - 1 - (q : Int) % (X.length : Int) := by omega
  have z1 : (X.length : Int) - 1 - (q : Int) % (X.length : Int) ≤ (X.length : Int) := by omega
  go_wp2_with fail
  refine (new_k _ _).mono ?_
  rintro e w7 ⟨rfl, r7, g7, l7⟩
  have hz := HXt.out (X.length - 1 - q % X.length) (by omega)
  have gT := (grown_al (o := .cells #[.string ⟨(serI n).toArray⟩, .string ⟨(X).toArray⟩, .string ⟨(serL serI (l.take 20)).toArray⟩, .string ⟨(serL serT (cutL t)).toArray⟩] 9) g06).trans g7
  have hbl : (w6.alloc (.cells #[.string ⟨(serI n).toArray⟩, .string ⟨(X).toArray⟩, .string ⟨(serL serI (l.take 20)).toArray⟩, .string ⟨(serL serT (cutL t)).toArray⟩] 9)).heap.size = w6.heap.size + 1 := by simp
  rw [hbl] at r7 l7
  have s6 : w0.heap.size ≤ w6.heap.size := g06.size
  have b6 : n1 < w0.heap.size := lt1
  have n6 := Hb6.out
  obtain ⟨x0, x1, x2, x3, x4, _⟩ := HS.out _ gT
  have hd := decodes_k w7 (HB.out _ gT) (w6.heap.size + 1) (by omega) _ r7 (fun l e => by injection e with e; subst e; rw [List.length_take]; omega) 1 (by omega)
  rw [hz.1, hz.2] at hd
  have Hd := Lib.hid hd
  clear hd hz HXt
  go_wp2_with fail
  refine Hd.out.mono ?_
  rintro e w8 ⟨rfl, r8, g8⟩
  go_wp2_with fail
  refine (Bad_k _ _ _ r8).mono ?_
  rintro e w' ⟨rfl, rfl⟩
  have wlt : w.heap.size ≤ w6.heap.size := by have := Hn1.out; omega
  have gAll := Lib.hid ((gw0.out.trans gT).andThen g8 (fun j hj => .inl (by injection hj with hj; omega)))
  have hB8 : Hid (Base w8) := Lib.hid ((HB.out _ gT).grown g8 (fun k hk => by injection hk with hk; omega))
  generalize hbn : w6.heap.size + 1 = bn at *
  have hbn6 : 6 ≤ bn := by omega
  have hbw : w.heap.size ≤ bn := by omega
  clear hbn
  go_wp2_with fail
  go_loopw [8] (fun i wr => ∃ k : Nat, k ≤ 4 ∧ i = .int .i64 k ∧ Rd wr bn none ∧ w8.grownBy wr (some bn)) (fun i _ => 4 - (intOf i).toNat)
  case atStart => exact ⟨0, by omega, rfl, r8, World.grownBy.refl _ _⟩
  case round =>
    obtain ⟨k, hk, rfl, hr, hg⟩ := hrel
    by_cases hlt : k < 4
    · have hbr := Lib.hid (hB8.out.grown hg (fun k hk => by injection hk with hk; omega))
      have hd := decodes_k wr hbr.out bn hbn6 none hr (fun l e => by cases e) k hlt
      rw [(none_zero k).1, (none_zero k).2] at hd
      have Hd := Lib.hid hd
      clear hd
      go_wp2_with fail
      refine Hd.out.mono ?_
      rintro e w9 ⟨rfl, r9, g9⟩
      go_wp2_with fail
      refine (Bad_k _ _ _ r9).mono ?_
      rintro e w' ⟨rfl, rfl⟩
      go_wp2_with fail
      refine (Left_k _ _ _ r9).mono ?_
      rintro e w' ⟨rfl, rfl⟩
      go_wp2_with fail
      exact ⟨⟨k + 1, by omega, by go_num, r9, hg.trans g9⟩, by simp [intOf]; omega⟩
    · go_wp2_with fail
      go_ret
      exact ⟨rfl, gAll.out.andThen hg (fun j hj => .inl (by injection hj with hj; omega))⟩
set_option maxRecDepth 100000 in
set_option maxHeartbeats 4000000 in
theorem trunc_walk2 (v : Val) (hk4 : v.kd % 4 = 2) (q : Nat) (hq : q ≤ 65535) (w : World) (hb : Base w) (hv : v.ok w) : Calls Tryd.prog 7 #[.agg v.cells, .int .u16 q] w fun e w' => e = .returned (.bool true) ∧ w.grownBy w' none := by
  have hb6 := hb.size
  obtain ⟨kd, n, s, A, ln, lc, l, B, tn, tc, t⟩ := v
  simp only [Val.cells]
  go_enter Tryd.func7, Tryd.ntmps7
  have a0 := World.grownBy_alloc w (.cells #[.int .u8 (kd : Int), .int .i64 n, .string ⟨s.toArray⟩, .slice A ln lc, .slice B tn tc] 45) none
  have Hs := Lib.hid (fun w1 (g : (w.alloc (.cells #[.int .u8 (kd : Int), .int .i64 n, .string ⟨s.toArray⟩, .slice A ln lc, .slice B tn tc] 45)).grownBy w1 none) => sane w1 ((hb.none_ a0).none_ g))
  have hbox : (w.alloc (.cells #[.int .u8 (kd : Int), .int .i64 n, .string ⟨s.toArray⟩, .slice A ln lc, .slice B tn tc] 45)).heap[w.heap.size]? = some (.cells #[.int .u8 (kd : Int), .int .i64 n, .string ⟨s.toArray⟩, .slice A ln lc, .slice B tn tc] 45 (0, 0)) := heap_alloc_new w _
  have lt1 : w.heap.size < (w.alloc (.cells #[.int .u8 (kd : Int), .int .i64 n, .string ⟨s.toArray⟩, .slice A ln lc, .slice B tn tc] 45)).heap.size := by simp
  go_wp2_with fail
  refine (Hs.out _ (World.grownBy.refl _ _)).mono ?_
  rintro e w0 ⟨rfl, g1⟩
  clear Hs
  have hbw := hb.none_ (a0.trans g1)
  have hvw := hv.kept (a0.trans g1)
  have gw0 := Lib.hid (a0.trans g1)
  have hbox := (g1.block _ lt1 (by simp)).trans hbox
  have lt1 := Nat.lt_of_lt_of_le lt1 g1.size
  clear g1 a0
  generalize hn1 : w.heap.size = n1 at *
  have HB : Hid (∀ w', w0.grownBy w' none → Base w') := Lib.hid (fun w' g => hbw.none_ g)
  have HV : Hid (∀ w', w0.grownBy w' none → Val.ok ⟨kd, n, s, A, ln, lc, l, B, tn, tc, t⟩ w') := Lib.hid (fun w' g => hvw.kept g)
  have HS : Hid (∀ w', w0.grownBy w' none → w'.cell? ⟨n1, 0, none⟩ = some (.int .u8 (kd : Int)) ∧ w'.cell? ⟨n1, 1, none⟩ = some (.int .i64 n) ∧ w'.cell? ⟨n1, 2, none⟩ = some (.string ⟨s.toArray⟩) ∧
      w'.cell? ⟨n1, 3, none⟩ = some (.slice A ln lc) ∧ w'.cell? ⟨n1, 4, none⟩ = some (.slice B tn tc) ∧ w0.grownBy w' none) := by
    refine Lib.hid (fun w' g => ?_)
    have hblk := (g.block n1 lt1 (by simp)).trans hbox
    refine ⟨?_, ?_, ?_, ?_, ?_, g⟩ <;> simp [World.cell?, hblk]
  have g1 : w0.grownBy w0 none := World.grownBy.refl _ _
  obtain ⟨d0, d1, d2, d3, d4, _⟩ := HS.out w0 g1
  have Hb0 := Lib.hid hbox
  have e1 : (0 : Int) ≤ min (s.length : Int) 100 := by omega
  have e2 : min (s.length : Int) 100 ≤ (s.length : Int) := by omega
  have e3 : (0 : Int) ≤ min (ln : Int) 20 := by omega
  have e4 : min (ln : Int) 20 ≤ (lc : Int) := by have := hv.lle; simp only at this; omega
  have hk : (kd : Int).tmod 4 = 2 := by
    rw [Int.tmod_eq_emod_of_nonneg (by omega)]
    have : kd % 4 = 2 := hk4
    omega
  have hk' : (kd : Int) % 4 = 2 := by
    have : kd % 4 = 2 := hk4
    omega
  have Hk4 := Lib.hid hk4
  clear hk4
  have e5 : (0 : Int) ≤ (kd : Int) % 4 := by omega
  have e6 : (kd : Int) % 4 < 4 := by omega
  have e7 : (kd : Int) ≤ 255 := by have := hv.k; simp only at this; omega
  have e8 : s.length ≤ 9223372036854775807 := hv.sl
  have e9 : ln ≤ lc := hv.lle
  have e10 : lc ≤ 9223372036854775807 := hv.lcm
  have Hq := Lib.hid hq
  have Hhv := Lib.hid hv
  have Hb6 := Lib.hid hb6
  have Hn1 := Lib.hid hn1
  clear hbox hbw hvw hb hq hv hb6 hn1
  go_wp2_with fail
  refine wp_region_noPanic ?_
  refine wp_region_held_drew (S := (fun w' => w'.cell? ⟨n1, 0, none⟩ = some (.int .u8 (kd : Int)) ∧ w'.cell? ⟨n1, 1, none⟩ = some (.int .i64 n) ∧ w'.cell? ⟨n1, 2, none⟩ = some (.string ⟨s.toArray⟩) ∧
        w'.cell? ⟨n1, 3, none⟩ = some (.slice A ln lc) ∧ w'.cell? ⟨n1, 4, none⟩ = some (.slice B tn tc) ∧ w0.grownBy w' none)) (by kernel_rfl) ?_ (fun hHeld => ?_)
  · (try dsimp only); (go_split_ands; (first | (exact HS.out _ (by assumption)) | (exact HS.out _ (grown_dr (by assumption))) | (exact HS.out _ (grown_al (by assumption))) | (exact HS.out _ (grown_dr (grown_al (by assumption))))))
  refine wpAnyH_take (i := 0) (oi := _) (v := ?_) rfl (by kernel_rfl) (by kernel_rfl) (by kernel_rfl) (fun _ _ _ h => h) (Or.inl ⟨by rfl, ?_⟩) (by assumption) ?_
  rotate_left 1
  · (intro w hSw; (try dsimp only at hSw); go_simp; first | done | with_reducible rfl)
  try simp only [Act.put]
  refine wpAnyH_take (i := 1) (oi := _) (v := ?_) rfl (by kernel_rfl) (by kernel_rfl) (by kernel_rfl) (fun _ _ _ h => h) (Or.inl ⟨by rfl, ?_⟩) (by assumption) ?_
  rotate_left 1
  · (intro w hSw; (try dsimp only at hSw); go_simp; first | done | with_reducible rfl)
  try simp only [Act.put]
  refine wpAnyH_take (i := 3) (oi := _) (v := ?_) rfl (by kernel_rfl) (by kernel_rfl) (by kernel_rfl) (fun _ _ _ h => h) (Or.inl ⟨by rfl, ?_⟩) (by assumption) ?_
  rotate_left 1
  · (intro w hSw; (try dsimp only at hSw); go_simp; first | done | with_reducible rfl)
  try simp only [Act.put]
  refine wpAnyH_take (i := 4) (oi := _) (v := ?_) rfl (by kernel_rfl) (by kernel_rfl) (by kernel_rfl) (fun _ _ _ h => h) (Or.inl ⟨by rfl, ?_⟩) (by assumption) ?_
  rotate_left 1
  · (intro w hSw; (try dsimp only at hSw); go_simp; first | done | with_reducible rfl)
  try simp only [Act.put]
  refine wpAnyH_take (i := 5) (oi := _) (v := ?_) rfl (by kernel_rfl) (by kernel_rfl) (by kernel_rfl) (fun _ _ _ h => h) (Or.inl ⟨by rfl, ?_⟩) (by assumption) ?_
  rotate_left 1
  · (intro w hSw; (try dsimp only at hSw); go_simp; first | done | with_reducible rfl)
  try simp only [Act.put]
  refine wpAnyH_take (i := 6) (oi := _) (v := ?_) rfl (by kernel_rfl) (by kernel_rfl) (by kernel_rfl) (fun _ _ _ h => h) (Or.inl ⟨by rfl, ?_⟩) (by assumption) ?_
  rotate_left 1
  · (intro w hSw; (try dsimp only at hSw); go_simp; first | done | with_reducible rfl)
  try simp only [Act.put]
  refine wpAnyH_take (i := 7) (oi := _) (v := ?_) rfl (by kernel_rfl) (by kernel_rfl) (by kernel_rfl) (fun _ _ _ h => h) (Or.inl ⟨by rfl, ?_⟩) (by assumption) ?_
  rotate_left 1
  · (intro w hSw; (try dsimp only at hSw); go_simp; first | done | with_reducible rfl)
  try simp only [Act.put]
  refine wpAnyH_take (i := 8) (oi := _) (v := ?_) rfl (by kernel_rfl) (by kernel_rfl) (by kernel_rfl) (fun _ _ _ h => h) (Or.inl ⟨by rfl, ?_⟩) (by assumption) ?_
  rotate_left 1
  · (intro w hSw; (try dsimp only at hSw); go_simp; first | done | with_reducible rfl)
  try simp only [Act.put]
  refine wpAnyH_take (i := 9) (oi := _) (v := ?_) rfl (by kernel_rfl) (by kernel_rfl) (by kernel_rfl) (fun _ _ _ h => h) (Or.inl ⟨by rfl, ?_⟩) (by assumption) ?_
  rotate_left 1
  · (intro w hSw; (try dsimp only at hSw); go_simp; first | done | with_reducible rfl)
  try simp only [Act.put]
  refine wpAnyH_take (i := 11) (oi := _) (v := ?_) rfl (by kernel_rfl) (by kernel_rfl) (by kernel_rfl) (fun _ _ _ h => h) (Or.inl ⟨by rfl, ?_⟩) (by assumption) ?_
  rotate_left 1
  · (intro w hSw; (try dsimp only at hSw); go_simp; first | done | with_reducible rfl)
  try simp only [Act.put]
  refine wpAnyH_take (i := 12) (oi := _) (v := ?_) rfl (by kernel_rfl) (by kernel_rfl) (by kernel_rfl) (fun _ _ _ h => h) (Or.inl ⟨by rfl, ?_⟩) (by assumption) ?_
  rotate_left 1
  · (intro w hSw; (try dsimp only at hSw); go_simp; first | done | with_reducible rfl)
  try simp only [Act.put]
  refine wpAnyH_take (i := 13) (oi := _) (v := ?_) rfl (by kernel_rfl) (by kernel_rfl) (by kernel_rfl) (fun _ _ _ h => h) (Or.inl ⟨by rfl, ?_⟩) (by assumption) ?_
  rotate_left 1
  · (intro w hSw; (try dsimp only at hSw); go_simp; first | done | with_reducible rfl)
  try simp only [Act.put]
  refine wpAnyH_take (i := 14) (oi := _) (v := ?_) rfl (by kernel_rfl) (by kernel_rfl) (by kernel_rfl) (fun _ _ _ h => h) (Or.inl ⟨by rfl, ?_⟩) (by assumption) ?_
  rotate_left 1
  · (intro w hSw; (try dsimp only at hSw); go_simp; first | done | with_reducible rfl)
  try simp only [Act.put]
  refine wpAnyH_take (i := 15) (oi := _) (v := ?_) rfl (by kernel_rfl) (by kernel_rfl) (by kernel_rfl) (fun _ _ _ h => h) (Or.inl ⟨by rfl, ?_⟩) (by assumption) ?_
  rotate_left 1
  · (intro w hSw; (try dsimp only at hSw); go_simp; first | done | with_reducible rfl)
  try simp only [Act.put]
  refine wpAnyH_take (i := 16) (oi := _) (v := ?_) rfl (by kernel_rfl) (by kernel_rfl) (by kernel_rfl) (fun _ _ _ h => h) (Or.inl ⟨by rfl, ?_⟩) (by assumption) ?_
  rotate_left 1
  · (intro w hSw; (try dsimp only at hSw); go_simp; first | done | with_reducible rfl)
  try simp only [Act.put]
  refine wpAnyH_take (i := 17) (oi := _) (v := ?_) rfl (by kernel_rfl) (by kernel_rfl) (by kernel_rfl) (fun _ _ _ h => h) (Or.inl ⟨by rfl, ?_⟩) (by assumption) ?_
  rotate_left 1
  · (intro w hSw; (try dsimp only at hSw); go_simp; first | done | with_reducible rfl)
  try simp only [Act.put]
  refine wpAnyH_take (i := 19) (oi := _) (v := ?_) rfl (by kernel_rfl) (by kernel_rfl) (by kernel_rfl) (fun _ _ _ h => h) (Or.inl ⟨by rfl, ?_⟩) (by assumption) ?_
  rotate_left 1
  · (intro w hSw; (try dsimp only at hSw); go_simp; first | done | with_reducible rfl)
  try simp only [Act.put]
  refine wpAnyH_take (i := 20) (oi := _) (v := ?_) rfl (by kernel_rfl) (by kernel_rfl) (by kernel_rfl) (fun _ _ _ h => h) (Or.inl ⟨by rfl, ?_⟩) (by assumption) ?_
  rotate_left 1
  · (intro w hSw; (try dsimp only at hSw); go_simp; first | done | with_reducible rfl)
  try simp only [Act.put]
  refine wpAnyH_take (i := 24) (oi := _) (v := ?_) rfl (by kernel_rfl) (by kernel_rfl) (by kernel_rfl) (fun _ _ _ h => h) (Or.inl ⟨by rfl, ?_⟩) (by assumption) ?_
  rotate_left 1
  · (intro w hSw; (try dsimp only at hSw); go_simp; first | done | with_reducible rfl)
  try simp only [Act.put]
  refine wpAnyH_take (i := 25) (oi := _) (v := ?_) rfl (by kernel_rfl) (by kernel_rfl) (by kernel_rfl) (fun _ _ _ h => h) (Or.inl ⟨by rfl, ?_⟩) (by assumption) ?_
  rotate_left 1
  · (intro w hSw; (try dsimp only at hSw); go_simp; first | done | with_reducible rfl)
  try simp only [Act.put]
  refine wpAnyH_take (i := 26) (oi := _) (v := ?_) rfl (by kernel_rfl) (by kernel_rfl) (by kernel_rfl) (fun _ _ _ h => h) (Or.inl ⟨by rfl, ?_⟩) (by assumption) ?_
  rotate_left 1
  · (intro w hSw; (try dsimp only at hSw); go_simp; first | done | with_reducible rfl)
  try simp only [Act.put]
  refine wpAnyH_ready (rs := [2]) (by kernel_rfl) (by simp) ?_
  refine AllReadyH.cons (o := _) rfl (fun K hK => ?_) AllReadyH.nil
  go_simp
  go_split_ands
  refine (wInt n (HV.out _ g1).i _ (HB.out _ (by assumption))).mono ?_
  rintro e w2 ⟨rfl, g2⟩
  have g02 := World.grownBy.trans (a := w0) (by assumption) g2
  first | (refine hK.out _ _ ?_ (fun hHeld => ?_)) | (go_wp2_with fail; refine hK.out _ _ ?_ (fun hHeld => ?_))
  · (try dsimp only); (go_split_ands; (first | (exact HS.out _ (by assumption)) | (exact HS.out _ (grown_dr (by assumption))) | (exact HS.out _ (grown_al (by assumption))) | (exact HS.out _ (grown_dr (grown_al (by assumption))))))
  clear hK K
  refine wpAnyH_ready (rs := [10]) (by kernel_rfl) (by simp) ?_
  refine AllReadyH.cons (o := _) rfl (fun K hK => ?_) AllReadyH.nil
  go_simp
  go_split_ands
  refine (ser_text ⟨kd, n, s, A, ln, lc, l, B, tn, tc, t⟩ _ (HB.out _ (by assumption)) (HV.out _ (by assumption))).mono ?_
  rintro e w3 ⟨rfl, g3⟩
  have g03 := World.grownBy.trans (a := w0) (by assumption) g3
  first | (refine hK.out _ _ ?_ (fun hHeld => ?_)) | (go_wp2_with fail; refine hK.out _ _ ?_ (fun hHeld => ?_))
  · (try dsimp only); (go_split_ands; (first | (exact HS.out _ (by assumption)) | (exact HS.out _ (grown_dr (by assumption))) | (exact HS.out _ (grown_al (by assumption))) | (exact HS.out _ (grown_dr (grown_al (by assumption))))))
  clear hK K
  refine wpAnyH_ready (rs := [18]) (by kernel_rfl) (by simp) ?_
  refine AllReadyH.cons (o := _) rfl (fun K hK => ?_) AllReadyH.nil
  go_simp
  go_split_ands
  refine (ser_ints ⟨kd, n, s, A, ln, lc, l, B, tn, tc, t⟩ _ (HB.out _ (by assumption)) (HV.out _ (by assumption))).mono ?_
  rintro e w4 ⟨rfl, g4⟩
  have g04 := World.grownBy.trans (a := w0) (by assumption) g4
  first | (refine hK.out _ _ ?_ (fun hHeld => ?_)) | (go_wp2_with fail; refine hK.out _ _ ?_ (fun hHeld => ?_))
  · (try dsimp only); (go_split_ands; (first | (exact HS.out _ (by assumption)) | (exact HS.out _ (grown_dr (by assumption))) | (exact HS.out _ (grown_al (by assumption))) | (exact HS.out _ (grown_dr (grown_al (by assumption))))))
  clear hK K
  refine wpAnyH_ready (rs := [21]) (by kernel_rfl) (by simp) ?_
  refine AllReadyH.cons (o := _) rfl (fun K hK => ?_) AllReadyH.nil
  go_simp
  go_split_ands
  refine (ser_cut ⟨kd, n, s, A, ln, lc, l, B, tn, tc, t⟩ _ (HV.out _ (by assumption))).mono ?_
  rintro e w5 ⟨A5, c5, rfl, o5, g5⟩
  have g05 := World.grownBy.trans (a := w0) (by assumption) g5
  first | (refine hK.out _ _ ?_ (fun hHeld => ?_)) | (go_wp2_with fail; refine hK.out _ _ ?_ (fun hHeld => ?_))
  · (try dsimp only); (go_split_ands; (first | (exact HS.out _ (by assumption)) | (exact HS.out _ (grown_dr (by assumption))) | (exact HS.out _ (grown_al (by assumption))) | (exact HS.out _ (grown_dr (grown_al (by assumption))))))
  clear hK K
  refine wpAnyH_ready (rs := [22]) (by kernel_rfl) (by simp) ?_
  refine AllReadyH.cons (o := _) rfl (fun K hK => ?_) AllReadyH.nil
  go_simp
  go_split_ands
  refine (ser_texts t _ A5 c5 _ (HB.out _ (by assumption)) o5).mono ?_
  rintro e w6 ⟨rfl, g6⟩
  have g06 := World.grownBy.trans (a := w0) (by assumption) g6
  first | (refine hK.out _ _ ?_ (fun hHeld => ?_)) | (go_wp2_with fail; refine hK.out _ _ ?_ (fun hHeld => ?_))
  · (try dsimp only); (go_split_ands; (first | (exact HS.out _ (by assumption)) | (exact HS.out _ (grown_dr (by assumption))) | (exact HS.out _ (grown_al (by assumption))) | (exact HS.out _ (grown_dr (grown_al (by assumption))))))
  clear hK K
  refine wpAnyH_ready (rs := [23]) (by kernel_rfl) (by simp) ?_
  refine AllReadyH.cons (o := _) rfl (fun K hK => ?_) AllReadyH.nil
  go_simp
  first | (refine hK.out _ _ ?_ (fun hHeld => ?_)) | (go_wp2_with fail; refine hK.out _ _ ?_ (fun hHeld => ?_))
  · (try dsimp only); (go_split_ands; (first | (exact HS.out _ (by assumption)) | (exact HS.out _ (grown_dr (by assumption))) | (exact HS.out _ (grown_al (by assumption))) | (exact HS.out _ (grown_dr (grown_al (by assumption))))))
  clear hK K
  refine wpAnyH_take (i := 27) (oi := _) (v := ?_) rfl (by kernel_rfl) (by kernel_rfl) (by kernel_rfl) (fun _ _ _ h => h) (Or.inl ⟨by rfl, ?_⟩) (by assumption) ?_
  rotate_left 1
  · (intro w hSw; (try dsimp only at hSw); go_simp; first | done | with_reducible rfl)
  try simp only [Act.put]
  refine wpAnyH_ready (rs := [28]) (by kernel_rfl) (by simp) ?_
  refine AllReadyH.cons (o := _) rfl (fun K hK => ?_) AllReadyH.nil
  go_simp
  first | (refine hK.out _ _ ?_ (fun hHeld => ?_)) | (go_wp2_with fail; refine hK.out _ _ ?_ (fun hHeld => ?_))
  · (try dsimp only); (go_split_ands; (first | (exact HS.out _ (by assumption)) | (exact HS.out _ (grown_dr (by assumption))) | (exact HS.out _ (grown_al (by assumption))) | (exact HS.out _ (grown_dr (grown_al (by assumption))))))
  clear hK K
  refine wpAnyH_take (i := 29) (oi := _) (v := ?_) rfl (by kernel_rfl) (by kernel_rfl) (by kernel_rfl) (fun _ _ _ h => h) (Or.inl ⟨by rfl, ?_⟩) (by assumption) ?_
  rotate_left 1
  · (intro w hSw; (try dsimp only at hSw); go_simp; first | done | with_reducible rfl)
  try simp only [Act.put]
  refine wpAnyH_done (by kernel_rfl) ?_ _
  refine NoPanic.normal ?_
  have hX : serL serI (l.take 20) = Val.ser ⟨kd, n, s, A, ln, lc, l, B, tn, tc, t⟩ := by
    unfold Val.ser
    have : kd % 4 = 2 := Hk4.out
    simp only [this]
  have hXp := Val.ser_pos (v := ⟨kd, n, s, A, ln, lc, l, B, tn, tc, t⟩)
  have hXl := Val.ser_len Hhv.out
  have hXt := fun m => Val.trunc Hhv.out m
  simp only [Hk4.out] at hXt
  rw [← hX] at hXp hXl hXt
  clear hX
  generalize serL serI (l.take 20) = X at *
  go_split_ands
  have hX0 : ((X.length : Int) == 0) = false := by rw [beq_eq_false_iff_ne]; omega
  have HXt := Lib.hid hXt
  clear hXt
  have q0 : (0 : Int) ≤ (q : Int) := by omega
  have q1 : (q : Int) ≤ 65535 := by have := Hq.out; omega
  have m0 : (0 : Int) ≤ (q : Int) % (X.length : Int) := Int.emod_nonneg _ (by omega)
  have m1 : (q : Int) % (X.length : Int) < (X.length : Int) := Int.emod_lt_of_pos _ (by omega)
  have xp : (0 : Int) < (X.length : Int) := by omega
  have xl : (X.length : Int) ≤ 10000 := by omega
  have tm : (q : Int).tmod (X.length : Int) = (q : Int) % (X.length : Int) := Int.tmod_eq_emod_of_nonneg q0
  have z0 : (0 : Int) ≤ (X.length : Int) - 1 - (q : Int) % (X.length : Int) := by omega
  have z1 : (X.length : Int) - 1 - (q : Int) % (X.length : Int) ≤ (X.length : Int) := by omega
  go_wp2_with fail
  refine (new_k _ _).mono ?_
  rintro e w7 ⟨rfl, r7, g7, l7⟩
  have hz := HXt.out (X.length - 1 - q % X.length) (by omega)
  have gT := (grown_al (o := .cells #[.string ⟨(serI n).toArray⟩, .string ⟨(serT (s.take 100)).toArray⟩, .string ⟨(X).toArray⟩, .string ⟨(serL serT (cutL t)).toArray⟩] 9) g06).trans g7
  have hbl : (w6.alloc (.cells #[.string ⟨(serI n).toArray⟩, .string ⟨(serT (s.take 100)).toArray⟩, .string ⟨(X).toArray⟩, .string ⟨(serL serT (cutL t)).toArray⟩] 9)).heap.size = w6.heap.size + 1 := by simp
  rw [hbl] at r7 l7
  have s6 : w0.heap.size ≤ w6.heap.size := g06.size
  have b6 : n1 < w0.heap.size := lt1
  have n6 := Hb6.out
  obtain ⟨x0, x1, x2, x3, x4, _⟩ := HS.out _ gT
  have hd := decodes_k w7 (HB.out _ gT) (w6.heap.size + 1) (by omega) _ r7 (fun l e => by injection e with e; subst e; rw [List.length_take]; omega) 2 (by omega)
  rw [hz.1, hz.2] at hd
  have Hd := Lib.hid hd
  clear hd hz HXt
  go_wp2_with fail
  refine Hd.out.mono ?_
  rintro e w8 ⟨rfl, r8, g8⟩
  go_wp2_with fail
  refine (Bad_k _ _ _ r8).mono ?_
  rintro e w' ⟨rfl, rfl⟩
  have wlt : w.heap.size ≤ w6.heap.size := by have := Hn1.out; omega
  have gAll := Lib.hid ((gw0.out.trans gT).andThen g8 (fun j hj => .inl (by injection hj with hj; omega)))
  have hB8 : Hid (Base w8) := Lib.hid ((HB.out _ gT).grown g8 (fun k hk => by injection hk with hk; omega))
  generalize hbn : w6.heap.size + 1 = bn at *
  have hbn6 : 6 ≤ bn := by omega
  have hbw : w.heap.size ≤ bn := by omega
  clear hbn
  go_wp2_with fail
  go_loopw [8] (fun i wr => ∃ k : Nat, k ≤ 4 ∧ i = .int .i64 k ∧ Rd wr bn none ∧ w8.grownBy wr (some bn)) (fun i _ => 4 - (intOf i).toNat)
  case atStart => exact ⟨0, by omega, rfl, r8, World.grownBy.refl _ _⟩
  case round =>
    obtain ⟨k, hk, rfl, hr, hg⟩ := hrel
    by_cases hlt : k < 4
    · have hbr := Lib.hid (hB8.out.grown hg (fun k hk => by injection hk with hk; omega))
      have hd := decodes_k wr hbr.out bn hbn6 none hr (fun l e => by cases e) k hlt
      rw [(none_zero k).1, (none_zero k).2] at hd
      have Hd := Lib.hid hd
      clear hd
      go_wp2_with fail
      refine Hd.out.mono ?_
      rintro e w9 ⟨rfl, r9, g9⟩
      go_wp2_with fail
      refine (Bad_k _ _ _ r9).mono ?_
      rintro e w' ⟨rfl, rfl⟩
      go_wp2_with fail
      refine (Left_k _ _ _ r9).mono ?_
      rintro e w' ⟨rfl, rfl⟩
      go_wp2_with fail
      exact ⟨⟨k + 1, by omega, by go_num, r9, hg.trans g9⟩, by simp [intOf]; omega⟩
    · go_wp2_with fail
      go_ret
      exact ⟨rfl, gAll.out.andThen hg (fun j hj => .inl (by injection hj with hj; omega))⟩
set_option maxRecDepth 100000 in
set_option maxHeartbeats 4000000 in
theorem trunc_walk3 (v : Val) (hk4 : v.kd % 4 = 3) (q : Nat) (hq : q ≤ 65535) (w : World) (hb : Base w) (hv : v.ok w) : Calls Tryd.prog 7 #[.agg v.cells, .int .u16 q] w fun e w' => e = .returned (.bool true) ∧ w.grownBy w' none := by
  have hb6 := hb.size
  obtain ⟨kd, n, s, A, ln, lc, l, B, tn, tc, t⟩ := v
  simp only [Val.cells]
  go_enter Tryd.func7, Tryd.ntmps7
  have a0 := World.grownBy_alloc w (.cells #[.int .u8 (kd : Int), .int .i64 n, .string ⟨s.toArray⟩, .slice A ln lc, .slice B tn tc] 45) none
  have Hs := Lib.hid (fun w1 (g : (w.alloc (.cells #[.int .u8 (kd : Int), .int .i64 n, .string ⟨s.toArray⟩, .slice A ln lc, .slice B tn tc] 45)).grownBy w1 none) => sane w1 ((hb.none_ a0).none_ g))
  have hbox : (w.alloc (.cells #[.int .u8 (kd : Int), .int .i64 n, .string ⟨s.toArray⟩, .slice A ln lc, .slice B tn tc] 45)).heap[w.heap.size]? = some (.cells #[.int .u8 (kd : Int), .int .i64 n, .string ⟨s.toArray⟩, .slice A ln lc, .slice B tn tc] 45 (0, 0)) := heap_alloc_new w _
  have lt1 : w.heap.size < (w.alloc (.cells #[.int .u8 (kd : Int), .int .i64 n, .string ⟨s.toArray⟩, .slice A ln lc, .slice B tn tc] 45)).heap.size := by simp
  go_wp2_with fail
  refine (Hs.out _ (World.grownBy.refl _ _)).mono ?_
  rintro e w0 ⟨rfl, g1⟩
  clear Hs
  have hbw := hb.none_ (a0.trans g1)
  have hvw := hv.kept (a0.trans g1)
  have gw0 := Lib.hid (a0.trans g1)
  have hbox := (g1.block _ lt1 (by simp)).trans hbox
  have lt1 := Nat.lt_of_lt_of_le lt1 g1.size
  clear g1 a0
  generalize hn1 : w.heap.size = n1 at *
  have HB : Hid (∀ w', w0.grownBy w' none → Base w') := Lib.hid (fun w' g => hbw.none_ g)
  have HV : Hid (∀ w', w0.grownBy w' none → Val.ok ⟨kd, n, s, A, ln, lc, l, B, tn, tc, t⟩ w') := Lib.hid (fun w' g => hvw.kept g)
  have HS : Hid (∀ w', w0.grownBy w' none → w'.cell? ⟨n1, 0, none⟩ = some (.int .u8 (kd : Int)) ∧ w'.cell? ⟨n1, 1, none⟩ = some (.int .i64 n) ∧ w'.cell? ⟨n1, 2, none⟩ = some (.string ⟨s.toArray⟩) ∧
      w'.cell? ⟨n1, 3, none⟩ = some (.slice A ln lc) ∧ w'.cell? ⟨n1, 4, none⟩ = some (.slice B tn tc) ∧ w0.grownBy w' none) := by
    refine Lib.hid (fun w' g => ?_)
    have hblk := (g.block n1 lt1 (by simp)).trans hbox
    refine ⟨?_, ?_, ?_, ?_, ?_, g⟩ <;> simp [World.cell?, hblk]
  have g1 : w0.grownBy w0 none := World.grownBy.refl _ _
  obtain ⟨d0, d1, d2, d3, d4, _⟩ := HS.out w0 g1
  have Hb0 := Lib.hid hbox
  have e1 : (0 : Int) ≤ min (s.length : Int) 100 := by omega
  have e2 : min (s.length : Int) 100 ≤ (s.length : Int) := by omega
  have e3 : (0 : Int) ≤ min (ln : Int) 20 := by omega
  have e4 : min (ln : Int) 20 ≤ (lc : Int) := by have := hv.lle; simp only at this; omega
  have hk : (kd : Int).tmod 4 = 3 := by
    rw [Int.tmod_eq_emod_of_nonneg (by omega)]
    have : kd % 4 = 3 := hk4
    omega
  have hk' : (kd : Int) % 4 = 3 := by
    have : kd % 4 = 3 := hk4
    omega
  have Hk4 := Lib.hid hk4
  clear hk4
  have e5 : (0 : Int) ≤ (kd : Int) % 4 := by omega
  have e6 : (kd : Int) % 4 < 4 := by omega
  have e7 : (kd : Int) ≤ 255 := by have := hv.k; simp only at this; omega
  have e8 : s.length ≤ 9223372036854775807 := hv.sl
  have e9 : ln ≤ lc := hv.lle
  have e10 : lc ≤ 9223372036854775807 := hv.lcm
  have Hq := Lib.hid hq
  have Hhv := Lib.hid hv
  have Hb6 := Lib.hid hb6
  have Hn1 := Lib.hid hn1
  clear hbox hbw hvw hb hq hv hb6 hn1
  go_wp2_with fail
  refine wp_region_noPanic ?_
  refine wp_region_held_drew (S := (fun w' => w'.cell? ⟨n1, 0, none⟩ = some (.int .u8 (kd : Int)) ∧ w'.cell? ⟨n1, 1, none⟩ = some (.int .i64 n) ∧ w'.cell? ⟨n1, 2, none⟩ = some (.string ⟨s.toArray⟩) ∧
        w'.cell? ⟨n1, 3, none⟩ = some (.slice A ln lc) ∧ w'.cell? ⟨n1, 4, none⟩ = some (.slice B tn tc) ∧ w0.grownBy w' none)) (by kernel_rfl) ?_ (fun hHeld => ?_)
  · (try dsimp only); (go_split_ands; (first | (exact HS.out _ (by assumption)) | (exact HS.out _ (grown_dr (by assumption))) | (exact HS.out _ (grown_al (by assumption))) | (exact HS.out _ (grown_dr (grown_al (by assumption))))))
  refine wpAnyH_take (i := 0) (oi := _) (v := ?_) rfl (by kernel_rfl) (by kernel_rfl) (by kernel_rfl) (fun _ _ _ h => h) (Or.inl ⟨by rfl, ?_⟩) (by assumption) ?_
  rotate_left 1
  · (intro w hSw; (try dsimp only at hSw); go_simp; first | done | with_reducible rfl)
  try simp only [Act.put]
  refine wpAnyH_take (i := 1) (oi := _) (v := ?_) rfl (by kernel_rfl) (by kernel_rfl) (by kernel_rfl) (fun _ _ _ h => h) (Or.inl ⟨by rfl, ?_⟩) (by assumption) ?_
  rotate_left 1
  · (intro w hSw; (try dsimp only at hSw); go_simp; first | done | with_reducible rfl)
  try simp only [Act.put]
  refine wpAnyH_take (i := 3) (oi := _) (v := ?_) rfl (by kernel_rfl) (by kernel_rfl) (by kernel_rfl) (fun _ _ _ h => h) (Or.inl ⟨by rfl, ?_⟩) (by assumption) ?_
  rotate_left 1
  · (intro w hSw; (try dsimp only at hSw); go_simp; first | done | with_reducible rfl)
  try simp only [Act.put]
  refine wpAnyH_take (i := 4) (oi := _) (v := ?_) rfl (by kernel_rfl) (by kernel_rfl) (by kernel_rfl) (fun _ _ _ h => h) (Or.inl ⟨by rfl, ?_⟩) (by assumption) ?_
  rotate_left 1
  · (intro w hSw; (try dsimp only at hSw); go_simp; first | done | with_reducible rfl)
  try simp only [Act.put]
  refine wpAnyH_take (i := 5) (oi := _) (v := ?_) rfl (by kernel_rfl) (by kernel_rfl) (by kernel_rfl) (fun _ _ _ h => h) (Or.inl ⟨by rfl, ?_⟩) (by assumption) ?_
  rotate_left 1
  · (intro w hSw; (try dsimp only at hSw); go_simp; first | done | with_reducible rfl)
  try simp only [Act.put]
  refine wpAnyH_take (i := 6) (oi := _) (v := ?_) rfl (by kernel_rfl) (by kernel_rfl) (by kernel_rfl) (fun _ _ _ h => h) (Or.inl ⟨by rfl, ?_⟩) (by assumption) ?_
  rotate_left 1
  · (intro w hSw; (try dsimp only at hSw); go_simp; first | done | with_reducible rfl)
  try simp only [Act.put]
  refine wpAnyH_take (i := 7) (oi := _) (v := ?_) rfl (by kernel_rfl) (by kernel_rfl) (by kernel_rfl) (fun _ _ _ h => h) (Or.inl ⟨by rfl, ?_⟩) (by assumption) ?_
  rotate_left 1
  · (intro w hSw; (try dsimp only at hSw); go_simp; first | done | with_reducible rfl)
  try simp only [Act.put]
  refine wpAnyH_take (i := 8) (oi := _) (v := ?_) rfl (by kernel_rfl) (by kernel_rfl) (by kernel_rfl) (fun _ _ _ h => h) (Or.inl ⟨by rfl, ?_⟩) (by assumption) ?_
  rotate_left 1
  · (intro w hSw; (try dsimp only at hSw); go_simp; first | done | with_reducible rfl)
  try simp only [Act.put]
  refine wpAnyH_take (i := 9) (oi := _) (v := ?_) rfl (by kernel_rfl) (by kernel_rfl) (by kernel_rfl) (fun _ _ _ h => h) (Or.inl ⟨by rfl, ?_⟩) (by assumption) ?_
  rotate_left 1
  · (intro w hSw; (try dsimp only at hSw); go_simp; first | done | with_reducible rfl)
  try simp only [Act.put]
  refine wpAnyH_take (i := 11) (oi := _) (v := ?_) rfl (by kernel_rfl) (by kernel_rfl) (by kernel_rfl) (fun _ _ _ h => h) (Or.inl ⟨by rfl, ?_⟩) (by assumption) ?_
  rotate_left 1
  · (intro w hSw; (try dsimp only at hSw); go_simp; first | done | with_reducible rfl)
  try simp only [Act.put]
  refine wpAnyH_take (i := 12) (oi := _) (v := ?_) rfl (by kernel_rfl) (by kernel_rfl) (by kernel_rfl) (fun _ _ _ h => h) (Or.inl ⟨by rfl, ?_⟩) (by assumption) ?_
  rotate_left 1
  · (intro w hSw; (try dsimp only at hSw); go_simp; first | done | with_reducible rfl)
  try simp only [Act.put]
  refine wpAnyH_take (i := 13) (oi := _) (v := ?_) rfl (by kernel_rfl) (by kernel_rfl) (by kernel_rfl) (fun _ _ _ h => h) (Or.inl ⟨by rfl, ?_⟩) (by assumption) ?_
  rotate_left 1
  · (intro w hSw; (try dsimp only at hSw); go_simp; first | done | with_reducible rfl)
  try simp only [Act.put]
  refine wpAnyH_take (i := 14) (oi := _) (v := ?_) rfl (by kernel_rfl) (by kernel_rfl) (by kernel_rfl) (fun _ _ _ h => h) (Or.inl ⟨by rfl, ?_⟩) (by assumption) ?_
  rotate_left 1
  · (intro w hSw; (try dsimp only at hSw); go_simp; first | done | with_reducible rfl)
  try simp only [Act.put]
  refine wpAnyH_take (i := 15) (oi := _) (v := ?_) rfl (by kernel_rfl) (by kernel_rfl) (by kernel_rfl) (fun _ _ _ h => h) (Or.inl ⟨by rfl, ?_⟩) (by assumption) ?_
  rotate_left 1
  · (intro w hSw; (try dsimp only at hSw); go_simp; first | done | with_reducible rfl)
  try simp only [Act.put]
  refine wpAnyH_take (i := 16) (oi := _) (v := ?_) rfl (by kernel_rfl) (by kernel_rfl) (by kernel_rfl) (fun _ _ _ h => h) (Or.inl ⟨by rfl, ?_⟩) (by assumption) ?_
  rotate_left 1
  · (intro w hSw; (try dsimp only at hSw); go_simp; first | done | with_reducible rfl)
  try simp only [Act.put]
  refine wpAnyH_take (i := 17) (oi := _) (v := ?_) rfl (by kernel_rfl) (by kernel_rfl) (by kernel_rfl) (fun _ _ _ h => h) (Or.inl ⟨by rfl, ?_⟩) (by assumption) ?_
  rotate_left 1
  · (intro w hSw; (try dsimp only at hSw); go_simp; first | done | with_reducible rfl)
  try simp only [Act.put]
  refine wpAnyH_take (i := 19) (oi := _) (v := ?_) rfl (by kernel_rfl) (by kernel_rfl) (by kernel_rfl) (fun _ _ _ h => h) (Or.inl ⟨by rfl, ?_⟩) (by assumption) ?_
  rotate_left 1
  · (intro w hSw; (try dsimp only at hSw); go_simp; first | done | with_reducible rfl)
  try simp only [Act.put]
  refine wpAnyH_take (i := 20) (oi := _) (v := ?_) rfl (by kernel_rfl) (by kernel_rfl) (by kernel_rfl) (fun _ _ _ h => h) (Or.inl ⟨by rfl, ?_⟩) (by assumption) ?_
  rotate_left 1
  · (intro w hSw; (try dsimp only at hSw); go_simp; first | done | with_reducible rfl)
  try simp only [Act.put]
  refine wpAnyH_take (i := 24) (oi := _) (v := ?_) rfl (by kernel_rfl) (by kernel_rfl) (by kernel_rfl) (fun _ _ _ h => h) (Or.inl ⟨by rfl, ?_⟩) (by assumption) ?_
  rotate_left 1
  · (intro w hSw; (try dsimp only at hSw); go_simp; first | done | with_reducible rfl)
  try simp only [Act.put]
  refine wpAnyH_take (i := 25) (oi := _) (v := ?_) rfl (by kernel_rfl) (by kernel_rfl) (by kernel_rfl) (fun _ _ _ h => h) (Or.inl ⟨by rfl, ?_⟩) (by assumption) ?_
  rotate_left 1
  · (intro w hSw; (try dsimp only at hSw); go_simp; first | done | with_reducible rfl)
  try simp only [Act.put]
  refine wpAnyH_take (i := 26) (oi := _) (v := ?_) rfl (by kernel_rfl) (by kernel_rfl) (by kernel_rfl) (fun _ _ _ h => h) (Or.inl ⟨by rfl, ?_⟩) (by assumption) ?_
  rotate_left 1
  · (intro w hSw; (try dsimp only at hSw); go_simp; first | done | with_reducible rfl)
  try simp only [Act.put]
  refine wpAnyH_ready (rs := [2]) (by kernel_rfl) (by simp) ?_
  refine AllReadyH.cons (o := _) rfl (fun K hK => ?_) AllReadyH.nil
  go_simp
  go_split_ands
  refine (wInt n (HV.out _ g1).i _ (HB.out _ (by assumption))).mono ?_
  rintro e w2 ⟨rfl, g2⟩
  have g02 := World.grownBy.trans (a := w0) (by assumption) g2
  first | (refine hK.out _ _ ?_ (fun hHeld => ?_)) | (go_wp2_with fail; refine hK.out _ _ ?_ (fun hHeld => ?_))
  · (try dsimp only); (go_split_ands; (first | (exact HS.out _ (by assumption)) | (exact HS.out _ (grown_dr (by assumption))) | (exact HS.out _ (grown_al (by assumption))) | (exact HS.out _ (grown_dr (grown_al (by assumption))))))
  clear hK K
  refine wpAnyH_ready (rs := [10]) (by kernel_rfl) (by simp) ?_
  refine AllReadyH.cons (o := _) rfl (fun K hK => ?_) AllReadyH.nil
  go_simp
  go_split_ands
  refine (ser_text ⟨kd, n, s, A, ln, lc, l, B, tn, tc, t⟩ _ (HB.out _ (by assumption)) (HV.out _ (by assumption))).mono ?_
  rintro e w3 ⟨rfl, g3⟩
  have g03 := World.grownBy.trans (a := w0) (by assumption) g3
  first | (refine hK.out _ _ ?_ (fun hHeld => ?_)) | (go_wp2_with fail; refine hK.out _ _ ?_ (fun hHeld => ?_))
  · (try dsimp only); (go_split_ands; (first | (exact HS.out _ (by assumption)) | (exact HS.out _ (grown_dr (by assumption))) | (exact HS.out _ (grown_al (by assumption))) | (exact HS.out _ (grown_dr (grown_al (by assumption))))))
  clear hK K
  refine wpAnyH_ready (rs := [18]) (by kernel_rfl) (by simp) ?_
  refine AllReadyH.cons (o := _) rfl (fun K hK => ?_) AllReadyH.nil
  go_simp
  go_split_ands
  refine (ser_ints ⟨kd, n, s, A, ln, lc, l, B, tn, tc, t⟩ _ (HB.out _ (by assumption)) (HV.out _ (by assumption))).mono ?_
  rintro e w4 ⟨rfl, g4⟩
  have g04 := World.grownBy.trans (a := w0) (by assumption) g4
  first | (refine hK.out _ _ ?_ (fun hHeld => ?_)) | (go_wp2_with fail; refine hK.out _ _ ?_ (fun hHeld => ?_))
  · (try dsimp only); (go_split_ands; (first | (exact HS.out _ (by assumption)) | (exact HS.out _ (grown_dr (by assumption))) | (exact HS.out _ (grown_al (by assumption))) | (exact HS.out _ (grown_dr (grown_al (by assumption))))))
  clear hK K
  refine wpAnyH_ready (rs := [21]) (by kernel_rfl) (by simp) ?_
  refine AllReadyH.cons (o := _) rfl (fun K hK => ?_) AllReadyH.nil
  go_simp
  go_split_ands
  refine (ser_cut ⟨kd, n, s, A, ln, lc, l, B, tn, tc, t⟩ _ (HV.out _ (by assumption))).mono ?_
  rintro e w5 ⟨A5, c5, rfl, o5, g5⟩
  have g05 := World.grownBy.trans (a := w0) (by assumption) g5
  first | (refine hK.out _ _ ?_ (fun hHeld => ?_)) | (go_wp2_with fail; refine hK.out _ _ ?_ (fun hHeld => ?_))
  · (try dsimp only); (go_split_ands; (first | (exact HS.out _ (by assumption)) | (exact HS.out _ (grown_dr (by assumption))) | (exact HS.out _ (grown_al (by assumption))) | (exact HS.out _ (grown_dr (grown_al (by assumption))))))
  clear hK K
  refine wpAnyH_ready (rs := [22]) (by kernel_rfl) (by simp) ?_
  refine AllReadyH.cons (o := _) rfl (fun K hK => ?_) AllReadyH.nil
  go_simp
  go_split_ands
  refine (ser_texts t _ A5 c5 _ (HB.out _ (by assumption)) o5).mono ?_
  rintro e w6 ⟨rfl, g6⟩
  have g06 := World.grownBy.trans (a := w0) (by assumption) g6
  first | (refine hK.out _ _ ?_ (fun hHeld => ?_)) | (go_wp2_with fail; refine hK.out _ _ ?_ (fun hHeld => ?_))
  · (try dsimp only); (go_split_ands; (first | (exact HS.out _ (by assumption)) | (exact HS.out _ (grown_dr (by assumption))) | (exact HS.out _ (grown_al (by assumption))) | (exact HS.out _ (grown_dr (grown_al (by assumption))))))
  clear hK K
  refine wpAnyH_ready (rs := [23]) (by kernel_rfl) (by simp) ?_
  refine AllReadyH.cons (o := _) rfl (fun K hK => ?_) AllReadyH.nil
  go_simp
  first | (refine hK.out _ _ ?_ (fun hHeld => ?_)) | (go_wp2_with fail; refine hK.out _ _ ?_ (fun hHeld => ?_))
  · (try dsimp only); (go_split_ands; (first | (exact HS.out _ (by assumption)) | (exact HS.out _ (grown_dr (by assumption))) | (exact HS.out _ (grown_al (by assumption))) | (exact HS.out _ (grown_dr (grown_al (by assumption))))))
  clear hK K
  refine wpAnyH_take (i := 27) (oi := _) (v := ?_) rfl (by kernel_rfl) (by kernel_rfl) (by kernel_rfl) (fun _ _ _ h => h) (Or.inl ⟨by rfl, ?_⟩) (by assumption) ?_
  rotate_left 1
  · (intro w hSw; (try dsimp only at hSw); go_simp; first | done | with_reducible rfl)
  try simp only [Act.put]
  refine wpAnyH_ready (rs := [28]) (by kernel_rfl) (by simp) ?_
  refine AllReadyH.cons (o := _) rfl (fun K hK => ?_) AllReadyH.nil
  go_simp
  first | (refine hK.out _ _ ?_ (fun hHeld => ?_)) | (go_wp2_with fail; refine hK.out _ _ ?_ (fun hHeld => ?_))
  · (try dsimp only); (go_split_ands; (first | (exact HS.out _ (by assumption)) | (exact HS.out _ (grown_dr (by assumption))) | (exact HS.out _ (grown_al (by assumption))) | (exact HS.out _ (grown_dr (grown_al (by assumption))))))
  clear hK K
  refine wpAnyH_take (i := 29) (oi := _) (v := ?_) rfl (by kernel_rfl) (by kernel_rfl) (by kernel_rfl) (fun _ _ _ h => h) (Or.inl ⟨by rfl, ?_⟩) (by assumption) ?_
  rotate_left 1
  · (intro w hSw; (try dsimp only at hSw); go_simp; first | done | with_reducible rfl)
  try simp only [Act.put]
  refine wpAnyH_done (by kernel_rfl) ?_ _
  refine NoPanic.normal ?_
  have hX : serL serT (cutL t) = Val.ser ⟨kd, n, s, A, ln, lc, l, B, tn, tc, t⟩ := by
    unfold Val.ser
    have : kd % 4 = 3 := Hk4.out
    simp only [this]
  have hXp := Val.ser_pos (v := ⟨kd, n, s, A, ln, lc, l, B, tn, tc, t⟩)
  have hXl := Val.ser_len Hhv.out
  have hXt := fun m => Val.trunc Hhv.out m
  simp only [Hk4.out] at hXt
  rw [← hX] at hXp hXl hXt
  clear hX
  generalize serL serT (cutL t) = X at *
  go_split_ands
  have hX0 : ((X.length : Int) == 0) = false := by rw [beq_eq_false_iff_ne]; omega
  have HXt := Lib.hid hXt
  clear hXt
  have q0 : (0 : Int) ≤ (q : Int) := by omega
  have q1 : (q : Int) ≤ 65535 := by have := Hq.out; omega
  have m0 : (0 : Int) ≤ (q : Int) % (X.length : Int) := Int.emod_nonneg _ (by omega)
  have m1 : (q : Int) % (X.length : Int) < (X.length : Int) := Int.emod_lt_of_pos _ (by omega)
  have xp : (0 : Int) < (X.length : Int) := by omega
  have xl : (X.length : Int) ≤ 10000 := by omega
  have tm : (q : Int).tmod (X.length : Int) = (q : Int) % (X.length : Int) := Int.tmod_eq_emod_of_nonneg q0
  have z0 : (0 : Int) ≤ (X.length : Int) - 1 - (q : Int) % (X.length : Int) := by omega
  have z1 : (X.length : Int) - 1 - (q : Int) % (X.length : Int) ≤ (X.length : Int) := by omega
  go_wp2_with fail
  refine (new_k _ _).mono ?_
  rintro e w7 ⟨rfl, r7, g7, l7⟩
  have hz := HXt.out (X.length - 1 - q % X.length) (by omega)
  have gT := (grown_al (o := .cells #[.string ⟨(serI n).toArray⟩, .string ⟨(serT (s.take 100)).toArray⟩, .string ⟨(serL serI (l.take 20)).toArray⟩, .string ⟨(X).toArray⟩] 9) g06).trans g7
  have hbl : (w6.alloc (.cells #[.string ⟨(serI n).toArray⟩, .string ⟨(serT (s.take 100)).toArray⟩, .string ⟨(serL serI (l.take 20)).toArray⟩, .string ⟨(X).toArray⟩] 9)).heap.size = w6.heap.size + 1 := by simp
  rw [hbl] at r7 l7
  have s6 : w0.heap.size ≤ w6.heap.size := g06.size
  have b6 : n1 < w0.heap.size := lt1
  have n6 := Hb6.out
  obtain ⟨x0, x1, x2, x3, x4, _⟩ := HS.out _ gT
  have hd := decodes_k w7 (HB.out _ gT) (w6.heap.size + 1) (by omega) _ r7 (fun l e => by injection e with e; subst e; rw [List.length_take]; omega) 3 (by omega)
  rw [hz.1, hz.2] at hd
  have Hd := Lib.hid hd
  clear hd hz HXt
  go_wp2_with fail
  refine Hd.out.mono ?_
  rintro e w8 ⟨rfl, r8, g8⟩
  go_wp2_with fail
  refine (Bad_k _ _ _ r8).mono ?_
  rintro e w' ⟨rfl, rfl⟩
  have wlt : w.heap.size ≤ w6.heap.size := by have := Hn1.out; omega
  have gAll := Lib.hid ((gw0.out.trans gT).andThen g8 (fun j hj => .inl (by injection hj with hj; omega)))
  have hB8 : Hid (Base w8) := Lib.hid ((HB.out _ gT).grown g8 (fun k hk => by injection hk with hk; omega))
  generalize hbn : w6.heap.size + 1 = bn at *
  have hbn6 : 6 ≤ bn := by omega
  have hbw : w.heap.size ≤ bn := by omega
  clear hbn
  go_wp2_with fail
  go_loopw [8] (fun i wr => ∃ k : Nat, k ≤ 4 ∧ i = .int .i64 k ∧ Rd wr bn none ∧ w8.grownBy wr (some bn)) (fun i _ => 4 - (intOf i).toNat)
  case atStart => exact ⟨0, by omega, rfl, r8, World.grownBy.refl _ _⟩
  case round =>
    obtain ⟨k, hk, rfl, hr, hg⟩ := hrel
    by_cases hlt : k < 4
    · have hbr := Lib.hid (hB8.out.grown hg (fun k hk => by injection hk with hk; omega))
      have hd := decodes_k wr hbr.out bn hbn6 none hr (fun l e => by cases e) k hlt
      rw [(none_zero k).1, (none_zero k).2] at hd
      have Hd := Lib.hid hd
      clear hd
      go_wp2_with fail
      refine Hd.out.mono ?_
      rintro e w9 ⟨rfl, r9, g9⟩
      go_wp2_with fail
      refine (Bad_k _ _ _ r9).mono ?_
      rintro e w' ⟨rfl, rfl⟩
      go_wp2_with fail
      refine (Left_k _ _ _ r9).mono ?_
      rintro e w' ⟨rfl, rfl⟩
      go_wp2_with fail
      exact ⟨⟨k + 1, by omega, by go_num, r9, hg.trans g9⟩, by simp [intOf]; omega⟩
    · go_wp2_with fail
      go_ret
      exact ⟨rfl, gAll.out.andThen hg (fun j hj => .inl (by injection hj with hj; omega))⟩

theorem trunc_walk (v : Val) (q : Nat) (hq : q ≤ 65535) (w : World) (hb : Base w) (hv : v.ok w) : Calls Tryd.prog 7 #[.agg v.cells, .int .u16 q] w fun e w' => e = .returned (.bool true) ∧ w.grownBy w' none := by
  have hlt : v.kd % 4 < 4 := by omega
  match hk : v.kd % 4, hlt with
  | 0, _ => exact trunc_walk0 v hk q hq w hb hv
  | 1, _ => exact trunc_walk1 v hk q hq w hb hv
  | 2, _ => exact trunc_walk2 v hk q hq w hb hv
  | 3, _ => exact trunc_walk3 v hk q hq w hb hv
end Go.Proofs.YtmohcanfkcopiaaDoor
