/-
  The law RatioNext.
-/
import Derived.Test.YtekhdcfnpgkodaaDoorDag
import Derived.Deep.DeepCutAuto
namespace Go.Proofs.YtekhdcfnpgkodaaDoor
open Go.RowKit
/-- what a way's array holds behind k rounds -/
def gv (n d : Int) (k : Nat) (j : Nat) : Int := if 1 ≤ j ∧ j ≤ k then rndQ j n d else 0
theorem gv_next (n d : Int) (k : Nat) : (fun j => if j = k + 1 then rndQ ((k : Int) + 1) n d else gv n d k j) = gv n d (k + 1) := by
  funext j
  unfold gv
  by_cases h : j = k + 1
  · subst h
    rw [if_pos rfl, if_pos ⟨by omega, by omega⟩]
    simp
  · rw [if_neg h]
    by_cases h2 : 1 ≤ j ∧ j ≤ k
    · rw [if_pos h2, if_pos (by omega)]
    · rw [if_neg h2, if_neg (by omega)]
theorem rnd_vals {n d : Int} (h : rightB n d = true) (k : Nat) (hk : k < 4) : rndV n d ((k : Int) + 1) = rndQ ((k : Int) + 1) n d ∧ rndE n d ((k : Int) + 1) = 0 := by
  have h1 : (1 : Int) ≤ (k : Int) + 1 := by omega
  have h2 : (k : Int) + 1 ≤ 4 := by omega
  unfold rndV rndE
  simp [h, h1, h2]
/-- what stands in the law's world behind k rounds -/
structure NextIn (w : World) (p q z : Nat) (n d m c : Int) (k : Nat) : Prop where
  a : R2 w p n d
  b : R2 w q m c
  l : R2 w z (-n) d
  g : A5 w (z + 1) (gv n d k)
  h : A5 w (z + 2) (gv (-n) d k)
theorem NextIn.kept {w w' : World} {p q z : Nat} {n d m c : Int} {k : Nat} (h : NextIn w p q z n d m c k) (g : w.grownBy w' none) : NextIn w' p q z n d m c k :=
  ⟨h.a.kept g, h.b.kept g, h.l.kept g, h.g.kept g, h.h.kept g⟩
theorem NextIn.next {w : World} {p q z : Nat} {n d m c : Int} {k : Nat} (h : NextIn w p q z n d m c k) (hp : p < z) (hq : q < z) (hk : k < 4) :
    NextIn ((w.setCell ⟨z + 1, k + 1, none⟩ (.int .i64 (rndQ ((k : Int) + 1) n d))).setCell ⟨z + 2, k + 1, none⟩ (.int .i64 (rndQ ((k : Int) + 1) (-n) d))) p q z n d m c (k + 1) := by
  refine ⟨(h.a.far (by omega)).far (by omega), (h.b.far (by omega)).far (by omega), (h.l.far (by omega)).far (by omega), ?_, ?_⟩
  · have := (h.g.set (k + 1) (by omega) (rndQ ((k : Int) + 1) n d)).far (o := z + 2) (i := k + 1) (v := .int .i64 (rndQ ((k : Int) + 1) (-n) d)) (by omega)
    rw [gv_next] at this
    exact this
  · have := (h.h.far (o := z + 1) (i := k + 1) (v := .int .i64 (rndQ ((k : Int) + 1) n d)) (by omega)).set (k + 1) (by omega) (rndQ ((k : Int) + 1) (-n) d)
    rw [gv_next] at this
    exact this
theorem gv_zero (n d : Int) : gv n d 0 = fun _ => 0 := by
  funext j; unfold gv; rw [if_neg (by omega)]
theorem box_next (w : World) (p q : Nat) (n d m c : Int) (ha : R2 w p n d) (hb : R2 w q m c) : ∃ wl, wl = ((w.alloc (.cells #[.int .i64 (-n), .int .i64 d] 24)).alloc (.cells #[.int .i64 0, .int .i64 0, .int .i64 0, .int .i64 0, .int .i64 0] 52)).alloc (.cells #[.int .i64 0, .int .i64 0, .int .i64 0, .int .i64 0, .int .i64 0] 52) ∧
    NextIn wl p q w.heap.size n d m c 0 ∧ w.grownBy wl none := by
  have g1 := World.grownBy_alloc w (.cells #[.int .i64 (-n), .int .i64 d] 24) none
  have g2 := World.grownBy_alloc (w.alloc (.cells #[.int .i64 (-n), .int .i64 d] 24)) (.cells #[.int .i64 0, .int .i64 0, .int .i64 0, .int .i64 0, .int .i64 0] 52) none
  have g3 := World.grownBy_alloc ((w.alloc (.cells #[.int .i64 (-n), .int .i64 d] 24)).alloc (.cells #[.int .i64 0, .int .i64 0, .int .i64 0, .int .i64 0, .int .i64 0] 52)) (.cells #[.int .i64 0, .int .i64 0, .int .i64 0, .int .i64 0, .int .i64 0] 52) none
  have r1 := R2.new w (-n) d
  have r2 := A5.new (w.alloc (.cells #[.int .i64 (-n), .int .i64 d] 24))
  have r3 := A5.new ((w.alloc (.cells #[.int .i64 (-n), .int .i64 d] 24)).alloc (.cells #[.int .i64 0, .int .i64 0, .int .i64 0, .int .i64 0, .int .i64 0] 52))
  simp only [World.size_alloc] at r2 r3
  refine ⟨_, rfl, ⟨ha.kept (g1.trans (g2.trans g3)), hb.kept (g1.trans (g2.trans g3)), r1.kept (g2.trans g3), ?_, ?_⟩, g1.trans (g2.trans g3)⟩
  · rw [gv_zero]; exact r2.kept g3
  · rw [gv_zero]; exact r3
theorem rnd_in {n d : Int} (hg : Nat.gcd n.natAbs d.natAbs = 1) (how : Int) (h1 : -1073741824 ≤ n) (h2 : n ≤ 1073741824) (hd : 1 ≤ d) : -4294967296 ≤ rndQ how n d ∧ rndQ how n d ≤ 4294967296 := by
  obtain ⟨n1, n2, _, _⟩ := rnd_near hg (show 0 < d by omega) how
  generalize rndQ how n d = q at *
  constructor
  · rcases Int.lt_or_le q (-4294967296) with h | h
    · have : q * d ≤ -4294967297 * d := Int.mul_le_mul_of_nonneg_right (by omega) (by omega)
      omega
    · exact h
  · rcases Int.lt_or_le 4294967296 q with h | h
    · have : 4294967297 * d ≤ q * d := Int.mul_le_mul_of_nonneg_right (by omega) (by omega)
      omega
    · exact h
set_option maxRecDepth 100000 in
set_option maxHeartbeats 8000000 in
theorem next_walk (x0 x1 x2 x3 : Int) (w0 : World) (hb : Base w0) : Calls Tryd.prog 7 #[.agg #[.int .i64 x0, .int .i64 x1, .int .i64 x2, .int .i64 x3]] w0 fun e w' => e = .returned (.bool true) ∧ w0.grownBy w' none := by
  have HP : Hid (∀ (i : Nat) v, #[Value.int .i64 x0, .int .i64 x1, .int .i64 x2, .int .i64 x3][i]? = some v → (w0.alloc (.cells #[.int .i64 x0, .int .i64 x1, .int .i64 x2, .int .i64 x3] 51)).cell? ⟨w0.heap.size, i, none⟩ = some v) := Lib.hid fun i v hv => (cell_at rfl).trans hv
  have gg := World.grownBy_alloc w0 (.cells #[.int .i64 x0, .int .i64 x1, .int .i64 x2, .int .i64 x3] 51) none
  have S := Lib.hid (sane_k _ (hb.none_ gg))
  have HB := Lib.hid hb
  clear hb
  go_enter Tryd.func7, Tryd.ntmps7
  go_wp2_with fail
  refine S.out.mono ?_
  rintro e v1 ⟨rfl, g⟩
  have q0 := gcell g (HP.out 0 _ rfl)
  have q1 := gcell g (HP.out 1 _ rfl)
  have q2 := gcell g (HP.out 2 _ rfl)
  have q3 := gcell g (HP.out 3 _ rfl)
  have gg := gg.trans g
  clear g HP S
  go_wp2_with fail
  refine wp_region_noPanic ?_
  refine wp_region_held_drew (S := (fun w' => v1.grownBy w' none)) (by kernel_rfl) ?_ (fun hHeld => ?_)
  · (try dsimp only); (repeat (first | assumption | exact grown_refl _ | refine grown_dr ?_ | refine grown_al ?_))
  refine wpAnyH_take (i := 0) (oi := _) (v := ?_) rfl (by kernel_rfl) (by kernel_rfl) (by kernel_rfl) (fun _ _ _ h => h) (Or.inl ⟨by rfl, ?_⟩) (by assumption) ?_
  rotate_left 1
  · (intro w hSw; (try dsimp only at hSw); go_simp; first | done | with_reducible rfl)
  try go_simp
  refine wpAnyH_take (i := 1) (oi := _) (v := ?_) rfl (by kernel_rfl) (by kernel_rfl) (by kernel_rfl) (fun _ _ _ h => h) (Or.inl ⟨by rfl, ?_⟩) (by assumption) ?_
  rotate_left 1
  · (intro w hSw; (try dsimp only at hSw); go_simp; first | done | with_reducible rfl)
  try go_simp
  refine wpAnyH_take (i := 2) (oi := _) (v := .int .i64 x0) rfl (by kernel_rfl) (by kernel_rfl) (by kernel_rfl) (fun _ _ _ h => h) (Or.inl ⟨by kernel_rfl, ?_⟩) (by assumption) ?_
  · (intro w hSw; (try dsimp only at hSw); go_simp; have y := gcell hSw q0; clear hSw; go_simp; first | done | with_reducible rfl)
  try go_simp
  refine wpAnyH_take (i := 3) (oi := _) (v := ?_) rfl (by kernel_rfl) (by kernel_rfl) (by kernel_rfl) (fun _ _ _ h => h) (Or.inl ⟨by rfl, ?_⟩) (by assumption) ?_
  rotate_left 1
  · (intro w hSw; (try dsimp only at hSw); go_simp; first | done | with_reducible rfl)
  try go_simp
  refine wpAnyH_take (i := 4) (oi := _) (v := ?_) rfl (by kernel_rfl) (by kernel_rfl) (by kernel_rfl) (fun _ _ _ h => h) (Or.inl ⟨by rfl, ?_⟩) (by assumption) ?_
  rotate_left 1
  · (intro w hSw; (try dsimp only at hSw); go_simp; first | done | with_reducible rfl)
  try go_simp
  refine wpAnyH_take (i := 5) (oi := _) (v := .int .i64 x1) rfl (by kernel_rfl) (by kernel_rfl) (by kernel_rfl) (fun _ _ _ h => h) (Or.inl ⟨by kernel_rfl, ?_⟩) (by assumption) ?_
  · (intro w hSw; (try dsimp only at hSw); go_simp; have y := gcell hSw q1; clear hSw; go_simp; first | done | with_reducible rfl)
  try go_simp
  refine wpAnyH_take (i := 7) (oi := _) (v := ?_) rfl (by kernel_rfl) (by kernel_rfl) (by kernel_rfl) (fun _ _ _ h => h) (Or.inl ⟨by rfl, ?_⟩) (by assumption) ?_
  rotate_left 1
  · (intro w hSw; (try dsimp only at hSw); go_simp; first | done | with_reducible rfl)
  try go_simp
  refine wpAnyH_take (i := 8) (oi := _) (v := ?_) rfl (by kernel_rfl) (by kernel_rfl) (by kernel_rfl) (fun _ _ _ h => h) (Or.inl ⟨by rfl, ?_⟩) (by assumption) ?_
  rotate_left 1
  · (intro w hSw; (try dsimp only at hSw); go_simp; first | done | with_reducible rfl)
  try go_simp
  refine wpAnyH_take (i := 9) (oi := _) (v := .int .i64 x2) rfl (by kernel_rfl) (by kernel_rfl) (by kernel_rfl) (fun _ _ _ h => h) (Or.inl ⟨by kernel_rfl, ?_⟩) (by assumption) ?_
  · (intro w hSw; (try dsimp only at hSw); go_simp; have y := gcell hSw q2; clear hSw; go_simp; first | done | with_reducible rfl)
  try go_simp
  refine wpAnyH_take (i := 10) (oi := _) (v := ?_) rfl (by kernel_rfl) (by kernel_rfl) (by kernel_rfl) (fun _ _ _ h => h) (Or.inl ⟨by rfl, ?_⟩) (by assumption) ?_
  rotate_left 1
  · (intro w hSw; (try dsimp only at hSw); go_simp; first | done | with_reducible rfl)
  try go_simp
  refine wpAnyH_take (i := 11) (oi := _) (v := ?_) rfl (by kernel_rfl) (by kernel_rfl) (by kernel_rfl) (fun _ _ _ h => h) (Or.inl ⟨by rfl, ?_⟩) (by assumption) ?_
  rotate_left 1
  · (intro w hSw; (try dsimp only at hSw); go_simp; first | done | with_reducible rfl)
  try go_simp
  refine wpAnyH_take (i := 12) (oi := _) (v := .int .i64 x3) rfl (by kernel_rfl) (by kernel_rfl) (by kernel_rfl) (fun _ _ _ h => h) (Or.inl ⟨by kernel_rfl, ?_⟩) (by assumption) ?_
  · (intro w hSw; (try dsimp only at hSw); go_simp; have y := gcell hSw q3; clear hSw; go_simp; first | done | with_reducible rfl)
  try go_simp
  refine name_them fun ops Q a0 hops hQ ha => ?_
  have LD6_13_14_15_16_17 : Hid (∀ (a : Act) (w : World) (b14 : Nat) (b15 : Nat), a = ((((a0.put (some 24) (.agg #[.int .i64 (madeN x0 x1), .int .i64 (madeD x0 x1)])).put (some 31) (.agg #[.int .i64 (madeN x2 x3), .int .i64 (madeD x2 x3)])).put (some 4) (.pointer (some ⟨b14, 0, none⟩))).put (some 5) (.pointer (some ⟨b15, 0, none⟩))) → v1.grownBy w none → R2 w b14 (madeN x0 x1) (madeD x0 x1) → v1.heap.size ≤ b14 → R2 w b15 (madeN x2 x3) (madeD x2 x3) → v1.heap.size ≤ b15 → Hid (b14 ≠ b15) → wpAnyH Tryd.prog .any ops Q (fun w' => v1.grownBy w' none) 0 #[true, true, true, true, true, true, true, true, true, true, true, true, true, true, true, true, true, true] a w) := Lib.hid (by
    rintro a w b14 b15 rfl HG HR14 HS14 HR15 HS15 HN14_15
    subst hops hQ ha
    have hHeld := HG
    go_simp
    refine wpAnyH_done (by kernel_rfl) ?_ _
    refine NoPanic.normal ?_
    go_simp
    clear hHeld
    have HA := made_right x0 x1
    have HC := made_right x2 x3
    generalize madeN x0 x1 = n at *
    generalize madeD x0 x1 = d at *
    generalize madeN x2 x3 = m at *
    generalize madeD x2 x3 = c at *
    obtain ⟨a1, a2, a3, a4, a5⟩ := (right_iff n d).1 HA
    obtain ⟨e1, e2, e3, e4, e5⟩ := (right_iff m c).1 HC
    replace gg := gg.trans HG
    have hz1 := HR14.lt
    have hz2 := HR15.lt
    have c0 := HR14.c0
    have c1 := HR14.c1
    have gz := gg
    go_wp2_with fail
    clear c0 c1 q0 q1 q2 q3
    obtain ⟨wl, hwl, HI, gl⟩ := box_next w b14 b15 n d m c HR14 HR15
    rw [← hwl]
    replace gg := gg.trans gl
    clear hwl gl HR14 HR15 HG HN14_15 HS14 HS15
    have hz3 : w0.heap.size ≤ w.heap.size + 1 := by have := gz.size; omega
    have hz4 : w0.heap.size ≤ w.heap.size + 2 := by omega
    clear gz
    generalize w.heap.size = z at *
    go_loopw [9] (fun i wr => ∃ k : Nat, k ≤ 4 ∧ i = .int .i64 ((k : Int) + 1) ∧ NextIn wr b14 b15 z n d m c k ∧ w0.grownBy wr none) (fun i _ => 5 - (intOf i).toNat)
    case atStart => exact ⟨0, by omega, by simp, HI, gg⟩
    case round =>
      clear HI gg
      obtain ⟨k, hk, rfl, HI, gg⟩ := hrel
      by_cases hlt : k < 4
      · have V1 := rnd_vals HA k hlt
        have V2 := rnd_vals HC k hlt
        have V3 := rnd_vals (right_opp HA) k hlt
        have K1 := Lib.hid (round_k n d ((k : Int) + 1) ⟨by omega, by omega⟩ ⟨by omega, by omega⟩)
        have K2 := Lib.hid (round_k m c ((k : Int) + 1) ⟨by omega, by omega⟩ ⟨by omega, by omega⟩)
        have K3 := Lib.hid (round_k (-n) d ((k : Int) + 1) ⟨by omega, by omega⟩ ⟨by omega, by omega⟩)
        have K4 := Lib.hid (cmp_k n d m c ⟨by omega, by omega⟩ ⟨by omega, by omega⟩ ⟨by omega, by omega⟩ ⟨by omega, by omega⟩)
        rw [V1.1, V1.2] at K1
        rw [V2.1, V2.2] at K2
        rw [V3.1, V3.2] at K3
        have hcv : cmpV n d m c = cmpI (n * c) (m * d) := by unfold cmpV; rw [HA, HC]; rfl
        rw [hcv] at K4
        obtain ⟨n1, n2, n3, n4⟩ := rnd_near a5 (show 0 < d by omega) ((k : Int) + 1)
        have mo1 := fun h : n * c < m * d => rnd_mono (d := d) e5 (by omega) (by omega) ((k : Int) + 1) h
        have mo2 := fun h : m * d < n * c => rnd_mono (n := m) (d := c) a5 (by omega) (by omega) ((k : Int) + 1) h
        have HX := Lib.hid (fun wr' (h : NextIn wr' b14 b15 z n d m c k) => h.next hz1 hz2 hlt)
        have ck1 := @cmpI_lt (n * c) (m * d)
        have ck2 := @cmpI_gt (n * c) (m * d)
        clear V1 V2 V3 hcv
        generalize rndQ ((k : Int) + 1) n d = x at *
        generalize rndQ ((k : Int) + 1) m c = y at *
        generalize rndQ ((k : Int) + 1) (-n) d = v at *
        generalize cmpI (n * c) (m * d) = cv at *
        have t1 : ¬ d ≤ x * d - n := by omega
        have t2 : ¬ d ≤ n - x * d := by omega
        have b1 : -8589934592 ≤ x * d := by omega
        have b2 : x * d ≤ 8589934592 := by omega
        have hD : ((d == 1) = true ∧ (x != n) = false) ∨ ((d == 1) = false ∧ True) := by
          by_cases h : d = 1
          · exact .inl ⟨by simpa using h, by simpa using n3 h⟩
          · exact .inr ⟨by simpa using h, trivial⟩
        have hC : (cv < 0 ∧ ¬ y < x) ∨ (¬ cv < 0 ∧ 0 < cv ∧ ¬ x < y) ∨ (¬ cv < 0 ∧ ¬ 0 < cv) := by
          rcases Int.lt_trichotomy cv 0 with h | h | h
          · exact .inl ⟨h, by have := mo1 (ck1.1 h); omega⟩
          · exact .inr (.inr ⟨by omega, by omega⟩)
          · exact .inr (.inl ⟨by omega, h, by have := mo2 (ck2.1 h); omega⟩)
        have hH : (¬ (2 : Int) < (k : Int) + 1 ∧ True) ∨ ((2 : Int) < (k : Int) + 1 ∧ ¬ d < 2 * (x * d - n) ∧ ¬ d < 2 * (n - x * d)) := by
          by_cases h : (2 : Int) < (k : Int) + 1
          · obtain ⟨h1, h2⟩ := n4 h
            exact .inr ⟨h, by omega, by omega⟩
          · exact .inl ⟨h, trivial⟩
        have k1 : ((k : Int) + 1 ≤ 4) := by omega
        clear n3 n4 mo1 mo2 ck1 ck2
        have c0 := HI.a.c0
        have c1 := HI.a.c1
        clear HA HC a5 e5 e3 e4 hk n1 n2 HB
        go_wp2_with fail
        refine (K1.out _).mono ?_
        rintro e s1 ⟨rfl, g⟩
        replace HI := HI.kept g
        replace gg := gg.trans g
        clear g K1 c0 c1
        have c0 := HI.b.c0
        have c1 := HI.b.c1
        go_wp2_with fail
        refine (K2.out _).mono ?_
        rintro e s2 ⟨rfl, g⟩
        replace HI := HI.kept g
        replace gg := gg.trans g
        clear g K2 c0 c1
        have c0 := HI.l.c0
        have c1 := HI.l.c1
        go_wp2_with fail
        refine (K3.out _).mono ?_
        rintro e s3 ⟨rfl, g⟩
        replace HI := HI.kept g
        replace gg := gg.trans g
        clear g K3 c0 c1
        have c0 := HI.a.c0
        have c1 := HI.a.c1
        go_upto_region 11 with fail
        go_cut [104] (fun u wx => u = .bool false ∧ wx = s3)
        case first =>
          rcases hD with ⟨d1, d2⟩ | ⟨d1, d2⟩
          all_goals
            go_wp2_with fail
            go_meet
            exact ⟨congrArg Value.bool (by first | rfl | (simp only [Bool.or_eq_false_iff, decide_eq_false_iff_not]; omega)), rfl⟩
        case rest =>
          obtain ⟨rfl, rfl⟩ := hcut
          clear hD
          have c2 := HI.b.c0
          have c3 := HI.b.c1
          go_wp2_with fail
          refine (K4.out _).mono ?_
          rintro e s4 ⟨rfl, g⟩
          replace HI := HI.kept g
          replace gg := gg.trans g
          clear g K4 c0 c1 c2 c3
          have c0 := HI.a.c0
          have c1 := HI.a.c1
          go_upto_region 14 with fail
          go_cut [153] (fun u wx => u = .bool false ∧ wx = s4)
          case first =>
            rcases hC with ⟨v1', v2⟩ | ⟨v1', v2, v3⟩ | ⟨v1', v2⟩
            all_goals
              rcases hH with ⟨u1, u2'⟩ | ⟨u1, u2', u3⟩
              all_goals
                go_wp2_with fail
                go_meet
                exact ⟨congrArg Value.bool (by first | rfl | (simp only [Bool.or_eq_false_iff, decide_eq_false_iff_not]; omega)), rfl⟩
          case rest =>
            obtain ⟨rfl, rfl⟩ := hcut
            clear hC hH
            have g0 := HI.g.c (k + 1) (by omega)
            have g1 := HI.h.c (k + 1) (by omega)
            have f0 := HI.g.f (k + 1)
            have f1 := HI.h.f (k + 1)
            have h0 := HI.g.lt
            have h1 := HI.h.lt
            go_wp2_with fail
            go_roundw
            case rel => exact ⟨k + 1, by omega, by simp, HX.out _ HI, grown_set (grown_set gg (.inl hz3)) (.inl hz4)⟩
            case measure => simp [intOf]; omega
      · obtain rfl : k = 4 := by omega
        obtain ⟨o1, o2, o3, o4, o5, o6⟩ := rnd_opp a5 (show 0 < d by omega)
        have q1 : wr.cell? ⟨z + 1, 1, none⟩ = some (.int .i64 (rndQ 1 n d)) := HI.g.c 1 (by decide)
        have q2 : wr.cell? ⟨z + 1, 2, none⟩ = some (.int .i64 (rndQ 2 n d)) := HI.g.c 2 (by decide)
        have q3 : wr.cell? ⟨z + 1, 3, none⟩ = some (.int .i64 (rndQ 3 n d)) := HI.g.c 3 (by decide)
        have q4 : wr.cell? ⟨z + 1, 4, none⟩ = some (.int .i64 (rndQ 4 n d)) := HI.g.c 4 (by decide)
        have p1 : wr.cell? ⟨z + 2, 1, none⟩ = some (.int .i64 (rndQ 1 (-n) d)) := HI.h.c 1 (by decide)
        have p2 : wr.cell? ⟨z + 2, 2, none⟩ = some (.int .i64 (rndQ 2 (-n) d)) := HI.h.c 2 (by decide)
        have p4 : wr.cell? ⟨z + 2, 4, none⟩ = some (.int .i64 (rndQ 4 (-n) d)) := HI.h.c 4 (by decide)
        have y1 := rnd_in (n := -n) (by rw [Int.natAbs_neg]; exact a5) 1 (by omega) (by omega) a1
        have y2 := rnd_in (n := -n) (by rw [Int.natAbs_neg]; exact a5) 2 (by omega) (by omega) a1
        have y4 := rnd_in (n := -n) (by rw [Int.natAbs_neg]; exact a5) 4 (by omega) (by omega) a1
        generalize rndQ 1 n d = r1 at *
        generalize rndQ 2 n d = r2 at *
        generalize rndQ 3 n d = r3 at *
        generalize rndQ 4 n d = r4 at *
        generalize rndQ 1 (-n) d = t1 at *
        generalize rndQ 2 (-n) d = t2 at *
        generalize rndQ 4 (-n) d = t4 at *
        obtain ⟨y1, y1'⟩ := y1
        obtain ⟨y2, y2'⟩ := y2
        obtain ⟨y4, y4'⟩ := y4
        subst o1 o2 o3
        clear HA HC a5 e5 hk HI HB
        go_wp2_with fail
        go_ret
        exact ⟨rfl, gg⟩)
  have LD6_13_14_15_16 : Hid (∀ (a : Act) (w : World) (b14 : Nat) (b15 : Nat), a = ((((a0.put (some 24) (.agg #[.int .i64 (madeN x0 x1), .int .i64 (madeD x0 x1)])).put (some 31) (.agg #[.int .i64 (madeN x2 x3), .int .i64 (madeD x2 x3)])).put (some 4) (.pointer (some ⟨b14, 0, none⟩))).put (some 5) (.pointer (some ⟨b15, 0, none⟩))) → v1.grownBy w none → R2 w b14 (madeN x0 x1) (madeD x0 x1) → v1.heap.size ≤ b14 → R2 w b15 0 0 → v1.heap.size ≤ b15 → Hid (b14 ≠ b15) → wpAnyH Tryd.prog .any ops Q (fun w' => v1.grownBy w' none) 1 #[true, true, true, true, true, true, true, true, true, true, true, true, true, true, true, true, true, false] a w) := Lib.hid (by
    rintro a w b14 b15 rfl HG HR14 HS14 HR15 HS15 HN14_15
    subst hops hQ ha
    have hHeld := HG
    go_simp
    refine wpAnyH_ready (rs := [17]) (by kernel_rfl) (by simp) ?_
    refine AllReadyH.cons (o := _) rfl (fun K hK => ?_) ?_
    · clear hHeld
      have c0 := HR15.c0
      have c1 := HR15.c1
      have f0 := HR15.f0
      have f1 := HR15.f1
      have hl := HR15.lt
      go_simp
      first | (refine hK.out _ _ ?_ (fun hHeld => ?_)) | (go_wp2_with fail; refine hK.out _ _ ?_ (fun hHeld => ?_))
      · exact grown_set (grown_set HG (.inl HS15)) (.inl HS15)
      clear hK K
      go_simp
      exact LD6_13_14_15_16_17.out _ _ _ _ (by kernel_rfl) (grown_set (grown_set HG (.inl HS15)) (.inl HS15)) ((HR14.far HN14_15.out).far HN14_15.out) HS14 (HR15.set _ _) HS15 HN14_15
    exact AllReadyH.nil)
  have LD6_13_14_15 : Hid (∀ (a : Act) (w : World) (b14 : Nat) (b15 : Nat), a = ((((a0.put (some 24) (.agg #[.int .i64 (madeN x0 x1), .int .i64 (madeD x0 x1)])).put (some 31) (.agg #[.int .i64 (madeN x2 x3), .int .i64 (madeD x2 x3)])).put (some 4) (.pointer (some ⟨b14, 0, none⟩))).put (some 5) (.pointer (some ⟨b15, 0, none⟩))) → v1.grownBy w none → R2 w b14 0 0 → v1.heap.size ≤ b14 → R2 w b15 0 0 → v1.heap.size ≤ b15 → Hid (b14 ≠ b15) → wpAnyH Tryd.prog .any ops Q (fun w' => v1.grownBy w' none) 2 #[true, true, true, true, true, true, true, true, true, true, true, true, true, true, true, true, false, false] a w) := Lib.hid (by
    rintro a w b14 b15 rfl HG HR14 HS14 HR15 HS15 HN14_15
    subst hops hQ ha
    have hHeld := HG
    go_simp
    refine wpAnyH_ready (rs := [16]) (by kernel_rfl) (by simp) ?_
    refine AllReadyH.cons (o := _) rfl (fun K hK => ?_) ?_
    · clear hHeld
      have c0 := HR14.c0
      have c1 := HR14.c1
      have f0 := HR14.f0
      have f1 := HR14.f1
      have hl := HR14.lt
      go_simp
      first | (refine hK.out _ _ ?_ (fun hHeld => ?_)) | (go_wp2_with fail; refine hK.out _ _ ?_ (fun hHeld => ?_))
      · exact grown_set (grown_set HG (.inl HS14)) (.inl HS14)
      clear hK K
      go_simp
      exact LD6_13_14_15_16.out _ _ _ _ (by kernel_rfl) (grown_set (grown_set HG (.inl HS14)) (.inl HS14)) (HR14.set _ _) HS14 ((HR15.far (Ne.symm HN14_15.out)).far (Ne.symm HN14_15.out)) HS15 HN14_15
    exact AllReadyH.nil)
  have LD6_14_15 : Hid (∀ (a : Act) (w : World) (b14 : Nat) (b15 : Nat), a = (((a0.put (some 24) (.agg #[.int .i64 (madeN x0 x1), .int .i64 (madeD x0 x1)])).put (some 4) (.pointer (some ⟨b14, 0, none⟩))).put (some 5) (.pointer (some ⟨b15, 0, none⟩))) → v1.grownBy w none → R2 w b14 0 0 → v1.heap.size ≤ b14 → R2 w b15 0 0 → v1.heap.size ≤ b15 → Hid (b14 ≠ b15) → wpAnyH Tryd.prog .any ops Q (fun w' => v1.grownBy w' none) 3 #[true, true, true, true, true, true, true, true, true, true, true, true, true, false, true, true, false, false] a w) := Lib.hid (by
    rintro a w b14 b15 rfl HG HR14 HS14 HR15 HS15 HN14_15
    subst hops hQ ha
    have hHeld := HG
    go_simp
    refine wpAnyH_ready (rs := [13]) (by kernel_rfl) (by simp) ?_
    refine AllReadyH.cons (o := _) rfl (fun K hK => ?_) ?_
    · clear hHeld
      go_simp
      refine (made_k x2 x3 _).mono ?_
      rintro e w2 ⟨rfl, g⟩
      first | (refine hK.out _ _ ?_ (fun hHeld => ?_)) | (go_wp2_with fail; refine hK.out _ _ ?_ (fun hHeld => ?_))
      · exact HG.trans g
      clear hK K
      go_simp
      exact LD6_13_14_15.out _ _ _ _ (by kernel_rfl) (HG.trans g) (HR14.kept g) HS14 (HR15.kept g) HS15 HN14_15
    exact AllReadyH.nil)
  have LD6_13_15 : Hid (∀ (a : Act) (w : World) (b15 : Nat), a = (((a0.put (some 24) (.agg #[.int .i64 (madeN x0 x1), .int .i64 (madeD x0 x1)])).put (some 31) (.agg #[.int .i64 (madeN x2 x3), .int .i64 (madeD x2 x3)])).put (some 5) (.pointer (some ⟨b15, 0, none⟩))) → v1.grownBy w none → R2 w b15 0 0 → v1.heap.size ≤ b15 → wpAnyH Tryd.prog .any ops Q (fun w' => v1.grownBy w' none) 3 #[true, true, true, true, true, true, true, true, true, true, true, true, true, true, false, true, false, false] a w) := Lib.hid (by
    rintro a w b15 rfl HG HR15 HS15
    subst hops hQ ha
    have hHeld := HG
    go_simp
    refine wpAnyH_ready (rs := [14]) (by kernel_rfl) (by simp) ?_
    refine AllReadyH.cons (o := _) rfl (fun K hK => ?_) ?_
    · clear hHeld
      go_simp
      first | (refine hK.out _ _ ?_ (fun hHeld => ?_)) | (go_wp2_with fail; refine hK.out _ _ ?_ (fun hHeld => ?_))
      · exact grown_al HG
      clear hK K
      go_simp
      exact LD6_13_14_15.out _ _ _ _ (by kernel_rfl) (grown_al HG) (R2.new _ _ _) HG.size (HR15.kept (World.grownBy_alloc _ _ none)) HS15 (Lib.hid (Ne.symm (Nat.ne_of_lt HR15.lt)))
    exact AllReadyH.nil)
  have LD6_13_14 : Hid (∀ (a : Act) (w : World) (b14 : Nat), a = (((a0.put (some 24) (.agg #[.int .i64 (madeN x0 x1), .int .i64 (madeD x0 x1)])).put (some 31) (.agg #[.int .i64 (madeN x2 x3), .int .i64 (madeD x2 x3)])).put (some 4) (.pointer (some ⟨b14, 0, none⟩))) → v1.grownBy w none → R2 w b14 0 0 → v1.heap.size ≤ b14 → wpAnyH Tryd.prog .any ops Q (fun w' => v1.grownBy w' none) 3 #[true, true, true, true, true, true, true, true, true, true, true, true, true, true, true, false, false, false] a w) := Lib.hid (by
    rintro a w b14 rfl HG HR14 HS14
    subst hops hQ ha
    have hHeld := HG
    go_simp
    refine wpAnyH_ready (rs := [15]) (by kernel_rfl) (by simp) ?_
    refine AllReadyH.cons (o := _) rfl (fun K hK => ?_) ?_
    · clear hHeld
      go_simp
      first | (refine hK.out _ _ ?_ (fun hHeld => ?_)) | (go_wp2_with fail; refine hK.out _ _ ?_ (fun hHeld => ?_))
      · exact grown_al HG
      clear hK K
      go_simp
      exact LD6_13_14_15.out _ _ _ _ (by kernel_rfl) (grown_al HG) (HR14.kept (World.grownBy_alloc _ _ none)) HS14 (R2.new _ _ _) HG.size (Lib.hid (Nat.ne_of_lt HR14.lt))
    exact AllReadyH.nil)
  have LD14_15 : Hid (∀ (a : Act) (w : World) (b14 : Nat) (b15 : Nat), a = ((a0.put (some 4) (.pointer (some ⟨b14, 0, none⟩))).put (some 5) (.pointer (some ⟨b15, 0, none⟩))) → v1.grownBy w none → R2 w b14 0 0 → v1.heap.size ≤ b14 → R2 w b15 0 0 → v1.heap.size ≤ b15 → Hid (b14 ≠ b15) → wpAnyH Tryd.prog .any ops Q (fun w' => v1.grownBy w' none) 4 #[true, true, true, true, true, true, false, true, true, true, true, true, true, false, true, true, false, false] a w) := Lib.hid (by
    rintro a w b14 b15 rfl HG HR14 HS14 HR15 HS15 HN14_15
    subst hops hQ ha
    have hHeld := HG
    go_simp
    refine wpAnyH_ready (rs := [6]) (by kernel_rfl) (by simp) ?_
    refine AllReadyH.cons (o := _) rfl (fun K hK => ?_) ?_
    · clear hHeld
      go_simp
      refine (made_k x0 x1 _).mono ?_
      rintro e w2 ⟨rfl, g⟩
      first | (refine hK.out _ _ ?_ (fun hHeld => ?_)) | (go_wp2_with fail; refine hK.out _ _ ?_ (fun hHeld => ?_))
      · exact HG.trans g
      clear hK K
      go_simp
      exact LD6_14_15.out _ _ _ _ (by kernel_rfl) (HG.trans g) (HR14.kept g) HS14 (HR15.kept g) HS15 HN14_15
    exact AllReadyH.nil)
  have LD6_15 : Hid (∀ (a : Act) (w : World) (b15 : Nat), a = ((a0.put (some 24) (.agg #[.int .i64 (madeN x0 x1), .int .i64 (madeD x0 x1)])).put (some 5) (.pointer (some ⟨b15, 0, none⟩))) → v1.grownBy w none → R2 w b15 0 0 → v1.heap.size ≤ b15 → wpAnyH Tryd.prog .any ops Q (fun w' => v1.grownBy w' none) 4 #[true, true, true, true, true, true, true, true, true, true, true, true, true, false, false, true, false, false] a w) := Lib.hid (by
    rintro a w b15 rfl HG HR15 HS15
    subst hops hQ ha
    have hHeld := HG
    go_simp
    refine wpAnyH_ready (rs := [13, 14]) (by kernel_rfl) (by simp) ?_
    refine AllReadyH.cons (o := _) rfl (fun K hK => ?_) ?_
    · clear hHeld
      go_simp
      refine (made_k x2 x3 _).mono ?_
      rintro e w2 ⟨rfl, g⟩
      first | (refine hK.out _ _ ?_ (fun hHeld => ?_)) | (go_wp2_with fail; refine hK.out _ _ ?_ (fun hHeld => ?_))
      · exact HG.trans g
      clear hK K
      go_simp
      exact LD6_13_15.out _ _ _ (by kernel_rfl) (HG.trans g) (HR15.kept g) HS15
    refine AllReadyH.cons (o := _) rfl (fun K hK => ?_) ?_
    · clear hHeld
      go_simp
      first | (refine hK.out _ _ ?_ (fun hHeld => ?_)) | (go_wp2_with fail; refine hK.out _ _ ?_ (fun hHeld => ?_))
      · exact grown_al HG
      clear hK K
      go_simp
      exact LD6_14_15.out _ _ _ _ (by kernel_rfl) (grown_al HG) (R2.new _ _ _) HG.size (HR15.kept (World.grownBy_alloc _ _ none)) HS15 (Lib.hid (Ne.symm (Nat.ne_of_lt HR15.lt)))
    exact AllReadyH.nil)
  have LD6_14 : Hid (∀ (a : Act) (w : World) (b14 : Nat), a = ((a0.put (some 24) (.agg #[.int .i64 (madeN x0 x1), .int .i64 (madeD x0 x1)])).put (some 4) (.pointer (some ⟨b14, 0, none⟩))) → v1.grownBy w none → R2 w b14 0 0 → v1.heap.size ≤ b14 → wpAnyH Tryd.prog .any ops Q (fun w' => v1.grownBy w' none) 4 #[true, true, true, true, true, true, true, true, true, true, true, true, true, false, true, false, false, false] a w) := Lib.hid (by
    rintro a w b14 rfl HG HR14 HS14
    subst hops hQ ha
    have hHeld := HG
    go_simp
    refine wpAnyH_ready (rs := [13, 15]) (by kernel_rfl) (by simp) ?_
    refine AllReadyH.cons (o := _) rfl (fun K hK => ?_) ?_
    · clear hHeld
      go_simp
      refine (made_k x2 x3 _).mono ?_
      rintro e w2 ⟨rfl, g⟩
      first | (refine hK.out _ _ ?_ (fun hHeld => ?_)) | (go_wp2_with fail; refine hK.out _ _ ?_ (fun hHeld => ?_))
      · exact HG.trans g
      clear hK K
      go_simp
      exact LD6_13_14.out _ _ _ (by kernel_rfl) (HG.trans g) (HR14.kept g) HS14
    refine AllReadyH.cons (o := _) rfl (fun K hK => ?_) ?_
    · clear hHeld
      go_simp
      first | (refine hK.out _ _ ?_ (fun hHeld => ?_)) | (go_wp2_with fail; refine hK.out _ _ ?_ (fun hHeld => ?_))
      · exact grown_al HG
      clear hK K
      go_simp
      exact LD6_14_15.out _ _ _ _ (by kernel_rfl) (grown_al HG) (HR14.kept (World.grownBy_alloc _ _ none)) HS14 (R2.new _ _ _) HG.size (Lib.hid (Nat.ne_of_lt HR14.lt))
    exact AllReadyH.nil)
  have LD6_13 : Hid (∀ (a : Act) (w : World) , a = ((a0.put (some 24) (.agg #[.int .i64 (madeN x0 x1), .int .i64 (madeD x0 x1)])).put (some 31) (.agg #[.int .i64 (madeN x2 x3), .int .i64 (madeD x2 x3)])) → v1.grownBy w none → wpAnyH Tryd.prog .any ops Q (fun w' => v1.grownBy w' none) 4 #[true, true, true, true, true, true, true, true, true, true, true, true, true, true, false, false, false, false] a w) := Lib.hid (by
    rintro a w rfl HG
    subst hops hQ ha
    have hHeld := HG
    go_simp
    refine wpAnyH_ready (rs := [14, 15]) (by kernel_rfl) (by simp) ?_
    refine AllReadyH.cons (o := _) rfl (fun K hK => ?_) ?_
    · clear hHeld
      go_simp
      first | (refine hK.out _ _ ?_ (fun hHeld => ?_)) | (go_wp2_with fail; refine hK.out _ _ ?_ (fun hHeld => ?_))
      · exact grown_al HG
      clear hK K
      go_simp
      exact LD6_13_14.out _ _ _ (by kernel_rfl) (grown_al HG) (R2.new _ _ _) HG.size
    refine AllReadyH.cons (o := _) rfl (fun K hK => ?_) ?_
    · clear hHeld
      go_simp
      first | (refine hK.out _ _ ?_ (fun hHeld => ?_)) | (go_wp2_with fail; refine hK.out _ _ ?_ (fun hHeld => ?_))
      · exact grown_al HG
      clear hK K
      go_simp
      exact LD6_13_15.out _ _ _ (by kernel_rfl) (grown_al HG) (R2.new _ _ _) HG.size
    exact AllReadyH.nil)
  have LD15 : Hid (∀ (a : Act) (w : World) (b15 : Nat), a = (a0.put (some 5) (.pointer (some ⟨b15, 0, none⟩))) → v1.grownBy w none → R2 w b15 0 0 → v1.heap.size ≤ b15 → wpAnyH Tryd.prog .any ops Q (fun w' => v1.grownBy w' none) 5 #[true, true, true, true, true, true, false, true, true, true, true, true, true, false, false, true, false, false] a w) := Lib.hid (by
    rintro a w b15 rfl HG HR15 HS15
    subst hops hQ ha
    have hHeld := HG
    go_simp
    refine wpAnyH_ready (rs := [6, 14]) (by kernel_rfl) (by simp) ?_
    refine AllReadyH.cons (o := _) rfl (fun K hK => ?_) ?_
    · clear hHeld
      go_simp
      refine (made_k x0 x1 _).mono ?_
      rintro e w2 ⟨rfl, g⟩
      first | (refine hK.out _ _ ?_ (fun hHeld => ?_)) | (go_wp2_with fail; refine hK.out _ _ ?_ (fun hHeld => ?_))
      · exact HG.trans g
      clear hK K
      go_simp
      exact LD6_15.out _ _ _ (by kernel_rfl) (HG.trans g) (HR15.kept g) HS15
    refine AllReadyH.cons (o := _) rfl (fun K hK => ?_) ?_
    · clear hHeld
      go_simp
      first | (refine hK.out _ _ ?_ (fun hHeld => ?_)) | (go_wp2_with fail; refine hK.out _ _ ?_ (fun hHeld => ?_))
      · exact grown_al HG
      clear hK K
      go_simp
      exact LD14_15.out _ _ _ _ (by kernel_rfl) (grown_al HG) (R2.new _ _ _) HG.size (HR15.kept (World.grownBy_alloc _ _ none)) HS15 (Lib.hid (Ne.symm (Nat.ne_of_lt HR15.lt)))
    exact AllReadyH.nil)
  have LD14 : Hid (∀ (a : Act) (w : World) (b14 : Nat), a = (a0.put (some 4) (.pointer (some ⟨b14, 0, none⟩))) → v1.grownBy w none → R2 w b14 0 0 → v1.heap.size ≤ b14 → wpAnyH Tryd.prog .any ops Q (fun w' => v1.grownBy w' none) 5 #[true, true, true, true, true, true, false, true, true, true, true, true, true, false, true, false, false, false] a w) := Lib.hid (by
    rintro a w b14 rfl HG HR14 HS14
    subst hops hQ ha
    have hHeld := HG
    go_simp
    refine wpAnyH_ready (rs := [6, 15]) (by kernel_rfl) (by simp) ?_
    refine AllReadyH.cons (o := _) rfl (fun K hK => ?_) ?_
    · clear hHeld
      go_simp
      refine (made_k x0 x1 _).mono ?_
      rintro e w2 ⟨rfl, g⟩
      first | (refine hK.out _ _ ?_ (fun hHeld => ?_)) | (go_wp2_with fail; refine hK.out _ _ ?_ (fun hHeld => ?_))
      · exact HG.trans g
      clear hK K
      go_simp
      exact LD6_14.out _ _ _ (by kernel_rfl) (HG.trans g) (HR14.kept g) HS14
    refine AllReadyH.cons (o := _) rfl (fun K hK => ?_) ?_
    · clear hHeld
      go_simp
      first | (refine hK.out _ _ ?_ (fun hHeld => ?_)) | (go_wp2_with fail; refine hK.out _ _ ?_ (fun hHeld => ?_))
      · exact grown_al HG
      clear hK K
      go_simp
      exact LD14_15.out _ _ _ _ (by kernel_rfl) (grown_al HG) (HR14.kept (World.grownBy_alloc _ _ none)) HS14 (R2.new _ _ _) HG.size (Lib.hid (Nat.ne_of_lt HR14.lt))
    exact AllReadyH.nil)
  have LD6 : Hid (∀ (a : Act) (w : World) , a = (a0.put (some 24) (.agg #[.int .i64 (madeN x0 x1), .int .i64 (madeD x0 x1)])) → v1.grownBy w none → wpAnyH Tryd.prog .any ops Q (fun w' => v1.grownBy w' none) 5 #[true, true, true, true, true, true, true, true, true, true, true, true, true, false, false, false, false, false] a w) := Lib.hid (by
    rintro a w rfl HG
    subst hops hQ ha
    have hHeld := HG
    go_simp
    refine wpAnyH_ready (rs := [13, 14, 15]) (by kernel_rfl) (by simp) ?_
    refine AllReadyH.cons (o := _) rfl (fun K hK => ?_) ?_
    · clear hHeld
      go_simp
      refine (made_k x2 x3 _).mono ?_
      rintro e w2 ⟨rfl, g⟩
      first | (refine hK.out _ _ ?_ (fun hHeld => ?_)) | (go_wp2_with fail; refine hK.out _ _ ?_ (fun hHeld => ?_))
      · exact HG.trans g
      clear hK K
      go_simp
      exact LD6_13.out _ _  (by kernel_rfl) (HG.trans g)
    refine AllReadyH.cons (o := _) rfl (fun K hK => ?_) ?_
    · clear hHeld
      go_simp
      first | (refine hK.out _ _ ?_ (fun hHeld => ?_)) | (go_wp2_with fail; refine hK.out _ _ ?_ (fun hHeld => ?_))
      · exact grown_al HG
      clear hK K
      go_simp
      exact LD6_14.out _ _ _ (by kernel_rfl) (grown_al HG) (R2.new _ _ _) HG.size
    refine AllReadyH.cons (o := _) rfl (fun K hK => ?_) ?_
    · clear hHeld
      go_simp
      first | (refine hK.out _ _ ?_ (fun hHeld => ?_)) | (go_wp2_with fail; refine hK.out _ _ ?_ (fun hHeld => ?_))
      · exact grown_al HG
      clear hK K
      go_simp
      exact LD6_15.out _ _ _ (by kernel_rfl) (grown_al HG) (R2.new _ _ _) HG.size
    exact AllReadyH.nil)
  have LD : Hid (∀ (a : Act) (w : World) , a = a0 → v1.grownBy w none → wpAnyH Tryd.prog .any ops Q (fun w' => v1.grownBy w' none) 6 #[true, true, true, true, true, true, false, true, true, true, true, true, true, false, false, false, false, false] a w) := Lib.hid (by
    rintro a w rfl HG
    subst hops hQ ha
    have hHeld := HG
    go_simp
    refine wpAnyH_ready (rs := [6, 14, 15]) (by kernel_rfl) (by simp) ?_
    refine AllReadyH.cons (o := _) rfl (fun K hK => ?_) ?_
    · clear hHeld
      go_simp
      refine (made_k x0 x1 _).mono ?_
      rintro e w2 ⟨rfl, g⟩
      first | (refine hK.out _ _ ?_ (fun hHeld => ?_)) | (go_wp2_with fail; refine hK.out _ _ ?_ (fun hHeld => ?_))
      · exact HG.trans g
      clear hK K
      go_simp
      exact LD6.out _ _  (by kernel_rfl) (HG.trans g)
    refine AllReadyH.cons (o := _) rfl (fun K hK => ?_) ?_
    · clear hHeld
      go_simp
      first | (refine hK.out _ _ ?_ (fun hHeld => ?_)) | (go_wp2_with fail; refine hK.out _ _ ?_ (fun hHeld => ?_))
      · exact grown_al HG
      clear hK K
      go_simp
      exact LD14.out _ _ _ (by kernel_rfl) (grown_al HG) (R2.new _ _ _) HG.size
    refine AllReadyH.cons (o := _) rfl (fun K hK => ?_) ?_
    · clear hHeld
      go_simp
      first | (refine hK.out _ _ ?_ (fun hHeld => ?_)) | (go_wp2_with fail; refine hK.out _ _ ?_ (fun hHeld => ?_))
      · exact grown_al HG
      clear hK K
      go_simp
      exact LD15.out _ _ _ (by kernel_rfl) (grown_al HG) (R2.new _ _ _) HG.size
    exact AllReadyH.nil)
  exact LD.out _ _ rfl hHeld
end Go.Proofs.YtekhdcfnpgkodaaDoor
