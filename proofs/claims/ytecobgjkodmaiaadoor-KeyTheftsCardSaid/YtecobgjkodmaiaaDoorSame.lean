/-
  The reference's Same, by its contract.
-/
import Derived.Test.YtecobgjkodmaiaaDoorRing2
import Derived.Laws.StructEq
namespace Go.Proofs.YtecobgjkodmaiaaDoor
open Go.RowKit
attribute [local go_sem] get_mk extract_mk
theorem take_eq {l r : List K} {k : Nat} {x : K} (h : l.take k = r.take k) (hx : l[k]? = some x) (hy : r[k]? = some x) : l.take (k + 1) = r.take (k + 1) := by
  rw [take_one l k x hx, take_one r k x hy, h]
set_option maxRecDepth 100000 in
set_option maxHeartbeats 2000000 in
theorem same_r (s u : Int) (A E : Option Addr) (n c m d : Nat) (l r : List K) (hs : i64 s) (hu : i64 u) (w : World) (hk : Keys w A n c l) (hr : Keys w E m d r) :
    Calls Tryd.prog 17 #[.agg #[.int .i64 s, .slice A n c], .agg #[.int .i64 u, .slice E m d]] w fun e w' => e = .returned (.bool (decide (s = u ∧ l = r))) ∧ w.grownBy w' none := by
  have HN := Lib.hid hk.len
  have HM := Lib.hid hr.len
  have hnc := hk.le
  have hcc := hk.cap
  have hmd := hr.le
  have hdd := hr.cap
  have HK := Lib.hid (fun W (g : w.grownBy W none) => hk.kept g)
  have HQ := Lib.hid (fun W (g : w.grownBy W none) => hr.kept g)
  clear hk hr
  obtain ⟨s1, s2⟩ := hs
  obtain ⟨u1, u2⟩ := hu
  obtain ⟨w1, e1, HB, g1⟩ := row_of w 34 #[.int .i64 s, .slice A n c]
  obtain ⟨w2, e2, HR, g2⟩ := row_of w1 34 #[.int .i64 u, .slice E m d]
  have hs1 : w1.heap.size = w.heap.size + 1 := by rw [e1]; simp
  rw [hs1] at HR
  have E1 := Lib.hid e1
  have E2 := Lib.hid e2
  replace HB := HB.kept g2
  have gg := g1.trans g2
  clear e1 e2 g1 g2 hs1
  go_enter Tryd.func17, Tryd.ntmps17
  go_upto_region 1 with fail
  rw [← E1.out, ← E2.out]
  clear E1 E2
  generalize w.heap.size + 1 = R at *
  obtain ⟨B, hB⟩ : ∃ B, w.heap.size = B := ⟨_, rfl⟩
  rw [hB] at HB ⊢
  have b0 : w2.cell? ⟨B, 0, none⟩ = some (.int .i64 s) := HB.c 0 rfl
  have b1 : w2.cell? ⟨B, 1, none⟩ = some (.slice A n c) := HB.c 1 rfl
  have r0 : w2.cell? ⟨R, 0, none⟩ = some (.int .i64 u) := HR.c 0 rfl
  have r1 : w2.cell? ⟨R, 1, none⟩ = some (.slice E m d) := HR.c 1 rfl
  by_cases c0 : s = u
  rotate_left 1
  · have HE : Hid (decide (s = u ∧ l = r) = false) := Lib.hid (by simp [c0])
    have h0 : (s != u) = true := by simpa using c0
    clear c0
    go_wp2_with fail
    go_ret
    exact ⟨by rw [HE.out]; rfl, gg⟩
  have h0 : (s != u) = false := by simpa using c0
  by_cases c1 : n = m
  rotate_left 1
  · have HE : Hid (decide (s = u ∧ l = r) = false) := Lib.hid (by simp; intro _ e; exact c1 (by rw [HN.out, HM.out, e]))
    have h1 : ((n : Int) != (m : Int)) = true := by simp; omega
    clear c0 c1
    go_wp2_with fail
    go_ret
    exact ⟨by rw [HE.out]; rfl, gg⟩
  have h1 : ((n : Int) != (m : Int)) = false := by simp; omega
  have HC0 := Lib.hid c0
  subst c1
  clear c0
  go_wp2_with fail
  go_loopw [5] (fun i wr => ∃ k : Nat, k ≤ n ∧ i = .int .i64 k ∧ Hid (l.take k = r.take k) ∧ w2.grownBy wr none) (fun i _ => n - (intOf i).toNat)
  case atStart => exact ⟨0, Nat.zero_le _, rfl, Lib.hid rfl, grown_refl _⟩
  case round =>
    obtain ⟨k, hkn, rfl, HT, gw⟩ := hrel
    replace b1 := gcell gw b1
    replace r1 := gcell gw r1
    clear b0 r0
    by_cases hlt : k < n
    · obtain ⟨ad, x, hx, rfl, hb1, ⟨o1, o2, o3, o4⟩, x0, x1, x2, x3⟩ := (HK.out wr (gg.trans gw)).at k hlt
      obtain ⟨ae, y, hy, rfl, hb2, ⟨q1, q2, q3, q4⟩, y0, y1, y2, y3⟩ := (HQ.out wr (gg.trans gw)).at k hlt
      by_cases hxy : x = y
      · subst hxy
        have HT2 := Lib.hid (take_eq HT.out hx hy)
        obtain ⟨i1, t1, a1, c1⟩ := x
        clear hx hy HT
        go_upto_region 6 with fail
        have gz : wr.grownBy wr.drew none := grown_dr (grown_refl _)
        refine wp_region_noPanic ?_
        refine wp_region_held_drew (S := (fun w' => wr.grownBy w' none)) (by kernel_rfl) ?_ (fun hHeld => ?_)
        · (try dsimp only); (repeat (first | assumption | exact grown_refl _ | refine grown_dr ?_ | refine grown_dn ?_ | refine grown_al ?_))
        refine wpAnyH_take (i := 0) (oi := _) (v := ?_) rfl (by kernel_rfl) (by kernel_rfl) (by kernel_rfl) (fun _ _ _ h => h) (Or.inl ⟨by rfl, ?_⟩) (by assumption) ?_
        rotate_left 1
        · (intro w hSw; (try dsimp only at hSw); go_simp; first | done | with_reducible rfl)
        try go_simp
        refine wpAnyH_take (i := 1) (oi := _) (v := .slice (some ad) n c) rfl (by kernel_rfl) (by kernel_rfl) (by kernel_rfl) (fun _ _ _ h => h) (Or.inl ⟨by kernel_rfl, ?_⟩) (by assumption) ?_
        · (intro w hSw; (try dsimp only at hSw); go_simp; have y0 := gcell hSw b1; clear hSw; go_simp; first | done | with_reducible rfl)
        try go_simp
        refine wpAnyH_take (i := 2) (oi := _) (v := ?_) rfl (by kernel_rfl) (by kernel_rfl) (by kernel_rfl) (fun _ _ _ h => h) (Or.inl ⟨by rfl, ?_⟩) (by assumption) ?_
        rotate_left 1
        · (intro w hSw; (try dsimp only at hSw); go_simp; first | done | with_reducible rfl)
        try go_simp
        refine wpAnyH_take (i := 3) (oi := _) (v := ?_) rfl (by kernel_rfl) (by kernel_rfl) (by kernel_rfl) (fun _ _ _ h => h) (Or.inl ⟨by rfl, ?_⟩) (by assumption) ?_
        rotate_left 1
        · (intro w hSw; (try dsimp only at hSw); go_simp; first | done | with_reducible rfl)
        try go_simp
        refine wpAnyH_take (i := 4) (oi := _) (v := .agg #[.int .i64 i1, .string ⟨t1.toArray⟩, .int .i64 a1, .int .i64 c1]) rfl (by kernel_rfl) (by kernel_rfl) (by kernel_rfl) (fun _ _ _ h => h) (Or.inl ⟨by kernel_rfl, ?_⟩) (by assumption) ?_
        · (intro w hSw; (try dsimp only at hSw); go_simp; have y0 := gcell hSw x0; have y1 := gcell hSw x1; have y2 := gcell hSw x2; have y3 := gcell hSw x3; clear hSw; go_simp; first | done | with_reducible rfl)
        try go_simp
        refine wpAnyH_take (i := 5) (oi := _) (v := ?_) rfl (by kernel_rfl) (by kernel_rfl) (by kernel_rfl) (fun _ _ _ h => h) (Or.inl ⟨by rfl, ?_⟩) (by assumption) ?_
        rotate_left 1
        · (intro w hSw; (try dsimp only at hSw); go_simp; first | done | with_reducible rfl)
        try go_simp
        refine wpAnyH_take (i := 6) (oi := _) (v := .slice (some ae) n d) rfl (by kernel_rfl) (by kernel_rfl) (by kernel_rfl) (fun _ _ _ h => h) (Or.inl ⟨by kernel_rfl, ?_⟩) (by assumption) ?_
        · (intro w hSw; (try dsimp only at hSw); go_simp; have y0 := gcell hSw r1; clear hSw; go_simp; first | done | with_reducible rfl)
        try go_simp
        refine wpAnyH_take (i := 7) (oi := _) (v := ?_) rfl (by kernel_rfl) (by kernel_rfl) (by kernel_rfl) (fun _ _ _ h => h) (Or.inl ⟨by rfl, ?_⟩) (by assumption) ?_
        rotate_left 1
        · (intro w hSw; (try dsimp only at hSw); go_simp; first | done | with_reducible rfl)
        try go_simp
        refine wpAnyH_take (i := 8) (oi := _) (v := ?_) rfl (by kernel_rfl) (by kernel_rfl) (by kernel_rfl) (fun _ _ _ h => h) (Or.inl ⟨by rfl, ?_⟩) (by assumption) ?_
        rotate_left 1
        · (intro w hSw; (try dsimp only at hSw); go_simp; first | done | with_reducible rfl)
        try go_simp
        refine wpAnyH_take (i := 9) (oi := _) (v := .agg #[.int .i64 i1, .string ⟨t1.toArray⟩, .int .i64 a1, .int .i64 c1]) rfl (by kernel_rfl) (by kernel_rfl) (by kernel_rfl) (fun _ _ _ h => h) (Or.inl ⟨by kernel_rfl, ?_⟩) (by assumption) ?_
        · (intro w hSw; (try dsimp only at hSw); go_simp; have y0 := gcell hSw y0; have y1 := gcell hSw y1; have y2 := gcell hSw y2; have y3 := gcell hSw y3; clear hSw; go_simp; first | done | with_reducible rfl)
        try go_simp
        refine wpAnyH_take (i := 10) (oi := _) (v := .bool false) rfl (by kernel_rfl) (by kernel_rfl) (by kernel_rfl) (fun _ _ _ h => h) (Or.inl ⟨by kernel_rfl, ?_⟩) (by assumption) ?_
        · (intro w hSw; (try dsimp only at hSw); go_simp; first | done | with_reducible rfl)
        try go_simp
        refine wpAnyH_done (by kernel_rfl) ?_ _
        refine NoPanic.normal ?_
        go_simp
        go_wp2_with fail
        go_roundw
        case rel => exact ⟨k + 1, by omega, by go_num, HT2, gw.trans (grown_dr (grown_refl _))⟩
        case measure => simp [intOf]; omega
      · have HE : Hid (decide (s = u ∧ l = r) = false) := Lib.hid (by
          simp
          intro _ e
          rw [e] at hx
          exact hxy (by rw [hx] at hy; injection hy))
        obtain ⟨i1, t1, a1, c1⟩ := x
        obtain ⟨i2, t2, a2, c2⟩ := y
        have hne : ¬ (i1 = i2 ∧ t1 = t2 ∧ a1 = a2 ∧ c1 = c2) := fun ⟨e1, e2, e3, e4⟩ => hxy (by rw [e1, e2, e3, e4])
        clear hx hy HT hxy
        go_upto_region 6 with fail
        have gz : wr.grownBy wr.drew none := grown_dr (grown_refl _)
        refine wp_region_noPanic ?_
        refine wp_region_held_drew (S := (fun w' => wr.grownBy w' none)) (by kernel_rfl) ?_ (fun hHeld => ?_)
        · (try dsimp only); (repeat (first | assumption | exact grown_refl _ | refine grown_dr ?_ | refine grown_dn ?_ | refine grown_al ?_))
        refine wpAnyH_take (i := 0) (oi := _) (v := ?_) rfl (by kernel_rfl) (by kernel_rfl) (by kernel_rfl) (fun _ _ _ h => h) (Or.inl ⟨by rfl, ?_⟩) (by assumption) ?_
        rotate_left 1
        · (intro w hSw; (try dsimp only at hSw); go_simp; first | done | with_reducible rfl)
        try go_simp
        refine wpAnyH_take (i := 1) (oi := _) (v := .slice (some ad) n c) rfl (by kernel_rfl) (by kernel_rfl) (by kernel_rfl) (fun _ _ _ h => h) (Or.inl ⟨by kernel_rfl, ?_⟩) (by assumption) ?_
        · (intro w hSw; (try dsimp only at hSw); go_simp; have y0 := gcell hSw b1; clear hSw; go_simp; first | done | with_reducible rfl)
        try go_simp
        refine wpAnyH_take (i := 2) (oi := _) (v := ?_) rfl (by kernel_rfl) (by kernel_rfl) (by kernel_rfl) (fun _ _ _ h => h) (Or.inl ⟨by rfl, ?_⟩) (by assumption) ?_
        rotate_left 1
        · (intro w hSw; (try dsimp only at hSw); go_simp; first | done | with_reducible rfl)
        try go_simp
        refine wpAnyH_take (i := 3) (oi := _) (v := ?_) rfl (by kernel_rfl) (by kernel_rfl) (by kernel_rfl) (fun _ _ _ h => h) (Or.inl ⟨by rfl, ?_⟩) (by assumption) ?_
        rotate_left 1
        · (intro w hSw; (try dsimp only at hSw); go_simp; first | done | with_reducible rfl)
        try go_simp
        refine wpAnyH_take (i := 4) (oi := _) (v := .agg #[.int .i64 i1, .string ⟨t1.toArray⟩, .int .i64 a1, .int .i64 c1]) rfl (by kernel_rfl) (by kernel_rfl) (by kernel_rfl) (fun _ _ _ h => h) (Or.inl ⟨by kernel_rfl, ?_⟩) (by assumption) ?_
        · (intro w hSw; (try dsimp only at hSw); go_simp; have y0 := gcell hSw x0; have y1 := gcell hSw x1; have y2 := gcell hSw x2; have y3 := gcell hSw x3; clear hSw; go_simp; first | done | with_reducible rfl)
        try go_simp
        refine wpAnyH_take (i := 5) (oi := _) (v := ?_) rfl (by kernel_rfl) (by kernel_rfl) (by kernel_rfl) (fun _ _ _ h => h) (Or.inl ⟨by rfl, ?_⟩) (by assumption) ?_
        rotate_left 1
        · (intro w hSw; (try dsimp only at hSw); go_simp; first | done | with_reducible rfl)
        try go_simp
        refine wpAnyH_take (i := 6) (oi := _) (v := .slice (some ae) n d) rfl (by kernel_rfl) (by kernel_rfl) (by kernel_rfl) (fun _ _ _ h => h) (Or.inl ⟨by kernel_rfl, ?_⟩) (by assumption) ?_
        · (intro w hSw; (try dsimp only at hSw); go_simp; have y0 := gcell hSw r1; clear hSw; go_simp; first | done | with_reducible rfl)
        try go_simp
        refine wpAnyH_take (i := 7) (oi := _) (v := ?_) rfl (by kernel_rfl) (by kernel_rfl) (by kernel_rfl) (fun _ _ _ h => h) (Or.inl ⟨by rfl, ?_⟩) (by assumption) ?_
        rotate_left 1
        · (intro w hSw; (try dsimp only at hSw); go_simp; first | done | with_reducible rfl)
        try go_simp
        refine wpAnyH_take (i := 8) (oi := _) (v := ?_) rfl (by kernel_rfl) (by kernel_rfl) (by kernel_rfl) (fun _ _ _ h => h) (Or.inl ⟨by rfl, ?_⟩) (by assumption) ?_
        rotate_left 1
        · (intro w hSw; (try dsimp only at hSw); go_simp; first | done | with_reducible rfl)
        try go_simp
        refine wpAnyH_take (i := 9) (oi := _) (v := .agg #[.int .i64 i2, .string ⟨t2.toArray⟩, .int .i64 a2, .int .i64 c2]) rfl (by kernel_rfl) (by kernel_rfl) (by kernel_rfl) (fun _ _ _ h => h) (Or.inl ⟨by kernel_rfl, ?_⟩) (by assumption) ?_
        · (intro w hSw; (try dsimp only at hSw); go_simp; have y0 := gcell hSw y0; have y1 := gcell hSw y1; have y2 := gcell hSw y2; have y3 := gcell hSw y3; clear hSw; go_simp; first | done | with_reducible rfl)
        try go_simp
        refine wpAnyH_take (i := 10) (oi := _) (v := .bool true) rfl (by kernel_rfl) (by kernel_rfl) (by kernel_rfl) (fun _ _ _ h => h) (Or.inl ⟨by kernel_rfl, ?_⟩) (by assumption) ?_
        · (intro w hSw; (try dsimp only at hSw); go_simp; by_cases e1 : i1 = i2 <;> by_cases e2 : t1 = t2 <;> by_cases e3 : a1 = a2 <;> by_cases e4 : c1 = c2 <;> first | (simp [e1, e2, e3, e4]; done) | (exact absurd ⟨e1, e2, e3, e4⟩ hne))
        try go_simp
        refine wpAnyH_done (by kernel_rfl) ?_ _
        refine NoPanic.normal ?_
        go_simp
        go_wp2_with fail
        go_ret
        exact ⟨by first | (rw [HE.out]; rfl) | (have h := HE.out; simp only [Bool.decide_and] at h; rw [h]; rfl), (gg.trans gw).trans (grown_dr (grown_refl _))⟩
    · obtain rfl : k = n := by omega
      have HE : Hid (decide (s = u ∧ l = r) = true) := Lib.hid (by
        have h := HT.out
        rw [HN.out, List.take_length] at h
        have h2 : r.take l.length = r := List.take_of_length_le (by rw [← HN.out, HM.out]; exact Nat.le_refl _)
        rw [h2] at h
        simp [HC0.out, h])
      go_wp2_with fail
      go_ret
      exact ⟨by first | (rw [HE.out]; rfl) | (have h := HE.out; simp only [Bool.decide_and] at h; rw [h]; rfl), gg.trans gw⟩
end Go.Proofs.YtecobgjkodmaiaaDoor
