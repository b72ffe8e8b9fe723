/-
  The rings of a case.
-/
import Derived.Test.YtecobgjkodmaiaaDoorOdd
namespace Go.Proofs.YtecobgjkodmaiaaDoor
open Go.RowKit
attribute [local go_sem] get_mk extract_mk
def RingsAre (w : World) (e : Ending) (w' : World) : Prop := ∃ s1 A1 n1 c1 l1 s2 A2 n2 c2 l2 s3 A3 n3 c3 l3, e = .returned (.agg #[.int .i64 s1, .slice A1 n1 c1, .int .i64 s2, .slice A2 n2 c2, .int .i64 s3, .slice A3 n3 c3]) ∧ Keys w' A1 n1 c1 l1 ∧ MadeP l1 ∧ 1 ≤ l1.length ∧ l1.length ≤ 3 ∧ (1 ≤ s1 ∧ s1 ≤ 8) ∧ Keys w' A2 n2 c2 l2 ∧ l2.length ≤ 24 ∧ i64 s2 ∧ Keys w' A3 n3 c3 l3 ∧ l3.length ≤ 45 ∧ i64 s3 ∧ w.grownBy w' none
/-- keys in a block other than the one of six cells that is written -/
theorem keys_6 {w : World} {A : Option Addr} {n c : Nat} {l : List K} {R : Nat} {v0 v1 v2 v3 v4 v5 : Value} (h : Keys w A n c l) (hg : ∀ ad, A = some ad → 0 < n → ad.block ≠ R) :
    Keys ((((((w.setCell ⟨R, 0, none⟩ v0).setCell ⟨R, 1, none⟩ v1).setCell ⟨R, 2, none⟩ v2).setCell ⟨R, 3, none⟩ v3).setCell ⟨R, 4, none⟩ v4).setCell ⟨R, 5, none⟩ v5) A n c l :=
  ⟨h.len, h.le, h.cap, h.nil, h.ok, fun hn => by
    obtain ⟨ad, e, hb, hc⟩ := h.cell hn
    have gs : w.grownBy ((((((w.setCell ⟨R, 0, none⟩ v0).setCell ⟨R, 1, none⟩ v1).setCell ⟨R, 2, none⟩ v2).setCell ⟨R, 3, none⟩ v3).setCell ⟨R, 4, none⟩ v4).setCell ⟨R, 5, none⟩ v5) (some R) := grown_set (grown_set (grown_set (grown_set (grown_set (grown_set (World.grownBy.refl w (some R)) (.inr rfl)) (.inr rfl)) (.inr rfl)) (.inr rfl)) (.inr rfl)) (.inr rfl)
    refine ⟨ad, e, Nat.lt_of_lt_of_le hb gs.size, fun j x hj i v hv => ?_⟩
    have hcc := hc j x hj i v hv
    refine (World.cell?_of_block (gs.block _ (World.block_lt_of_cell? w _ hcc) ?_)).trans hcc
    rw [add_block, add_block]
    intro e2
    injection e2 with e2
    exact hg ad e hn e2⟩
theorem row_any {W : World} {R : Nat} {t : TypeId} {vs : Array Value} (h : Row W R t vs) (k : Nat) : W.cell? ⟨R, k, none⟩ = vs[k]? := by unfold Row at h; simp [World.cell?, h]
/-- keys do not lie in a block that holds no text -/
theorem keys_not {W : World} {A : Option Addr} {n c : Nat} {l : List K} {R : Nat} (hk : Keys W A n c l) (HR : Row W R 35 #[.int .i64 0, .slice none 0 0, .int .i64 0, .slice none 0 0, .int .i64 0, .slice none 0 0]) : ∀ ad, A = some ad → 0 < n → ad.block ≠ R := fun ad e hn e2 => by
  obtain ⟨ad', x, hx, e', _, _, c0, c1, _, _⟩ := hk.at 0 hn
  rw [e] at e'
  injection e' with e'
  subst e'
  rw [add_block, e2, row_any HR] at c1
  generalize (ad.add (0 * 4)).off + 1 = k at c1
  match k, c1 with
  | 0, h => simp at h
  | 1, h => simp at h
  | 2, h => simp at h
  | 3, h => simp at h
  | 4, h => simp at h
  | 5, h => simp at h
  | k + 6, h => simp at h
set_option maxRecDepth 100000 in
set_option maxHeartbeats 2000000 in
theorem rings_k (sc q0 q1 q2 r0 r1 r2 : Int) (A : Option Addr) (n c : Nat) (il : List Int) (h0 : 0 ≤ sc ∧ sc < 256) (i0 : i64 q0) (i1 : i64 q1) (i2 : i64 q2) (i3 : i64 r0) (i4 : i64 r1) (i5 : i64 r2) (w : World) (hi : Ints w A n c il) :
    Calls Tryd.prog 10 #[.agg #[.int .u8 sc, .slice A n c, .int .i64 q0, .int .i64 q1, .int .i64 q2, .int .i64 r0, .int .i64 r1, .int .i64 r2]] w (RingsAre w) := by
  obtain ⟨w1, e1, HC, g1⟩ := row_of w 26 #[.int .u8 sc, .slice A n c, .int .i64 q0, .int .i64 q1, .int .i64 q2, .int .i64 r0, .int .i64 r1, .int .i64 r2]
  obtain ⟨w2, e2, HR, g2⟩ := row_of w1 35 #[.int .i64 0, .slice none 0 0, .int .i64 0, .slice none 0 0, .int .i64 0, .slice none 0 0]
  have hs1 : w1.heap.size = w.heap.size + 1 := by rw [e1]; simp
  have E1 := Lib.hid e1
  have E2 := Lib.hid e2
  replace HC := HC.kept g2
  rw [hs1] at HR
  have gw := g1.trans g2
  have HI := Lib.hid (hi.kept gw)
  have HR0 := Lib.hid HR.lt
  clear e1 e2 g1 g2 hi
  obtain ⟨z0, z1⟩ := h0
  go_enter Tryd.func10, Tryd.ntmps10
  go_upto_region 1 with fail
  rw [← E1.out, ← E2.out]
  clear E1 E2 hs1
  obtain ⟨R, hR⟩ : ∃ R, w.heap.size + 1 = R := ⟨_, rfl⟩
  obtain ⟨C, hC⟩ : ∃ C, w.heap.size = C := ⟨_, rfl⟩
  rw [hR] at HR HR0
  rw [hC] at HC
  rw [hR, hC]
  have hwR : w.heap.size ≤ R := by omega
  have hCR : some C ≠ some R := by intro e; injection e with e; omega
  clear hR hC
  have hb : 1 ≤ 1 + sc % 8 ∧ 1 + sc % 8 ≤ 8 := ⟨by omega, by omega⟩
  have m8 : sc.tmod 8 = sc % 8 := Int.tmod_eq_emod_of_nonneg z0
  have hwc : IntKind.i64.wrap sc = sc := by rw [IntKind.wrap_i64]; omega
  have hw8 : IntKind.i64.wrap (1 + sc % 8) = 1 + sc % 8 := by rw [IntKind.wrap_i64]; omega
  have x0 : w2.cell? ⟨C, 0, none⟩ = some (.int .u8 sc) := HC.c 0 rfl
  have x1 : w2.cell? ⟨C, 1, none⟩ = some (.slice A n c) := HC.c 1 rfl
  have x2 : w2.cell? ⟨C, 2, none⟩ = some (.int .i64 q0) := HC.c 2 rfl
  have x3 : w2.cell? ⟨C, 3, none⟩ = some (.int .i64 q1) := HC.c 3 rfl
  have x4 : w2.cell? ⟨C, 4, none⟩ = some (.int .i64 q2) := HC.c 4 rfl
  have x5 : w2.cell? ⟨C, 5, none⟩ = some (.int .i64 r0) := HC.c 5 rfl
  have x6 : w2.cell? ⟨C, 6, none⟩ = some (.int .i64 r1) := HC.c 6 rfl
  have x7 : w2.cell? ⟨C, 7, none⟩ = some (.int .i64 r2) := HC.c 7 rfl
  clear HC
  go_wp2_with fail
  generalize hs1 : 1 + sc % 8 = s1 at *
  obtain ⟨hsa, hsb⟩ := hb
  clear hs1
  refine (made_k s1 A n c il ⟨by omega, by omega⟩ _ HI.out).mono ?_
  rintro e w3 ⟨A1, n1, c1, l1, rfl, hk1, HM1, hl1, hl1', g⟩
  have hn1 := Lib.hid (keys_not hk1 (HR.kept g))
  have HM1H := Lib.hid HM1
  clear HM1
  replace gw := gw.trans g
  replace HR := HR.kept g
  replace x0 := gcell g x0
  replace x1 := gcell g x1
  replace x2 := gcell g x2
  replace x3 := gcell g x3
  replace x4 := gcell g x4
  replace x5 := gcell g x5
  replace x6 := gcell g x6
  replace x7 := gcell g x7
  clear g
  go_upto_region 2 with fail
  obtain ⟨w4, e4, HP1, g⟩ := row_of w3 34 #[.int .i64 s1, .slice A1 n1 c1]
  rw [← e4]
  have hRw3 := HR.lt
  have hP1 : some w3.heap.size ≠ some R := by intro e; injection e with e; omega
  replace gw := gw.trans g
  replace HR := HR.kept g
  replace hk1 := hk1.kept g
  replace x0 := gcell g x0
  replace x1 := gcell g x1
  replace x2 := gcell g x2
  replace x3 := gcell g x3
  replace x4 := gcell g x4
  replace x5 := gcell g x5
  replace x6 := gcell g x6
  replace x7 := gcell g x7
  clear g e4
  generalize w3.heap.size = P1 at *
  have p0 : w4.cell? ⟨P1, 0, none⟩ = some (.int .i64 s1) := HP1.c 0 rfl
  have p1 : w4.cell? ⟨P1, 1, none⟩ = some (.slice A1 n1 c1) := HP1.c 1 rfl
  clear HP1
  have hn1l : n1 ≤ 3 := by rw [hk1.len]; exact hl1'
  go_wp2_with fail
  refine (odd_k s1 A1 n1 c1 l1 q0 q1 q2 ⟨by omega, by omega⟩ i0 i1 i2 (by omega) _ hk1).mono ?_
  rintro e w9 ⟨s2, A2, n2, c2, l2, rfl, hk2, hl2, hs2, g⟩
  have hn2 := Lib.hid (keys_not hk2 (HR.kept g))
  replace gw := gw.trans g
  replace HR := HR.kept g
  replace hk1 := hk1.kept g
  replace p0 := gcell g p0
  replace p1 := gcell g p1
  replace x0 := gcell g x0
  replace x1 := gcell g x1
  replace x2 := gcell g x2
  replace x3 := gcell g x3
  replace x4 := gcell g x4
  replace x5 := gcell g x5
  replace x6 := gcell g x6
  replace x7 := gcell g x7
  clear g
  go_upto_region 3 with fail
  obtain ⟨w5, e5, HP2, g⟩ := row_of w9 34 #[.int .i64 s2, .slice A2 n2 c2]
  rw [← e5]
  have hRw9 := HR.lt
  have hP2 : some w9.heap.size ≠ some R := by intro e; injection e with e; omega
  replace gw := gw.trans g
  replace HR := HR.kept g
  replace hk1 := hk1.kept g
  replace hk2 := hk2.kept g
  replace p0 := gcell g p0
  replace p1 := gcell g p1
  replace x0 := gcell g x0
  replace x1 := gcell g x1
  replace x2 := gcell g x2
  replace x3 := gcell g x3
  replace x4 := gcell g x4
  replace x5 := gcell g x5
  replace x6 := gcell g x6
  replace x7 := gcell g x7
  clear g e5
  generalize w9.heap.size = P2 at *
  have o0 : w5.cell? ⟨P2, 0, none⟩ = some (.int .i64 s2) := HP2.c 0 rfl
  have o1 : w5.cell? ⟨P2, 1, none⟩ = some (.slice A2 n2 c2) := HP2.c 1 rfl
  clear HP2
  have hn2l : n2 ≤ 24 := by rw [hk2.len]; omega
  refine wp_region_noPanic ?_
  refine wp_region_held_drew (S := (fun w' => w5.grownBy w' (some R))) (by kernel_rfl) ?_ (fun hHeld => ?_)
  · (try dsimp only); exact grown_drR (World.grownBy.refl _ _)
  refine wpAnyH_take (i := 0) (oi := _) (v := .agg #[.int .i64 s1, .slice A1 n1 c1]) rfl (by kernel_rfl) (by kernel_rfl) (by kernel_rfl) (fun _ _ _ h => h) (Or.inl ⟨by kernel_rfl, ?_⟩) (by assumption) ?_
  · (intro w hSw; (try dsimp only at hSw); go_simp; have y0 := gcellR hSw hP1 p0; have y1 := gcellR hSw hP1 p1; clear hSw; go_simp; first | done | with_reducible rfl)
  try go_simp
  refine wpAnyH_take (i := 1) (oi := _) (v := .agg #[.int .i64 s2, .slice A2 n2 c2]) rfl (by kernel_rfl) (by kernel_rfl) (by kernel_rfl) (fun _ _ _ h => h) (Or.inl ⟨by kernel_rfl, ?_⟩) (by assumption) ?_
  · (intro w hSw; (try dsimp only at hSw); go_simp; have y0 := gcellR hSw hP2 o0; have y1 := gcellR hSw hP2 o1; clear hSw; go_simp; first | done | with_reducible rfl)
  try go_simp
  refine wpAnyH_take (i := 2) (oi := _) (v := .agg #[.int .i64 s2, .slice A2 n2 c2]) rfl (by kernel_rfl) (by kernel_rfl) (by kernel_rfl) (fun _ _ _ h => h) (Or.inl ⟨by kernel_rfl, ?_⟩) (by assumption) ?_
  · (intro w hSw; (try dsimp only at hSw); go_simp; have y0 := gcellR hSw hP2 o0; have y1 := gcellR hSw hP2 o1; clear hSw; go_simp; first | done | with_reducible rfl)
  try go_simp
  refine wpAnyH_take (i := 3) (oi := _) (v := ?_) rfl (by kernel_rfl) (by kernel_rfl) (by kernel_rfl) (fun _ _ _ h => h) (Or.inl ⟨by rfl, ?_⟩) (by assumption) ?_
  rotate_left 1
  · (intro w hSw; (try dsimp only at hSw); go_simp; first | done | with_reducible rfl)
  try go_simp
  refine wpAnyH_take (i := 4) (oi := _) (v := ?_) rfl (by kernel_rfl) (by kernel_rfl) (by kernel_rfl) (fun _ _ _ h => h) (Or.inl ⟨by rfl, ?_⟩) (by assumption) ?_
  rotate_left 1
  · (intro w hSw; (try dsimp only at hSw); go_simp; first | done | with_reducible rfl)
  try go_simp
  refine wpAnyH_take (i := 5) (oi := _) (v := .agg #[.int .i64 r0, .int .i64 r1, .int .i64 r2]) rfl (by kernel_rfl) (by kernel_rfl) (by kernel_rfl) (fun _ _ _ h => h) (Or.inl ⟨by kernel_rfl, ?_⟩) (by assumption) ?_
  · (intro w hSw; (try dsimp only at hSw); go_simp; have y0 := gcellR hSw hCR x5; have y1 := gcellR hSw hCR x6; have y2 := gcellR hSw hCR x7; clear hSw; go_simp; first | done | with_reducible rfl)
  try go_simp
  refine wpAnyH_ready (rs := [6]) (by kernel_rfl) (by simp) ?_
  refine AllReadyH.cons (o := _) rfl (fun K hK => ?_) ?_
  · clear hHeld
    have g5d : w5.grownBy w5.drew none := grown_dr (grown_refl _)
    go_simp
    refine (odd_k s2 A2 n2 c2 l2 r0 r1 r2 hs2 i3 i4 i5 (by omega) _ (hk2.kept g5d)).mono ?_
    rintro e w6 ⟨s3, A3, n3, c3, l3, rfl, hk3, hl3, hs3, g⟩
    have g6 := g5d.trans g
    have HR6 := HR.kept g6
    clear g
    first | (refine hK.out _ _ ?_ (fun hHeld => ?_)) | (go_wp2_with fail; refine hK.out _ _ ?_ (fun hHeld => ?_))
    · (try dsimp only); exact grown_any g6
    clear hK K
    refine wpAnyH_take (i := 7) (oi := _) (v := .agg #[.int .i64 s1, .slice A1 n1 c1, .int .i64 s2, .slice A2 n2 c2, .int .i64 s3, .slice A3 n3 c3]) rfl (by kernel_rfl) (by kernel_rfl) (by kernel_rfl) (fun _ _ _ h => h) (Or.inl ⟨by kernel_rfl, ?_⟩) (by assumption) ?_
    · (intro w hSw; (try dsimp only at hSw); go_simp; first | done | with_reducible rfl)
    try go_simp
    refine wpAnyH_ready (rs := [8]) (by kernel_rfl) (by simp) ?_
    refine AllReadyH.cons (o := _) rfl (fun K hK => ?_) ?_
    · clear hHeld
      have k0 := HR6.c 0 rfl
      have f0 := HR6.fz 0
      have k1 := HR6.c 1 rfl
      have f1 := HR6.fz 1
      have k2 := HR6.c 2 rfl
      have f2 := HR6.fz 2
      have k3 := HR6.c 3 rfl
      have f3 := HR6.fz 3
      have k4 := HR6.c 4 rfl
      have f4 := HR6.fz 4
      have k5 := HR6.c 5 rfl
      have f5 := HR6.fz 5
      have hsz := HR6.lt
      have RS : Row _ R 35 #[.int .i64 s1, .slice A1 n1 c1, .int .i64 s2, .slice A2 n2 c2, .int .i64 s3, .slice A3 n3 c3] := ((((((HR6.set 0 (.int .i64 s1)).set 1 (.slice A1 n1 c1)).set 2 (.int .i64 s2)).set 3 (.slice A2 n2 c2)).set 4 (.int .i64 s3)).set 5 (.slice A3 n3 c3))
      have gs := (grown_set (i := 5) (v := .slice A3 n3 c3) (grown_set (i := 4) (v := .int .i64 s3) (grown_set (i := 3) (v := .slice A2 n2 c2) (grown_set (i := 2) (v := .int .i64 s2) (grown_set (i := 1) (v := .slice A1 n1 c1) (grown_set (i := 0) (v := .int .i64 s1) (grown_any (r := some R) g6) (.inr rfl)) (.inr rfl)) (.inr rfl)) (.inr rfl)) (.inr rfl)) (.inr rfl))
      have GW : w.grownBy _ none := (grown_set (i := 5) (v := .slice A3 n3 c3) (grown_set (i := 4) (v := .int .i64 s3) (grown_set (i := 3) (v := .slice A2 n2 c2) (grown_set (i := 2) (v := .int .i64 s2) (grown_set (i := 1) (v := .slice A1 n1 c1) (grown_set (i := 0) (v := .int .i64 s1) (gw.trans g6) (.inl hwR)) (.inl hwR)) (.inl hwR)) (.inl hwR)) (.inl hwR)) (.inl hwR))
      have KA := keys_6 (R := R) (hk1.kept g6) hn1.out (v0 := .int .i64 s1) (v1 := .slice A1 n1 c1) (v2 := .int .i64 s2) (v3 := .slice A2 n2 c2) (v4 := .int .i64 s3) (v5 := .slice A3 n3 c3)
      have KB := keys_6 (R := R) (hk2.kept g6) hn2.out (v0 := .int .i64 s1) (v1 := .slice A1 n1 c1) (v2 := .int .i64 s2) (v3 := .slice A2 n2 c2) (v4 := .int .i64 s3) (v5 := .slice A3 n3 c3)
      have KC := keys_6 (R := R) hk3 (keys_not hk3 HR6) (v0 := .int .i64 s1) (v1 := .slice A1 n1 c1) (v2 := .int .i64 s2) (v3 := .slice A2 n2 c2) (v4 := .int .i64 s3) (v5 := .slice A3 n3 c3)
      go_simp
      first | (refine hK.out _ _ ?_ (fun hHeld => ?_)) | (go_wp2_with fail; refine hK.out _ _ ?_ (fun hHeld => ?_))
      · (try dsimp only); exact gs
      clear hK K
      refine wpAnyH_done (by kernel_rfl) ?_ _
      refine NoPanic.normal ?_
      go_simp
      go_wp2_with fail
      exact bodyPost_ret (v := .agg #[.int .i64 s1, .slice A1 n1 c1, .int .i64 s2, .slice A2 n2 c2, .int .i64 s3, .slice A3 n3 c3]) (by simp [results, Tryd.results10, go_sem, RS.c 0 rfl, RS.c 1 rfl, RS.c 2 rfl, RS.c 3 rfl, RS.c 4 rfl, RS.c 5 rfl]) rfl ⟨s1, A1, n1, c1, l1, s2, A2, n2, c2, l2, s3, A3, n3, c3, l3, rfl, KA, HM1H.out, hl1, hl1', ⟨hsa, hsb⟩, KB, by omega, hs2, KC, by omega, hs3, GW⟩
    exact AllReadyH.nil
  exact AllReadyH.nil
end Go.Proofs.YtecobgjkodmaiaaDoor
