/-
  Rings in which something differs.
-/
import Derived.Test.YtecobgjkodmaiaaDoorMk
import Derived.Test.YtecobgjkodmaiaaDoorStealK
import Derived.Deep.DeepCutAuto
namespace Go.Proofs.YtecobgjkodmaiaaDoor
open Go.RowKit
attribute [local go_sem] get_mk extract_mk
theorem kc_setId : ∀ (l : List K) (j : Nat) (x : K) (y : Int), l[j]? = some x → kc (l.set j ⟨y, x.sec, x.frm, x.stl⟩) = (kc l).set (j * 4) (.int .i64 y)
  | [], j, x, y, h => by simp at h
  | z :: t, 0, x, y, h => by
    obtain rfl : z = x := by simpa using h
    simp [kc]
  | z :: t, j + 1, x, y, h => by
    have ih := kc_setId t j x y (by simpa using h)
    have e : kc (z :: t) = [.int .i64 z.id, .string ⟨z.sec.toArray⟩, .int .i64 z.frm, .int .i64 z.stl] ++ kc t := rfl
    have e2 : (j + 1) * 4 = (j * 4) + 4 := by omega
    have e3 : kc (z :: t.set j ⟨y, x.sec, x.frm, x.stl⟩) = [.int .i64 z.id, .string ⟨z.sec.toArray⟩, .int .i64 z.frm, .int .i64 z.stl] ++ kc (t.set j ⟨y, x.sec, x.frm, x.stl⟩) := rfl
    rw [e, e2]
    show kc (z :: t.set j _) = _
    rw [e3, ih]
    rfl
theorem OwnK.setId {w : World} {b g n c j : Nat} {l : List K} {x : K} (h : OwnK w b (.slice (some ⟨g, 0, none⟩) n c) l) (hx : l[j]? = some x) (y : Int) :
    OwnK (w.setCell ⟨g, j * 4, none⟩ (.int .i64 y)) b (.slice (some ⟨g, 0, none⟩) n c) (l.set j ⟨y, x.sec, x.frm, x.stl⟩) := by
  unfold OwnK World.ownsRow at h ⊢
  rw [kc_setId l j x y hx]
  simp only [List.length_set]
  refine ⟨h.1, ?_⟩
  rcases h.2 with ⟨e, _⟩ | ⟨g', cap, cur, e, hb, hg, h1, h2, h3, h4⟩
  · cases e
  · injection e with e1 e2 e3
    injection e1 with e1
    injection e1 with e1
    subst e1 e3
    refine .inr ⟨g, c, cur.setIfInBounds (j * 4) (.int .i64 y), by rw [e2], hb, ?_, h1, h2, by simpa using h3, ?_⟩
    · simp [World.setCell, Array.getElem?_modify, hg]
    · rw [Array.toList_setIfInBounds, List.take_set, h4]
theorem kc_setSec : ∀ (l : List K) (j : Nat) (x : K) (y : Str), l[j]? = some x → kc (l.set j ⟨x.id, y, x.frm, x.stl⟩) = (kc l).set (j * 4 + 1) (.string ⟨y.toArray⟩)
  | [], j, x, y, h => by simp at h
  | z :: t, 0, x, y, h => by
    obtain rfl : z = x := by simpa using h
    simp [kc]
  | z :: t, j + 1, x, y, h => by
    have ih := kc_setSec t j x y (by simpa using h)
    have e : kc (z :: t) = [.int .i64 z.id, .string ⟨z.sec.toArray⟩, .int .i64 z.frm, .int .i64 z.stl] ++ kc t := rfl
    have e2 : (j + 1) * 4 + 1 = (j * 4 + 1) + 4 := by omega
    have e3 : kc (z :: t.set j ⟨x.id, y, x.frm, x.stl⟩) = [.int .i64 z.id, .string ⟨z.sec.toArray⟩, .int .i64 z.frm, .int .i64 z.stl] ++ kc (t.set j ⟨x.id, y, x.frm, x.stl⟩) := rfl
    rw [e, e2]
    show kc (z :: t.set j _) = _
    rw [e3, ih]
    rfl
theorem OwnK.setSec {w : World} {b g n c j : Nat} {l : List K} {x : K} (h : OwnK w b (.slice (some ⟨g, 0, none⟩) n c) l) (hx : l[j]? = some x) (y : Str) :
    OwnK (w.setCell ⟨g, j * 4 + 1, none⟩ (.string ⟨y.toArray⟩)) b (.slice (some ⟨g, 0, none⟩) n c) (l.set j ⟨x.id, y, x.frm, x.stl⟩) := by
  unfold OwnK World.ownsRow at h ⊢
  rw [kc_setSec l j x y hx]
  simp only [List.length_set]
  refine ⟨h.1, ?_⟩
  rcases h.2 with ⟨e, _⟩ | ⟨g', cap, cur, e, hb, hg, h1, h2, h3, h4⟩
  · cases e
  · injection e with e1 e2 e3
    injection e1 with e1
    injection e1 with e1
    subst e1 e3
    refine .inr ⟨g, c, cur.setIfInBounds (j * 4 + 1) (.string ⟨y.toArray⟩), by rw [e2], hb, ?_, h1, h2, by simpa using h3, ?_⟩
    · simp [World.setCell, Array.getElem?_modify, hg]
    · rw [Array.toList_setIfInBounds, List.take_set, h4]
theorem kc_setFrm : ∀ (l : List K) (j : Nat) (x : K) (y : Int), l[j]? = some x → kc (l.set j ⟨x.id, x.sec, y, x.stl⟩) = (kc l).set (j * 4 + 2) (.int .i64 y)
  | [], j, x, y, h => by simp at h
  | z :: t, 0, x, y, h => by
    obtain rfl : z = x := by simpa using h
    simp [kc]
  | z :: t, j + 1, x, y, h => by
    have ih := kc_setFrm t j x y (by simpa using h)
    have e : kc (z :: t) = [.int .i64 z.id, .string ⟨z.sec.toArray⟩, .int .i64 z.frm, .int .i64 z.stl] ++ kc t := rfl
    have e2 : (j + 1) * 4 + 2 = (j * 4 + 2) + 4 := by omega
    have e3 : kc (z :: t.set j ⟨x.id, x.sec, y, x.stl⟩) = [.int .i64 z.id, .string ⟨z.sec.toArray⟩, .int .i64 z.frm, .int .i64 z.stl] ++ kc (t.set j ⟨x.id, x.sec, y, x.stl⟩) := rfl
    rw [e, e2]
    show kc (z :: t.set j _) = _
    rw [e3, ih]
    rfl
theorem OwnK.setFrm {w : World} {b g n c j : Nat} {l : List K} {x : K} (h : OwnK w b (.slice (some ⟨g, 0, none⟩) n c) l) (hx : l[j]? = some x) (y : Int) :
    OwnK (w.setCell ⟨g, j * 4 + 2, none⟩ (.int .i64 y)) b (.slice (some ⟨g, 0, none⟩) n c) (l.set j ⟨x.id, x.sec, y, x.stl⟩) := by
  unfold OwnK World.ownsRow at h ⊢
  rw [kc_setFrm l j x y hx]
  simp only [List.length_set]
  refine ⟨h.1, ?_⟩
  rcases h.2 with ⟨e, _⟩ | ⟨g', cap, cur, e, hb, hg, h1, h2, h3, h4⟩
  · cases e
  · injection e with e1 e2 e3
    injection e1 with e1
    injection e1 with e1
    subst e1 e3
    refine .inr ⟨g, c, cur.setIfInBounds (j * 4 + 2) (.int .i64 y), by rw [e2], hb, ?_, h1, h2, by simpa using h3, ?_⟩
    · simp [World.setCell, Array.getElem?_modify, hg]
    · rw [Array.toList_setIfInBounds, List.take_set, h4]
theorem mx_tmod (z : Int) (h : i64 z) (k : Int) (hk : 0 < k) : 0 ≤ (max z (IntKind.i64.wrap (-IntKind.i64.wrap (z + 1)))).tmod k ∧ (max z (IntKind.i64.wrap (-IntKind.i64.wrap (z + 1)))).tmod k < k := by
  obtain ⟨h1, h2⟩ := mx_bound z h
  generalize max z (IntKind.i64.wrap (-IntKind.i64.wrap (z + 1))) = m at *
  rw [Int.tmod_eq_emod_of_nonneg h1]
  exact ⟨Int.emod_nonneg _ (by omega), Int.emod_lt_of_pos _ hk⟩
theorem mx_tmod' (z : Int) (h : i64 z) (k : Int) (hk : 0 < k) : 0 ≤ (max z (wrap64 (-wrap64 (z + 1)))).tmod k ∧ (max z (wrap64 (-wrap64 (z + 1)))).tmod k < k := by
  have := mx_tmod z h k hk
  simpa only [IntWalk.i64_left] using this
def OddIs (w : World) (l : List K) (e : Ending) (w' : World) : Prop := ∃ s A n c l', e = .returned (.agg #[.int .i64 s, .slice A n c]) ∧ Keys w' A n c l' ∧ l'.length ≤ l.length + 21 ∧ i64 s ∧ w.grownBy w' none
theorem mod_at (z : Int) (_ : 0 ≤ z) (n : Nat) (hn : 0 < n) : ∃ j : Nat, j < n ∧ z % (n : Int) = (j : Int) := by
  have h1 : 0 ≤ z % (n : Int) := Int.emod_nonneg _ (by omega)
  have h2 : z % (n : Int) < n := Int.emod_lt_of_pos _ (by omega)
  exact ⟨(z % (n : Int)).toNat, by omega, by omega⟩
def OddI (w : World) (R P base : Nat) (l : List K) (wx : World) : Prop := ∃ s1 g1 c1 l', i64 s1 ∧ Row wx P 34 #[.int .i64 s1, .slice (some ⟨g1, 0, none⟩) l'.length c1] ∧ Row wx R 34 #[.int .i64 0, .slice none 0 0] ∧ OwnK wx base (.slice (some ⟨g1, 0, none⟩) l'.length c1) l' ∧ (∀ x ∈ l', x.ok) ∧ l'.length ≤ l.length + 21 ∧ g1 ≠ P ∧ w.grownBy wx none
set_option maxRecDepth 100000 in
set_option maxHeartbeats 4000000 in
/-- Odd -/
theorem odd_k (s : Int) (A : Option Addr) (n c : Nat) (l : List K) (q0 q1 q2 : Int) (hs : i64 s) (h0 : i64 q0) (h1 : i64 q1) (h2 : i64 q2) (hn : n ≤ 900) (w : World) (hk : Keys w A n c l) :
    Calls Tryd.prog 29 #[.agg #[.int .i64 s, .slice A n c], .agg #[.int .i64 q0, .int .i64 q1, .int .i64 q2]] w (OddIs w l) := by
  have HK := Lib.hid (fun W (g : w.grownBy W none) => hk.kept g)
  have HOK := Lib.hid hk.ok
  have hln := hk.len
  obtain ⟨w1, e1, HB, g1⟩ := row_of w 34 #[.int .i64 s, .slice A n c]
  obtain ⟨w2, e2, HQ, g2⟩ := row_of w1 23 #[.int .i64 q0, .int .i64 q1, .int .i64 q2]
  obtain ⟨w3, e3, HR, g3⟩ := row_of w2 34 #[.int .i64 0, .slice none 0 0]
  have hs1 : w1.heap.size = w.heap.size + 1 := by rw [e1]; simp
  have hs2 : w2.heap.size = w.heap.size + 1 + 1 := by rw [e2]; simp [hs1]
  have E1 := Lib.hid e1
  have E2 := Lib.hid e2
  have E3 := Lib.hid e3
  replace HB := HB.kept (g2.trans g3)
  replace HQ := HQ.kept g3
  rw [hs1] at HQ
  rw [hs2] at HR
  have gw := (g1.trans g2).trans g3
  have hl9 : l.length ≤ 900 := by omega
  obtain ⟨s1, s2⟩ := id hs
  clear e1 e2 e3 g1 g2 g3 hk hln
  go_enter Tryd.func29, Tryd.ntmps29
  go_upto_region 1 with fail
  rw [← E1.out, ← E2.out, ← E3.out]
  clear E1 E2 E3 hs1 hs2
  obtain ⟨R, hR⟩ : ∃ R, w.heap.size + 1 + 1 = R := ⟨_, rfl⟩
  obtain ⟨Q, hQ⟩ : ∃ Q, w.heap.size + 1 = Q := ⟨_, rfl⟩
  obtain ⟨B, hB⟩ : ∃ B, w.heap.size = B := ⟨_, rfl⟩
  rw [hR] at HR
  rw [hQ] at HQ
  rw [hB] at HB
  rw [hR, hQ, hB]
  have hwR : w.heap.size ≤ R := by omega
  clear hR hQ hB
  have b0 : w3.cell? ⟨B, 0, none⟩ = some (.int .i64 s) := HB.c 0 rfl
  have b1 : w3.cell? ⟨B, 1, none⟩ = some (.slice A n c) := HB.c 1 rfl
  go_wp2_with fail
  refine (copy_r s A n c l _ (HK.out _ gw) (by omega)).mono ?_
  rintro e w4 ⟨ga, c1, rfl, HO, g⟩
  have HW3 := Lib.hid gw.size
  have HRB := Lib.hid HR.lt
  have hRa : R < ga := by have := (HO.lt ga rfl).1; have := HR.lt; omega
  have hwa : w.heap.size ≤ ga := Nat.le_trans gw.size (HO.lt ga rfl).1
  replace gw := gw.trans g
  replace HQ := HQ.kept g
  replace HR := HR.kept g
  clear b0 b1 HB g
  go_upto_region 2 with fail
  obtain ⟨w5, e5, HP, g⟩ := row_of w4 34 #[.int .i64 s, .slice (some ⟨ga, 0, none⟩) l.length c1]
  rw [← e5]
  have hgP : ga ≠ w4.heap.size := by have := (HO.lt ga rfl).2; omega
  have hRP : R ≠ w4.heap.size := by have := HR.lt; omega
  have hwP : w.heap.size ≤ w4.heap.size := gw.size
  have HOs := HO.lt ga rfl
  replace gw := gw.trans g
  replace HQ := HQ.kept g
  replace HR := HR.kept g
  replace HO := HO.kept0 g
  clear e5 g
  have hbase := Lib.hid HOs.1
  clear HOs
  generalize w4.heap.size = P at *
  have hwb := HW3.out
  have hRb := HRB.out
  have hga := hbase.out
  clear HW3 HRB hbase
  generalize w3.heap.size = base at *
  have HKK := keys_of HO HOK.out rfl
  have hcap := HKK.cap
  have hle := HKK.le
  have hgR : ga ≠ R := by omega
  clear HKK
  have k0 : w5.cell? ⟨Q, 0, none⟩ = some (.int .i64 q0) := HQ.c 0 rfl
  have k1 : w5.cell? ⟨Q, 1, none⟩ = some (.int .i64 q1) := HQ.c 1 rfl
  have k2 : w5.cell? ⟨Q, 2, none⟩ = some (.int .i64 q2) := HQ.c 2 rfl
  have a0 : w5.cell? ⟨P, 0, none⟩ = some (.int .i64 s) := HP.c 0 rfl
  have a1 : w5.cell? ⟨P, 1, none⟩ = some (.slice (some ⟨ga, 0, none⟩) l.length c1) := HP.c 1 rfl
  go_cut [6] (fun v wx => ∃ nn : Int, v = .int .i64 nn ∧ 0 ≤ nn ∧ nn < 400 ∧ w5 = wx)
  case first =>
    have HM := Lib.hid (mx_tmod' q1 h1 400 (by decide))
    go_wp2_with fail
    go_meet
    exact ⟨_, rfl, HM.out.1, HM.out.2, rfl⟩
  obtain ⟨nn, rfl, hn0, hn4, rfl⟩ := hcut
  by_cases hl0 : l.length = 0
  · have e0 : ((l.length : Int) == 0) = true := by rw [hl0]; rfl
    have f0 := HP.fz 0
    have hsz := HP.lt
    have HP2 := HP.set 0 (.int .i64 nn)
    have HR2 := HR.far (o := P) (i := 0) (v := .int .i64 nn) hRP
    have HO2 := HO.kept (grown_setCell w5 P 0 (.int .i64 nn)) (.inr (by simpa [Value.ownBlock] using hgP))
    have gw2 := grown_set (i := 0) (v := .int .i64 nn) gw (.inl hwP)
    clear hl0
    go_upto_region 5 with fail
    clear e0 f0 hsz k0 k1 k2 a0 a1 HP HR HO gw
    generalize w5.setCell ⟨P, 0, none⟩ (.int .i64 nn) = w6 at *
    have HP : Row w6 P 34 #[.int .i64 nn, .slice (some ⟨ga, 0, none⟩) l.length c1] := HP2
    have HR := HR2
    have HO := HO2
    have gw := gw2
    have hk6 := keys_of HO HOK.out rfl
    have LEN : Hid (l.length ≤ l.length + 21) := Lib.hid (by omega)
    clear HP2 HR2 HO2 gw2 HO
    have p0 : w6.cell? ⟨P, 0, none⟩ = some (.int .i64 (nn)) := HP.c 0 rfl
    have p1 : w6.cell? ⟨P, 1, none⟩ = some (.slice (some ⟨ga, 0, none⟩) l.length c1) := HP.c 1 rfl
    have k0 : w6.cell? ⟨R, 0, none⟩ = some (.int .i64 0) := HR.c 0 rfl
    have k1 : w6.cell? ⟨R, 1, none⟩ = some (.slice none 0 0) := HR.c 1 rfl
    have f0 := HR.fz 0
    have f1 := HR.fz 1
    have hsz := HR.lt
    have RS : Row _ R 34 #[.int .i64 (nn), .slice (some ⟨ga, 0, none⟩) l.length c1] := (HR.set 0 (.int .i64 (nn))).set 1 (.slice (some ⟨ga, 0, none⟩) l.length c1)
    have gs := grown_set (i := 1) (v := .slice (some ⟨ga, 0, none⟩) l.length c1) (grown_set (i := 0) (v := .int .i64 (nn)) gw (.inl hwR)) (.inl hwR)
    have HKS := keys_far (R := R) (v0 := .int .i64 (nn)) (v1 := .slice (some ⟨ga, 0, none⟩) l.length c1) hk6 hgR
    go_wp2_with fail
    exact bodyPost_ret (v := .agg #[.int .i64 (nn), .slice (some ⟨ga, 0, none⟩) l.length c1]) (by simp [results, Tryd.results29, go_sem, RS.c 0 rfl, RS.c 1 rfl]) rfl ⟨nn, _, _, _, l, rfl, HKS, LEN.out, ⟨by omega, by omega⟩, gs⟩
  have e0 : ((l.length : Int) == 0) = false := beq_eq_false_iff_ne.2 (by omega)
  have hlnil : ¬ l = [] := fun e => hl0 (by rw [e]; rfl)
  have hlp : 0 < l.length := by omega
  clear hl0
  go_upto_region 6 with fail
  go_cut [7] (fun v wx => ∃ j : Nat, v = .pointer (some ⟨ga, j * 4, none⟩) ∧ j < l.length ∧ w5.grownBy wx none)
  case first =>
    obtain ⟨j, hj, hjl⟩ : ∃ j : Nat, (max q2 (IntKind.i64.wrap (-IntKind.i64.wrap (q2 + 1)))).tmod (l.length : Int) = (j : Int) ∧ j < l.length := by
      obtain ⟨m1, m2⟩ := mx_tmod q2 h2 (l.length : Int) (by omega)
      generalize (max q2 (IntKind.i64.wrap (-IntKind.i64.wrap (q2 + 1)))).tmod (l.length : Int) = m at *
      exact ⟨m.toNat, by omega, by omega⟩
    have hga2 : ((⟨ga, 0, none⟩ : Addr).add (j * 4)) = ⟨ga, j * 4, none⟩ := add_zero _ _
    have hlz : ¬ ((l.length : Int) = 0) := by omega
    have gz : w5.grownBy w5.drew none := grown_dr (grown_refl _)
    refine wp_region_noPanic ?_
    refine wp_region_held_drew (S := (fun w' => w5.grownBy w' none)) (by kernel_rfl) ?_ (fun hHeld => ?_)
    · (try dsimp only); (repeat (first | assumption | exact grown_refl _ | refine grown_dr ?_ | refine grown_dn ?_ | refine grown_al ?_))
    refine wpAnyH_take (i := 0) (oi := _) (v := ?_) rfl (by kernel_rfl) (by kernel_rfl) (by kernel_rfl) (fun _ _ _ h => h) (Or.inl ⟨by rfl, ?_⟩) (by assumption) ?_
    rotate_left 1
    · (intro w hSw; (try dsimp only at hSw); go_simp; first | done | with_reducible rfl)
    try go_simp
    refine wpAnyH_take (i := 1) (oi := _) (v := .slice (some ⟨ga, 0, none⟩) l.length c1) rfl (by kernel_rfl) (by kernel_rfl) (by kernel_rfl) (fun _ _ _ h => h) (Or.inl ⟨by kernel_rfl, ?_⟩) (by assumption) ?_
    · (intro w hSw; (try dsimp only at hSw); go_simp; have y0 := gcell hSw a1; clear hSw; go_simp; first | done | with_reducible rfl)
    try go_simp
    refine wpAnyH_take (i := 2) (oi := _) (v := ?_) rfl (by kernel_rfl) (by kernel_rfl) (by kernel_rfl) (fun _ _ _ h => h) (Or.inl ⟨by rfl, ?_⟩) (by assumption) ?_
    rotate_left 1
    · (intro w hSw; (try dsimp only at hSw); go_simp; first | done | with_reducible rfl)
    try go_simp
    refine wpAnyH_take (i := 3) (oi := _) (v := .int .i64 q2) rfl (by kernel_rfl) (by kernel_rfl) (by kernel_rfl) (fun _ _ _ h => h) (Or.inl ⟨by kernel_rfl, ?_⟩) (by assumption) ?_
    · (intro w hSw; (try dsimp only at hSw); go_simp; have y0 := gcell hSw k2; clear hSw; go_simp; first | done | with_reducible rfl)
    try go_simp
    refine wpAnyH_take (i := 4) (oi := _) (v := ?_) rfl (by kernel_rfl) (by kernel_rfl) (by kernel_rfl) (fun _ _ _ h => h) (Or.inl ⟨by rfl, ?_⟩) (by assumption) ?_
    rotate_left 1
    · (intro w hSw; (try dsimp only at hSw); go_simp; first | done | with_reducible rfl)
    try go_simp
    refine wpAnyH_take (i := 5) (oi := _) (v := .int .i64 q2) rfl (by kernel_rfl) (by kernel_rfl) (by kernel_rfl) (fun _ _ _ h => h) (Or.inl ⟨by kernel_rfl, ?_⟩) (by assumption) ?_
    · (intro w hSw; (try dsimp only at hSw); go_simp; have y0 := gcell hSw k2; clear hSw; go_simp; first | done | with_reducible rfl)
    try go_simp
    refine wpAnyH_take (i := 6) (oi := _) (v := ?_) rfl (by kernel_rfl) (by kernel_rfl) (by kernel_rfl) (fun _ _ _ h => h) (Or.inl ⟨by rfl, ?_⟩) (by assumption) ?_
    rotate_left 1
    · (intro w hSw; (try dsimp only at hSw); go_simp; first | done | with_reducible rfl)
    try go_simp
    refine wpAnyH_take (i := 7) (oi := _) (v := ?_) rfl (by kernel_rfl) (by kernel_rfl) (by kernel_rfl) (fun _ _ _ h => h) (Or.inl ⟨by rfl, ?_⟩) (by assumption) ?_
    rotate_left 1
    · (intro w hSw; (try dsimp only at hSw); go_simp; first | done | with_reducible rfl)
    try go_simp
    refine wpAnyH_take (i := 8) (oi := _) (v := ?_) rfl (by kernel_rfl) (by kernel_rfl) (by kernel_rfl) (fun _ _ _ h => h) (Or.inl ⟨by rfl, ?_⟩) (by assumption) ?_
    rotate_left 1
    · (intro w hSw; (try dsimp only at hSw); go_simp; first | done | with_reducible rfl)
    try go_simp
    refine wpAnyH_take (i := 9) (oi := _) (v := ?_) rfl (by kernel_rfl) (by kernel_rfl) (by kernel_rfl) (fun _ _ _ h => h) (Or.inl ⟨by rfl, ?_⟩) (by assumption) ?_
    rotate_left 1
    · (intro w hSw; (try dsimp only at hSw); go_simp; first | done | with_reducible rfl)
    try go_simp
    refine wpAnyH_take (i := 10) (oi := _) (v := .slice (some ⟨ga, 0, none⟩) l.length c1) rfl (by kernel_rfl) (by kernel_rfl) (by kernel_rfl) (fun _ _ _ h => h) (Or.inl ⟨by kernel_rfl, ?_⟩) (by assumption) ?_
    · (intro w hSw; (try dsimp only at hSw); go_simp; have y0 := gcell hSw a1; clear hSw; go_simp; first | done | with_reducible rfl)
    try go_simp
    refine wpAnyH_take (i := 11) (oi := _) (v := ?_) rfl (by kernel_rfl) (by kernel_rfl) (by kernel_rfl) (fun _ _ _ h => h) (Or.inl ⟨by rfl, ?_⟩) (by assumption) ?_
    rotate_left 1
    · (intro w hSw; (try dsimp only at hSw); go_simp; first | done | with_reducible rfl)
    try go_simp
    refine wpAnyH_take (i := 12) (oi := _) (v := .int .i64 (j : Int)) rfl (by kernel_rfl) (by kernel_rfl) (by kernel_rfl) (fun _ _ _ h => h) (Or.inl ⟨by kernel_rfl, ?_⟩) (by assumption) ?_
    · (intro w hSw; (try dsimp only at hSw); go_simp; first | done | exact hlnil | (rw [hj]; done))
    try go_simp
    refine wpAnyH_take (i := 13) (oi := _) (v := .pointer (some ⟨ga, j * 4, none⟩)) rfl (by kernel_rfl) (by kernel_rfl) (by kernel_rfl) (fun _ _ _ h => h) (Or.inl ⟨by kernel_rfl, ?_⟩) (by assumption) ?_
    · (intro w hSw; (try dsimp only at hSw); go_simp; first | done | with_reducible rfl)
    try go_simp
    refine wpAnyH_take (i := 14) (oi := _) (v := ?_) rfl (by kernel_rfl) (by kernel_rfl) (by kernel_rfl) (fun _ _ _ h => h) (Or.inl ⟨by rfl, ?_⟩) (by assumption) ?_
    rotate_left 1
    · (intro w hSw; (try dsimp only at hSw); go_simp; first | done | with_reducible rfl)
    try go_simp
    refine wpAnyH_done (by kernel_rfl) ?_ _
    refine NoPanic.normal ?_
    go_simp
    go_wp2_with fail
    go_meet
    exact ⟨j, rfl, hjl, grown_dr (grown_refl _)⟩
  obtain ⟨j, rfl, hj, g⟩ := hcut
  replace HP := HP.kept g
  replace HR := HR.kept g
  replace HO := HO.kept0 g
  replace gw := gw.trans g
  replace k0 := gcell g k0
  clear k1 k2 a0 a1 g e0
  generalize wc = wb at *
  go_upto_region 7 with fail
  go_cut [47] (fun v wx => ∃ t : Int, v = .int .i64 t ∧ 0 ≤ t ∧ t < 7 ∧ wb = wx)
  case first =>
    have HM := Lib.hid (mx_tmod' q0 h0 7 (by decide))
    go_wp2_with fail
    go_meet
    exact ⟨_, rfl, HM.out.1, HM.out.2, rfl⟩
  obtain ⟨t, rfl, ht0, ht7, rfl⟩ := hcut
  clear k0
  have hx' : ∃ x, l[j]? = some x := ⟨_, List.getElem?_eq_getElem hj⟩
  obtain ⟨x, hx⟩ := hx'
  have hxok := HOK.out x (List.mem_of_getElem? hx)
  have hcap := (keys_of HO HOK.out rfl).cap
  have hle := (keys_of HO HOK.out rfl).le
  obtain ⟨_, y, hy, eA, _, _, x0, x1, x2, x3⟩ := (keys_of HO HOK.out rfl).at j hj
  rw [hx] at hy
  injection hy with hy
  subst hy
  injection eA with eA
  subst eA
  rw [add_zero] at x0 x1 x2 x3
  simp only [] at x0 x1 x2 x3
  have p0 : wb.cell? ⟨P, 0, none⟩ = some (.int .i64 s) := HP.c 0 rfl
  have p1 : wb.cell? ⟨P, 1, none⟩ = some (.slice (some ⟨ga, 0, none⟩) l.length c1) := HP.c 1 rfl
  have m12 : nn.tmod 12 = nn % 12 := Int.tmod_eq_emod_of_nonneg hn0
  have m9 : nn.tmod 9 = nn % 9 := Int.tmod_eq_emod_of_nonneg hn0
  have mm4 : nn.tmod 4 = nn % 4 := Int.tmod_eq_emod_of_nonneg hn0
  have hw12 : IntKind.i64.wrap (nn % 12 - 1) = nn % 12 - 1 := by rw [IntKind.wrap_i64]; omega
  have hw9 : IntKind.i64.wrap (nn % 9 - 1) = nn % 9 - 1 := by rw [IntKind.wrap_i64]; omega
  have hw20 : IntKind.i64.wrap (nn - 20) = nn - 20 := by rw [IntKind.wrap_i64]; omega
  go_upto_block 0 with fail
  go_cut [6] (fun _ wx => OddI w R P base l wx)
  case first =>
    rcases (show t = 0 ∨ t = 1 ∨ t = 2 ∨ t = 3 ∨ t = 4 ∨ t = 5 ∨ t = 6 by omega) with rfl | rfl | rfl | rfl | rfl | rfl | rfl
    · have f0 := HP.fz 0
      have hsz := HP.lt
      have HPS := HP.set 0 (.int .i64 (nn % 12 - 1))
      have HRS := HR.far (o := P) (i := 0) (v := .int .i64 (nn % 12 - 1)) hRP
      have HOS := HO.kept (grown_setCell wb P 0 (.int .i64 (nn % 12 - 1))) (.inr (by simpa [Value.ownBlock] using hgP))
      have gS := grown_set (i := 0) (v := .int .i64 (nn % 12 - 1)) gw (.inl hwP)
      clear HP HR HO gw
      go_wp2_with fail
      go_meet
      exact ⟨nn % 12 - 1, ga, c1, l, ⟨by omega, by omega⟩, by simpa using HPS, HRS, HOS, HOK.out, by omega, hgP, gS⟩
    · have fz : wb.frozen? ⟨ga, j * 4, none⟩ = false := HO.frozen
      have hgb : ga < wb.heap.size := (HO.lt ga rfl).2
      have HOS := HO.setId hx (nn % 9 - 1)
      have HPS := HP.far (o := ga) (i := j * 4) (v := .int .i64 (nn % 9 - 1)) hgP.symm
      have HRS := HR.far (o := ga) (i := j * 4) (v := .int .i64 (nn % 9 - 1)) hgR.symm
      have gS := grown_set (i := j * 4) (v := .int .i64 (nn % 9 - 1)) gw (.inl hwa)
      have OKS : ∀ y ∈ l.set j _, y.ok := ok_set HOK.out (show K.ok ⟨nn % 9 - 1, x.sec, x.frm, x.stl⟩ from ⟨⟨by simp only; omega, by simp only; omega⟩, hxok.2.1, hxok.2.2.1, hxok.2.2.2⟩)
      clear HP HR HO gw
      go_wp2_with fail
      go_meet
      exact ⟨s, ga, c1, _, ⟨s1, s2⟩, by simpa using HPS, HRS, by simpa using HOS, OKS, by simp, hgP, gS⟩
    · rcases (show nn % 4 = 0 ∨ nn % 4 = 1 ∨ nn % 4 = 2 ∨ nn % 4 = 3 by omega) with hm | hm | hm | hm
      · have m4 : nn % 4 = 0 := hm
        have z0 : (wb.alloc (.cells #[.string ⟨#[]⟩, .string ⟨#[111, 97, 107]⟩, .string ⟨#[97, 32, 115, 101, 99, 114, 101, 116, 32, 116, 104, 97, 116, 32, 104, 97, 115, 32, 109, 111, 114, 101, 32, 116, 104, 97, 110, 32, 102, 111, 114, 116, 121, 32, 98, 121, 116, 101, 115, 32, 105, 110, 32, 97, 108, 108]⟩, .string ⟨#[120]⟩] 9)).cell? ⟨wb.heap.size, 0, none⟩ = some (.string ⟨#[]⟩) := cell_at rfl
        have gA := World.grownBy_alloc wb (.cells #[.string ⟨#[]⟩, .string ⟨#[111, 97, 107]⟩, .string ⟨#[97, 32, 115, 101, 99, 114, 101, 116, 32, 116, 104, 97, 116, 32, 104, 97, 115, 32, 109, 111, 114, 101, 32, 116, 104, 97, 110, 32, 102, 111, 114, 116, 121, 32, 98, 121, 116, 101, 115, 32, 105, 110, 32, 97, 108, 108]⟩, .string ⟨#[120]⟩] 9) none
        have HO6 := HO.kept0 gA
        have fz : (wb.alloc (.cells #[.string ⟨#[]⟩, .string ⟨#[111, 97, 107]⟩, .string ⟨#[97, 32, 115, 101, 99, 114, 101, 116, 32, 116, 104, 97, 116, 32, 104, 97, 115, 32, 109, 111, 114, 101, 32, 116, 104, 97, 110, 32, 102, 111, 114, 116, 121, 32, 98, 121, 116, 101, 115, 32, 105, 110, 32, 97, 108, 108]⟩, .string ⟨#[120]⟩] 9)).frozen? ⟨ga, j * 4 + 1, none⟩ = false := HO6.frozen
        have fy : wb.frozen? ⟨ga, j * 4 + 1, none⟩ = false := HO.frozen
        have d1 := gcell gA x1
        have hgb : ga < wb.heap.size := (HO.lt ga rfl).2
        have HOS : OwnK (wb.setCell ⟨ga, j * 4 + 1, none⟩ (.string ⟨#[]⟩)) base (.slice (some ⟨ga, 0, none⟩) l.length c1) (l.set j ⟨x.id, [], x.frm, x.stl⟩) := HO.setSec hx []
        have HPS := HP.far (o := ga) (i := j * 4 + 1) (v := .string ⟨#[]⟩) hgP.symm
        have HRS := HR.far (o := ga) (i := j * 4 + 1) (v := .string ⟨#[]⟩) hgR.symm
        have gS := grown_set (i := j * 4 + 1) (v := .string ⟨#[]⟩) gw (.inl hwa)
        have gB := World.grownBy_alloc (wb.setCell ⟨ga, j * 4 + 1, none⟩ (.string ⟨#[]⟩)) (.cells #[.string ⟨#[]⟩, .string ⟨#[111, 97, 107]⟩, .string ⟨#[97, 32, 115, 101, 99, 114, 101, 116, 32, 116, 104, 97, 116, 32, 104, 97, 115, 32, 109, 111, 114, 101, 32, 116, 104, 97, 110, 32, 102, 111, 114, 116, 121, 32, 98, 121, 116, 101, 115, 32, 105, 110, 32, 97, 108, 108]⟩, .string ⟨#[120]⟩] 9) none
        have OKS : ∀ y ∈ l.set j _, y.ok := ok_set HOK.out (show K.ok ⟨x.id, [], x.frm, x.stl⟩ from ⟨hxok.1, hxok.2.1, hxok.2.2.1, by simp⟩)
        clear HP HR HO gw HO6 gA
        go_wp2_with fail
        go_meet
        exact ⟨s, ga, c1, _, ⟨s1, s2⟩, by simpa using HPS.kept gB, HRS.kept gB, by simpa using HOS.kept0 gB, OKS, by simp, hgP, gS.trans gB⟩
      · have m4 : nn % 4 = 1 := hm
        have z0 : (wb.alloc (.cells #[.string ⟨#[]⟩, .string ⟨#[111, 97, 107]⟩, .string ⟨#[97, 32, 115, 101, 99, 114, 101, 116, 32, 116, 104, 97, 116, 32, 104, 97, 115, 32, 109, 111, 114, 101, 32, 116, 104, 97, 110, 32, 102, 111, 114, 116, 121, 32, 98, 121, 116, 101, 115, 32, 105, 110, 32, 97, 108, 108]⟩, .string ⟨#[120]⟩] 9)).cell? ⟨wb.heap.size, 1, none⟩ = some (.string ⟨#[111, 97, 107]⟩) := cell_at rfl
        have gA := World.grownBy_alloc wb (.cells #[.string ⟨#[]⟩, .string ⟨#[111, 97, 107]⟩, .string ⟨#[97, 32, 115, 101, 99, 114, 101, 116, 32, 116, 104, 97, 116, 32, 104, 97, 115, 32, 109, 111, 114, 101, 32, 116, 104, 97, 110, 32, 102, 111, 114, 116, 121, 32, 98, 121, 116, 101, 115, 32, 105, 110, 32, 97, 108, 108]⟩, .string ⟨#[120]⟩] 9) none
        have HO6 := HO.kept0 gA
        have fz : (wb.alloc (.cells #[.string ⟨#[]⟩, .string ⟨#[111, 97, 107]⟩, .string ⟨#[97, 32, 115, 101, 99, 114, 101, 116, 32, 116, 104, 97, 116, 32, 104, 97, 115, 32, 109, 111, 114, 101, 32, 116, 104, 97, 110, 32, 102, 111, 114, 116, 121, 32, 98, 121, 116, 101, 115, 32, 105, 110, 32, 97, 108, 108]⟩, .string ⟨#[120]⟩] 9)).frozen? ⟨ga, j * 4 + 1, none⟩ = false := HO6.frozen
        have fy : wb.frozen? ⟨ga, j * 4 + 1, none⟩ = false := HO.frozen
        have d1 := gcell gA x1
        have hgb : ga < wb.heap.size := (HO.lt ga rfl).2
        have HOS : OwnK (wb.setCell ⟨ga, j * 4 + 1, none⟩ (.string ⟨#[111, 97, 107]⟩)) base (.slice (some ⟨ga, 0, none⟩) l.length c1) (l.set j ⟨x.id, [111, 97, 107], x.frm, x.stl⟩) := HO.setSec hx [111, 97, 107]
        have HPS := HP.far (o := ga) (i := j * 4 + 1) (v := .string ⟨#[111, 97, 107]⟩) hgP.symm
        have HRS := HR.far (o := ga) (i := j * 4 + 1) (v := .string ⟨#[111, 97, 107]⟩) hgR.symm
        have gS := grown_set (i := j * 4 + 1) (v := .string ⟨#[111, 97, 107]⟩) gw (.inl hwa)
        have gB := World.grownBy_alloc (wb.setCell ⟨ga, j * 4 + 1, none⟩ (.string ⟨#[111, 97, 107]⟩)) (.cells #[.string ⟨#[]⟩, .string ⟨#[111, 97, 107]⟩, .string ⟨#[97, 32, 115, 101, 99, 114, 101, 116, 32, 116, 104, 97, 116, 32, 104, 97, 115, 32, 109, 111, 114, 101, 32, 116, 104, 97, 110, 32, 102, 111, 114, 116, 121, 32, 98, 121, 116, 101, 115, 32, 105, 110, 32, 97, 108, 108]⟩, .string ⟨#[120]⟩] 9) none
        have OKS : ∀ y ∈ l.set j _, y.ok := ok_set HOK.out (show K.ok ⟨x.id, [111, 97, 107], x.frm, x.stl⟩ from ⟨hxok.1, hxok.2.1, hxok.2.2.1, by simp⟩)
        clear HP HR HO gw HO6 gA
        go_wp2_with fail
        go_meet
        exact ⟨s, ga, c1, _, ⟨s1, s2⟩, by simpa using HPS.kept gB, HRS.kept gB, by simpa using HOS.kept0 gB, OKS, by simp, hgP, gS.trans gB⟩
      · have m4 : nn % 4 = 2 := hm
        have z0 : (wb.alloc (.cells #[.string ⟨#[]⟩, .string ⟨#[111, 97, 107]⟩, .string ⟨#[97, 32, 115, 101, 99, 114, 101, 116, 32, 116, 104, 97, 116, 32, 104, 97, 115, 32, 109, 111, 114, 101, 32, 116, 104, 97, 110, 32, 102, 111, 114, 116, 121, 32, 98, 121, 116, 101, 115, 32, 105, 110, 32, 97, 108, 108]⟩, .string ⟨#[120]⟩] 9)).cell? ⟨wb.heap.size, 2, none⟩ = some (.string ⟨#[97, 32, 115, 101, 99, 114, 101, 116, 32, 116, 104, 97, 116, 32, 104, 97, 115, 32, 109, 111, 114, 101, 32, 116, 104, 97, 110, 32, 102, 111, 114, 116, 121, 32, 98, 121, 116, 101, 115, 32, 105, 110, 32, 97, 108, 108]⟩) := cell_at rfl
        have gA := World.grownBy_alloc wb (.cells #[.string ⟨#[]⟩, .string ⟨#[111, 97, 107]⟩, .string ⟨#[97, 32, 115, 101, 99, 114, 101, 116, 32, 116, 104, 97, 116, 32, 104, 97, 115, 32, 109, 111, 114, 101, 32, 116, 104, 97, 110, 32, 102, 111, 114, 116, 121, 32, 98, 121, 116, 101, 115, 32, 105, 110, 32, 97, 108, 108]⟩, .string ⟨#[120]⟩] 9) none
        have HO6 := HO.kept0 gA
        have fz : (wb.alloc (.cells #[.string ⟨#[]⟩, .string ⟨#[111, 97, 107]⟩, .string ⟨#[97, 32, 115, 101, 99, 114, 101, 116, 32, 116, 104, 97, 116, 32, 104, 97, 115, 32, 109, 111, 114, 101, 32, 116, 104, 97, 110, 32, 102, 111, 114, 116, 121, 32, 98, 121, 116, 101, 115, 32, 105, 110, 32, 97, 108, 108]⟩, .string ⟨#[120]⟩] 9)).frozen? ⟨ga, j * 4 + 1, none⟩ = false := HO6.frozen
        have fy : wb.frozen? ⟨ga, j * 4 + 1, none⟩ = false := HO.frozen
        have d1 := gcell gA x1
        have hgb : ga < wb.heap.size := (HO.lt ga rfl).2
        have HOS : OwnK (wb.setCell ⟨ga, j * 4 + 1, none⟩ (.string ⟨#[97, 32, 115, 101, 99, 114, 101, 116, 32, 116, 104, 97, 116, 32, 104, 97, 115, 32, 109, 111, 114, 101, 32, 116, 104, 97, 110, 32, 102, 111, 114, 116, 121, 32, 98, 121, 116, 101, 115, 32, 105, 110, 32, 97, 108, 108]⟩)) base (.slice (some ⟨ga, 0, none⟩) l.length c1) (l.set j ⟨x.id, [97, 32, 115, 101, 99, 114, 101, 116, 32, 116, 104, 97, 116, 32, 104, 97, 115, 32, 109, 111, 114, 101, 32, 116, 104, 97, 110, 32, 102, 111, 114, 116, 121, 32, 98, 121, 116, 101, 115, 32, 105, 110, 32, 97, 108, 108], x.frm, x.stl⟩) := HO.setSec hx [97, 32, 115, 101, 99, 114, 101, 116, 32, 116, 104, 97, 116, 32, 104, 97, 115, 32, 109, 111, 114, 101, 32, 116, 104, 97, 110, 32, 102, 111, 114, 116, 121, 32, 98, 121, 116, 101, 115, 32, 105, 110, 32, 97, 108, 108]
        have HPS := HP.far (o := ga) (i := j * 4 + 1) (v := .string ⟨#[97, 32, 115, 101, 99, 114, 101, 116, 32, 116, 104, 97, 116, 32, 104, 97, 115, 32, 109, 111, 114, 101, 32, 116, 104, 97, 110, 32, 102, 111, 114, 116, 121, 32, 98, 121, 116, 101, 115, 32, 105, 110, 32, 97, 108, 108]⟩) hgP.symm
        have HRS := HR.far (o := ga) (i := j * 4 + 1) (v := .string ⟨#[97, 32, 115, 101, 99, 114, 101, 116, 32, 116, 104, 97, 116, 32, 104, 97, 115, 32, 109, 111, 114, 101, 32, 116, 104, 97, 110, 32, 102, 111, 114, 116, 121, 32, 98, 121, 116, 101, 115, 32, 105, 110, 32, 97, 108, 108]⟩) hgR.symm
        have gS := grown_set (i := j * 4 + 1) (v := .string ⟨#[97, 32, 115, 101, 99, 114, 101, 116, 32, 116, 104, 97, 116, 32, 104, 97, 115, 32, 109, 111, 114, 101, 32, 116, 104, 97, 110, 32, 102, 111, 114, 116, 121, 32, 98, 121, 116, 101, 115, 32, 105, 110, 32, 97, 108, 108]⟩) gw (.inl hwa)
        have gB := World.grownBy_alloc (wb.setCell ⟨ga, j * 4 + 1, none⟩ (.string ⟨#[97, 32, 115, 101, 99, 114, 101, 116, 32, 116, 104, 97, 116, 32, 104, 97, 115, 32, 109, 111, 114, 101, 32, 116, 104, 97, 110, 32, 102, 111, 114, 116, 121, 32, 98, 121, 116, 101, 115, 32, 105, 110, 32, 97, 108, 108]⟩)) (.cells #[.string ⟨#[]⟩, .string ⟨#[111, 97, 107]⟩, .string ⟨#[97, 32, 115, 101, 99, 114, 101, 116, 32, 116, 104, 97, 116, 32, 104, 97, 115, 32, 109, 111, 114, 101, 32, 116, 104, 97, 110, 32, 102, 111, 114, 116, 121, 32, 98, 121, 116, 101, 115, 32, 105, 110, 32, 97, 108, 108]⟩, .string ⟨#[120]⟩] 9) none
        have OKS : ∀ y ∈ l.set j _, y.ok := ok_set HOK.out (show K.ok ⟨x.id, [97, 32, 115, 101, 99, 114, 101, 116, 32, 116, 104, 97, 116, 32, 104, 97, 115, 32, 109, 111, 114, 101, 32, 116, 104, 97, 110, 32, 102, 111, 114, 116, 121, 32, 98, 121, 116, 101, 115, 32, 105, 110, 32, 97, 108, 108], x.frm, x.stl⟩ from ⟨hxok.1, hxok.2.1, hxok.2.2.1, by simp⟩)
        clear HP HR HO gw HO6 gA
        go_wp2_with fail
        go_meet
        exact ⟨s, ga, c1, _, ⟨s1, s2⟩, by simpa using HPS.kept gB, HRS.kept gB, by simpa using HOS.kept0 gB, OKS, by simp, hgP, gS.trans gB⟩
      · have m4 : nn % 4 = 3 := hm
        have z0 : (wb.alloc (.cells #[.string ⟨#[]⟩, .string ⟨#[111, 97, 107]⟩, .string ⟨#[97, 32, 115, 101, 99, 114, 101, 116, 32, 116, 104, 97, 116, 32, 104, 97, 115, 32, 109, 111, 114, 101, 32, 116, 104, 97, 110, 32, 102, 111, 114, 116, 121, 32, 98, 121, 116, 101, 115, 32, 105, 110, 32, 97, 108, 108]⟩, .string ⟨#[120]⟩] 9)).cell? ⟨wb.heap.size, 3, none⟩ = some (.string ⟨#[120]⟩) := cell_at rfl
        have gA := World.grownBy_alloc wb (.cells #[.string ⟨#[]⟩, .string ⟨#[111, 97, 107]⟩, .string ⟨#[97, 32, 115, 101, 99, 114, 101, 116, 32, 116, 104, 97, 116, 32, 104, 97, 115, 32, 109, 111, 114, 101, 32, 116, 104, 97, 110, 32, 102, 111, 114, 116, 121, 32, 98, 121, 116, 101, 115, 32, 105, 110, 32, 97, 108, 108]⟩, .string ⟨#[120]⟩] 9) none
        have HO6 := HO.kept0 gA
        have fz : (wb.alloc (.cells #[.string ⟨#[]⟩, .string ⟨#[111, 97, 107]⟩, .string ⟨#[97, 32, 115, 101, 99, 114, 101, 116, 32, 116, 104, 97, 116, 32, 104, 97, 115, 32, 109, 111, 114, 101, 32, 116, 104, 97, 110, 32, 102, 111, 114, 116, 121, 32, 98, 121, 116, 101, 115, 32, 105, 110, 32, 97, 108, 108]⟩, .string ⟨#[120]⟩] 9)).frozen? ⟨ga, j * 4 + 1, none⟩ = false := HO6.frozen
        have fy : wb.frozen? ⟨ga, j * 4 + 1, none⟩ = false := HO.frozen
        have d1 := gcell gA x1
        have hgb : ga < wb.heap.size := (HO.lt ga rfl).2
        have HOS : OwnK (wb.setCell ⟨ga, j * 4 + 1, none⟩ (.string ⟨#[120]⟩)) base (.slice (some ⟨ga, 0, none⟩) l.length c1) (l.set j ⟨x.id, [120], x.frm, x.stl⟩) := HO.setSec hx [120]
        have HPS := HP.far (o := ga) (i := j * 4 + 1) (v := .string ⟨#[120]⟩) hgP.symm
        have HRS := HR.far (o := ga) (i := j * 4 + 1) (v := .string ⟨#[120]⟩) hgR.symm
        have gS := grown_set (i := j * 4 + 1) (v := .string ⟨#[120]⟩) gw (.inl hwa)
        have gB := World.grownBy_alloc (wb.setCell ⟨ga, j * 4 + 1, none⟩ (.string ⟨#[120]⟩)) (.cells #[.string ⟨#[]⟩, .string ⟨#[111, 97, 107]⟩, .string ⟨#[97, 32, 115, 101, 99, 114, 101, 116, 32, 116, 104, 97, 116, 32, 104, 97, 115, 32, 109, 111, 114, 101, 32, 116, 104, 97, 110, 32, 102, 111, 114, 116, 121, 32, 98, 121, 116, 101, 115, 32, 105, 110, 32, 97, 108, 108]⟩, .string ⟨#[120]⟩] 9) none
        have OKS : ∀ y ∈ l.set j _, y.ok := ok_set HOK.out (show K.ok ⟨x.id, [120], x.frm, x.stl⟩ from ⟨hxok.1, hxok.2.1, hxok.2.2.1, by simp⟩)
        clear HP HR HO gw HO6 gA
        go_wp2_with fail
        go_meet
        exact ⟨s, ga, c1, _, ⟨s1, s2⟩, by simpa using HPS.kept gB, HRS.kept gB, by simpa using HOS.kept0 gB, OKS, by simp, hgP, gS.trans gB⟩
    · have fz : wb.frozen? ⟨ga, j * 4 + 2, none⟩ = false := HO.frozen
      have hgb : ga < wb.heap.size := (HO.lt ga rfl).2
      have HOS := HO.setFrm hx (nn - 20)
      have HPS := HP.far (o := ga) (i := j * 4 + 2) (v := .int .i64 (nn - 20)) hgP.symm
      have HRS := HR.far (o := ga) (i := j * 4 + 2) (v := .int .i64 (nn - 20)) hgR.symm
      have gS := grown_set (i := j * 4 + 2) (v := .int .i64 (nn - 20)) gw (.inl hwa)
      have OKS : ∀ y ∈ l.set j _, y.ok := ok_set HOK.out (show K.ok ⟨x.id, x.sec, nn - 20, x.stl⟩ from ⟨hxok.1, ⟨by simp only; omega, by simp only; omega⟩, hxok.2.2.1, hxok.2.2.2⟩)
      clear HP HR HO gw
      go_wp2_with fail
      go_meet
      exact ⟨s, ga, c1, _, ⟨s1, s2⟩, by simpa using HPS, HRS, by simpa using HOS, OKS, by simp, hgP, gS⟩
    · have fz : wb.frozen? ⟨ga, j * 4 + 3, none⟩ = false := HO.frozen
      have hgb : ga < wb.heap.size := (HO.lt ga rfl).2
      have HOS := HO.setStl hx (nn - 20)
      have HPS := HP.far (o := ga) (i := j * 4 + 3) (v := .int .i64 (nn - 20)) hgP.symm
      have HRS := HR.far (o := ga) (i := j * 4 + 3) (v := .int .i64 (nn - 20)) hgR.symm
      have gS := grown_set (i := j * 4 + 3) (v := .int .i64 (nn - 20)) gw (.inl hwa)
      have OKS : ∀ y ∈ l.set j _, y.ok := ok_set HOK.out (show K.ok ⟨x.id, x.sec, x.frm, nn - 20⟩ from ⟨hxok.1, hxok.2.1, ⟨by simp only; omega, by simp only; omega⟩, hxok.2.2.2⟩)
      clear HP HR HO gw
      go_wp2_with fail
      go_meet
      exact ⟨s, ga, c1, _, ⟨s1, s2⟩, by simpa using HPS, HRS, by simpa using HOS, OKS, by simp, hgP, gS⟩
    · obtain ⟨x, hx0⟩ : ∃ x, l[0]? = some x := ⟨_, List.getElem?_eq_getElem (by omega)⟩
      have hxok := HOK.out x (List.mem_of_getElem? hx0)
      have hbw : base ≤ wb.drew.heap.size := by show base ≤ wb.heap.size; have := (HO.lt ga rfl); omega
      replace HP := HP.kept (grown_dr (grown_refl wb))
      replace HR := HR.kept (grown_dr (grown_refl wb))
      replace HO := HO.kept0 (grown_dr (grown_refl wb))
      replace gw := gw.trans (grown_dr (grown_refl wb))
      clear hx
      go_upto_region 19 with fail
      refine wp_region_noPanic ?_
      refine wp_region_held_drew (S := (fun _ => True)) (by kernel_rfl) ?_ (fun hHeld => ?_)
      · (try dsimp only); first | done | trivial
      refine wpAnyH_take (i := 0) (oi := _) (v := ?_) rfl (by kernel_rfl) (by kernel_rfl) (by kernel_rfl) (fun _ _ _ h => h) (Or.inl ⟨by rfl, ?_⟩) (by assumption) ?_
      rotate_left 1
      · (intro w hSw; (try dsimp only at hSw); go_simp; first | done | with_reducible rfl)
      try go_simp
      refine wpAnyH_take (i := 2) (oi := _) (v := ?_) rfl (by kernel_rfl) (by kernel_rfl) (by kernel_rfl) (fun _ _ _ h => h) (Or.inl ⟨by rfl, ?_⟩) (by assumption) ?_
      rotate_left 1
      · (intro w hSw; (try dsimp only at hSw); go_simp; first | done | with_reducible rfl)
      try go_simp
      refine wpAnyH_ready (rs := [1, 3]) (by kernel_rfl) (by simp) ?_
      refine AllReadyH.cons (o := _) rfl (fun K hK => ?_) ?_
      · clear hHeld
        have c1q := HP.c 1 rfl
        go_simp
        first | (refine hK.out _ _ ?_ (fun hHeld => ?_)) | (go_wp2_with fail; refine hK.out _ _ ?_ (fun hHeld => ?_))
        · (try dsimp only); first | done | trivial
        clear hK K
        clear c1q
        refine wpAnyH_ready (rs := [3]) (by kernel_rfl) (by simp) ?_
        refine AllReadyH.cons (o := _) rfl (fun K hK => ?_) ?_
        · clear hHeld
          have c1q := HP.c 1 rfl
          go_simp
          first | (refine hK.out _ _ ?_ (fun hHeld => ?_)) | (go_wp2_with fail; refine hK.out _ _ ?_ (fun hHeld => ?_))
          · (try dsimp only); first | done | trivial
          clear hK K
          clear c1q
          refine wpAnyH_take (i := 4) (oi := _) (v := ?_) rfl (by kernel_rfl) (by kernel_rfl) (by kernel_rfl) (fun _ _ _ h => h) (Or.inl ⟨by rfl, ?_⟩) (by assumption) ?_
          rotate_left 1
          · (intro w hSw; (try dsimp only at hSw); go_simp; first | done | with_reducible rfl)
          try go_simp
          refine wpAnyH_ready (rs := [5]) (by kernel_rfl) (by simp) ?_
          refine AllReadyH.cons (o := _) rfl (fun K hK => ?_) ?_
          · clear hHeld
            obtain ⟨_, y6, hy6, eA6, _, _, x0, x1, x2, x3⟩ := (keys_of HO HOK.out rfl).at 0 hlp
            have e6 : x = y6 := Option.some.inj (hx0.symm.trans hy6)
            subst e6
            have e7 := Option.some.inj eA6
            subst e7
            clear hy6 eA6
            rw [show (⟨ga, 0, none⟩ : Addr).add (0 * 4) = ⟨ga, 0, none⟩ from add_zero _ _] at x0 x1 x2 x3
            simp only [Nat.zero_add] at x0 x1 x2 x3
            go_simp
            first | (refine hK.out _ _ ?_ (fun hHeld => ?_)) | (go_wp2_with fail; refine hK.out _ _ ?_ (fun hHeld => ?_))
            · (try dsimp only); first | done | trivial
            clear hK K
            clear x0 x1 x2 x3
            refine wpAnyH_ready (rs := [6]) (by kernel_rfl) (by simp) ?_
            refine AllReadyH.cons (o := _) rfl (fun K hK => ?_) ?_
            · clear hHeld
              obtain ⟨w3, e3, HS, g3⟩ : ∃ w3, w3 = (wb.alloc (.cells #[.int .i64 x.id, .string ⟨x.sec.toArray⟩, .int .i64 x.frm, .int .i64 x.stl] 28)).drew ∧ Row w3 wb.heap.size 28 x.cells ∧ wb.drew.grownBy w3 none := ⟨_, rfl, (Row.new wb 28 _).kept (grown_dr (grown_refl _)), (fun g => ⟨g.os, g.tape, g.output, g.size, g.block⟩) (World.grownBy_alloc wb (.cells #[.int .i64 x.id, .string ⟨x.sec.toArray⟩, .int .i64 x.frm, .int .i64 x.stl] 28) none)⟩
              have hsz3 := g3.size
              replace HP := HP.kept g3
              replace HR := HR.kept g3
              replace HO := HO.kept0 g3
              replace gw := gw.trans g3
              go_simp
              first | (refine hK.out _ _ ?_ (fun hHeld => ?_)) | (go_wp2_with fail; refine hK.out _ _ ?_ (fun hHeld => ?_))
              · (try dsimp only); first | done | trivial
              clear hK K
              first | rw [← e3] | (have e4 : w3 = wb.drew.alloc (.cells #[.int .i64 x.id, .string ⟨x.sec.toArray⟩, .int .i64 x.frm, .int .i64 x.stl] 28) := e3; rw [← e4]; clear e4)
              clear e3 g3
              refine wpAnyH_ready (rs := [7]) (by kernel_rfl) (by simp) ?_
              refine AllReadyH.cons (o := _) rfl (fun K hK => ?_) ?_
              · clear hHeld
                have hb3 : base ≤ w3.heap.size := Nat.le_trans hbw hsz3
                refine step_append_keys rfl (.tmp 89) (.tmp 94) rfl base _ l rfl HO (some ⟨wb.heap.size, 0, none⟩) 1 1 [x] rfl (Keys.one HS hxok) (by omega) hb3 ?_
                intro v' w4 ho hg hb hv
                obtain ⟨gb, c2, rfl⟩ := own_some ho
                have HP4 := HP.keptR hg (by intro e; have e : some P = some ga := e; injection e with e; exact hgP e.symm)
                have HR4 := HR.keptR hg (by intro e; have e : some R = some ga := e; injection e with e; omega)
                have g4 : w.grownBy w4 none := gw.andThen hg (fun r e => .inl (by have e : some ga = some r := e; injection e with e; omega))
                have hgD : gb ≠ P := own_ne hb hgP (show P ≠ w3.heap.size by have := HP.lt; omega)
                clear HP HR HO gw hg hb hv HS hb3 hsz3
                first | (refine hK.out _ _ ?_ (fun hHeld => ?_)) | (go_wp2_with fail; refine hK.out _ _ ?_ (fun hHeld => ?_))
                · (try dsimp only); first | done | trivial
                clear hK K
                refine wpAnyH_take (i := 8) (oi := _) (v := ?_) rfl (by kernel_rfl) (by kernel_rfl) (by kernel_rfl) (fun _ _ _ h => h) (Or.inl ⟨by rfl, ?_⟩) (by assumption) ?_
                rotate_left 1
                · (intro w hSw; (try dsimp only at hSw); go_simp; first | done | with_reducible rfl)
                try go_simp
                refine wpAnyH_ready (rs := [9]) (by kernel_rfl) (by simp) ?_
                refine AllReadyH.cons (o := _) rfl (fun K hK => ?_) ?_
                · clear hHeld
                  have k1 := HP4.c 1 rfl
                  have f1 := HP4.fz 1
                  have hsz := HP4.lt
                  have RS : Row _ P 34 #[.int .i64 s, .slice (some ⟨gb, 0, none⟩) (l.length + 1) c2] := HP4.set 1 (.slice (some ⟨gb, 0, none⟩) (l.length + 1) c2)
                  have HRS := HR4.far (o := P) (i := 1) (v := .slice (some ⟨gb, 0, none⟩) (l.length + 1) c2) hRP
                  have gs := grown_set (i := 1) (v := .slice (some ⟨gb, 0, none⟩) (l.length + 1) c2) g4 (.inl hwP)
                  have HOS := ho.kept (grown_setCell w4 P 1 (.slice (some ⟨gb, 0, none⟩) (l.length + 1) c2)) (.inr (by simpa [Value.ownBlock] using hgD))
                  clear HP4 HR4 g4 ho
                  go_simp
                  first | (refine hK.out _ _ ?_ (fun hHeld => ?_)) | (go_wp2_with fail; refine hK.out _ _ ?_ (fun hHeld => ?_))
                  · (try dsimp only); first | done | trivial
                  clear hK K
                  refine wpAnyH_done (by kernel_rfl) ?_ _
                  refine NoPanic.normal ?_
                  go_simp
                  go_wp2_with fail
                  go_meet
                  exact ⟨s, gb, c2, l ++ [x], ⟨s1, s2⟩, by simpa using RS, HRS, by simpa using HOS, ok_app HOK.out hxok, by simp, hgD, gs⟩
                exact AllReadyH.nil
              exact AllReadyH.nil
            exact AllReadyH.nil
          exact AllReadyH.nil
        exact AllReadyH.nil
      refine AllReadyH.cons (o := _) rfl (fun K hK => ?_) ?_
      · clear hHeld
        have c1q := HP.c 1 rfl
        go_simp
        first | (refine hK.out _ _ ?_ (fun hHeld => ?_)) | (go_wp2_with fail; refine hK.out _ _ ?_ (fun hHeld => ?_))
        · (try dsimp only); first | done | trivial
        clear hK K
        clear c1q
        refine wpAnyH_take (i := 4) (oi := _) (v := ?_) rfl (by kernel_rfl) (by kernel_rfl) (by kernel_rfl) (fun _ _ _ h => h) (Or.inl ⟨by rfl, ?_⟩) (by assumption) ?_
        rotate_left 1
        · (intro w hSw; (try dsimp only at hSw); go_simp; first | done | with_reducible rfl)
        try go_simp
        refine wpAnyH_ready (rs := [1, 5]) (by kernel_rfl) (by simp) ?_
        refine AllReadyH.cons (o := _) rfl (fun K hK => ?_) ?_
        · clear hHeld
          have c1q := HP.c 1 rfl
          go_simp
          first | (refine hK.out _ _ ?_ (fun hHeld => ?_)) | (go_wp2_with fail; refine hK.out _ _ ?_ (fun hHeld => ?_))
          · (try dsimp only); first | done | trivial
          clear hK K
          clear c1q
          refine wpAnyH_ready (rs := [5]) (by kernel_rfl) (by simp) ?_
          refine AllReadyH.cons (o := _) rfl (fun K hK => ?_) ?_
          · clear hHeld
            obtain ⟨_, y6, hy6, eA6, _, _, x0, x1, x2, x3⟩ := (keys_of HO HOK.out rfl).at 0 hlp
            have e6 : x = y6 := Option.some.inj (hx0.symm.trans hy6)
            subst e6
            have e7 := Option.some.inj eA6
            subst e7
            clear hy6 eA6
            rw [show (⟨ga, 0, none⟩ : Addr).add (0 * 4) = ⟨ga, 0, none⟩ from add_zero _ _] at x0 x1 x2 x3
            simp only [Nat.zero_add] at x0 x1 x2 x3
            go_simp
            first | (refine hK.out _ _ ?_ (fun hHeld => ?_)) | (go_wp2_with fail; refine hK.out _ _ ?_ (fun hHeld => ?_))
            · (try dsimp only); first | done | trivial
            clear hK K
            clear x0 x1 x2 x3
            refine wpAnyH_ready (rs := [6]) (by kernel_rfl) (by simp) ?_
            refine AllReadyH.cons (o := _) rfl (fun K hK => ?_) ?_
            · clear hHeld
              obtain ⟨w3, e3, HS, g3⟩ : ∃ w3, w3 = (wb.alloc (.cells #[.int .i64 x.id, .string ⟨x.sec.toArray⟩, .int .i64 x.frm, .int .i64 x.stl] 28)).drew ∧ Row w3 wb.heap.size 28 x.cells ∧ wb.drew.grownBy w3 none := ⟨_, rfl, (Row.new wb 28 _).kept (grown_dr (grown_refl _)), (fun g => ⟨g.os, g.tape, g.output, g.size, g.block⟩) (World.grownBy_alloc wb (.cells #[.int .i64 x.id, .string ⟨x.sec.toArray⟩, .int .i64 x.frm, .int .i64 x.stl] 28) none)⟩
              have hsz3 := g3.size
              replace HP := HP.kept g3
              replace HR := HR.kept g3
              replace HO := HO.kept0 g3
              replace gw := gw.trans g3
              go_simp
              first | (refine hK.out _ _ ?_ (fun hHeld => ?_)) | (go_wp2_with fail; refine hK.out _ _ ?_ (fun hHeld => ?_))
              · (try dsimp only); first | done | trivial
              clear hK K
              first | rw [← e3] | (have e4 : w3 = wb.drew.alloc (.cells #[.int .i64 x.id, .string ⟨x.sec.toArray⟩, .int .i64 x.frm, .int .i64 x.stl] 28) := e3; rw [← e4]; clear e4)
              clear e3 g3
              refine wpAnyH_ready (rs := [7]) (by kernel_rfl) (by simp) ?_
              refine AllReadyH.cons (o := _) rfl (fun K hK => ?_) ?_
              · clear hHeld
                have hb3 : base ≤ w3.heap.size := Nat.le_trans hbw hsz3
                refine step_append_keys rfl (.tmp 89) (.tmp 94) rfl base _ l rfl HO (some ⟨wb.heap.size, 0, none⟩) 1 1 [x] rfl (Keys.one HS hxok) (by omega) hb3 ?_
                intro v' w4 ho hg hb hv
                obtain ⟨gb, c2, rfl⟩ := own_some ho
                have HP4 := HP.keptR hg (by intro e; have e : some P = some ga := e; injection e with e; exact hgP e.symm)
                have HR4 := HR.keptR hg (by intro e; have e : some R = some ga := e; injection e with e; omega)
                have g4 : w.grownBy w4 none := gw.andThen hg (fun r e => .inl (by have e : some ga = some r := e; injection e with e; omega))
                have hgD : gb ≠ P := own_ne hb hgP (show P ≠ w3.heap.size by have := HP.lt; omega)
                clear HP HR HO gw hg hb hv HS hb3 hsz3
                first | (refine hK.out _ _ ?_ (fun hHeld => ?_)) | (go_wp2_with fail; refine hK.out _ _ ?_ (fun hHeld => ?_))
                · (try dsimp only); first | done | trivial
                clear hK K
                refine wpAnyH_take (i := 8) (oi := _) (v := ?_) rfl (by kernel_rfl) (by kernel_rfl) (by kernel_rfl) (fun _ _ _ h => h) (Or.inl ⟨by rfl, ?_⟩) (by assumption) ?_
                rotate_left 1
                · (intro w hSw; (try dsimp only at hSw); go_simp; first | done | with_reducible rfl)
                try go_simp
                refine wpAnyH_ready (rs := [9]) (by kernel_rfl) (by simp) ?_
                refine AllReadyH.cons (o := _) rfl (fun K hK => ?_) ?_
                · clear hHeld
                  have k1 := HP4.c 1 rfl
                  have f1 := HP4.fz 1
                  have hsz := HP4.lt
                  have RS : Row _ P 34 #[.int .i64 s, .slice (some ⟨gb, 0, none⟩) (l.length + 1) c2] := HP4.set 1 (.slice (some ⟨gb, 0, none⟩) (l.length + 1) c2)
                  have HRS := HR4.far (o := P) (i := 1) (v := .slice (some ⟨gb, 0, none⟩) (l.length + 1) c2) hRP
                  have gs := grown_set (i := 1) (v := .slice (some ⟨gb, 0, none⟩) (l.length + 1) c2) g4 (.inl hwP)
                  have HOS := ho.kept (grown_setCell w4 P 1 (.slice (some ⟨gb, 0, none⟩) (l.length + 1) c2)) (.inr (by simpa [Value.ownBlock] using hgD))
                  clear HP4 HR4 g4 ho
                  go_simp
                  first | (refine hK.out _ _ ?_ (fun hHeld => ?_)) | (go_wp2_with fail; refine hK.out _ _ ?_ (fun hHeld => ?_))
                  · (try dsimp only); first | done | trivial
                  clear hK K
                  refine wpAnyH_done (by kernel_rfl) ?_ _
                  refine NoPanic.normal ?_
                  go_simp
                  go_wp2_with fail
                  go_meet
                  exact ⟨s, gb, c2, l ++ [x], ⟨s1, s2⟩, by simpa using RS, HRS, by simpa using HOS, ok_app HOK.out hxok, by simp, hgD, gs⟩
                exact AllReadyH.nil
              exact AllReadyH.nil
            exact AllReadyH.nil
          exact AllReadyH.nil
        refine AllReadyH.cons (o := _) rfl (fun K hK => ?_) ?_
        · clear hHeld
          obtain ⟨_, y6, hy6, eA6, _, _, x0, x1, x2, x3⟩ := (keys_of HO HOK.out rfl).at 0 hlp
          have e6 : x = y6 := Option.some.inj (hx0.symm.trans hy6)
          subst e6
          have e7 := Option.some.inj eA6
          subst e7
          clear hy6 eA6
          rw [show (⟨ga, 0, none⟩ : Addr).add (0 * 4) = ⟨ga, 0, none⟩ from add_zero _ _] at x0 x1 x2 x3
          simp only [Nat.zero_add] at x0 x1 x2 x3
          go_simp
          first | (refine hK.out _ _ ?_ (fun hHeld => ?_)) | (go_wp2_with fail; refine hK.out _ _ ?_ (fun hHeld => ?_))
          · (try dsimp only); first | done | trivial
          clear hK K
          clear x0 x1 x2 x3
          refine wpAnyH_ready (rs := [1, 6]) (by kernel_rfl) (by simp) ?_
          refine AllReadyH.cons (o := _) rfl (fun K hK => ?_) ?_
          · clear hHeld
            have c1q := HP.c 1 rfl
            go_simp
            first | (refine hK.out _ _ ?_ (fun hHeld => ?_)) | (go_wp2_with fail; refine hK.out _ _ ?_ (fun hHeld => ?_))
            · (try dsimp only); first | done | trivial
            clear hK K
            clear c1q
            refine wpAnyH_ready (rs := [6]) (by kernel_rfl) (by simp) ?_
            refine AllReadyH.cons (o := _) rfl (fun K hK => ?_) ?_
            · clear hHeld
              obtain ⟨w3, e3, HS, g3⟩ : ∃ w3, w3 = (wb.alloc (.cells #[.int .i64 x.id, .string ⟨x.sec.toArray⟩, .int .i64 x.frm, .int .i64 x.stl] 28)).drew ∧ Row w3 wb.heap.size 28 x.cells ∧ wb.drew.grownBy w3 none := ⟨_, rfl, (Row.new wb 28 _).kept (grown_dr (grown_refl _)), (fun g => ⟨g.os, g.tape, g.output, g.size, g.block⟩) (World.grownBy_alloc wb (.cells #[.int .i64 x.id, .string ⟨x.sec.toArray⟩, .int .i64 x.frm, .int .i64 x.stl] 28) none)⟩
              have hsz3 := g3.size
              replace HP := HP.kept g3
              replace HR := HR.kept g3
              replace HO := HO.kept0 g3
              replace gw := gw.trans g3
              go_simp
              first | (refine hK.out _ _ ?_ (fun hHeld => ?_)) | (go_wp2_with fail; refine hK.out _ _ ?_ (fun hHeld => ?_))
              · (try dsimp only); first | done | trivial
              clear hK K
              first | rw [← e3] | (have e4 : w3 = wb.drew.alloc (.cells #[.int .i64 x.id, .string ⟨x.sec.toArray⟩, .int .i64 x.frm, .int .i64 x.stl] 28) := e3; rw [← e4]; clear e4)
              clear e3 g3
              refine wpAnyH_ready (rs := [7]) (by kernel_rfl) (by simp) ?_
              refine AllReadyH.cons (o := _) rfl (fun K hK => ?_) ?_
              · clear hHeld
                have hb3 : base ≤ w3.heap.size := Nat.le_trans hbw hsz3
                refine step_append_keys rfl (.tmp 89) (.tmp 94) rfl base _ l rfl HO (some ⟨wb.heap.size, 0, none⟩) 1 1 [x] rfl (Keys.one HS hxok) (by omega) hb3 ?_
                intro v' w4 ho hg hb hv
                obtain ⟨gb, c2, rfl⟩ := own_some ho
                have HP4 := HP.keptR hg (by intro e; have e : some P = some ga := e; injection e with e; exact hgP e.symm)
                have HR4 := HR.keptR hg (by intro e; have e : some R = some ga := e; injection e with e; omega)
                have g4 : w.grownBy w4 none := gw.andThen hg (fun r e => .inl (by have e : some ga = some r := e; injection e with e; omega))
                have hgD : gb ≠ P := own_ne hb hgP (show P ≠ w3.heap.size by have := HP.lt; omega)
                clear HP HR HO gw hg hb hv HS hb3 hsz3
                first | (refine hK.out _ _ ?_ (fun hHeld => ?_)) | (go_wp2_with fail; refine hK.out _ _ ?_ (fun hHeld => ?_))
                · (try dsimp only); first | done | trivial
                clear hK K
                refine wpAnyH_take (i := 8) (oi := _) (v := ?_) rfl (by kernel_rfl) (by kernel_rfl) (by kernel_rfl) (fun _ _ _ h => h) (Or.inl ⟨by rfl, ?_⟩) (by assumption) ?_
                rotate_left 1
                · (intro w hSw; (try dsimp only at hSw); go_simp; first | done | with_reducible rfl)
                try go_simp
                refine wpAnyH_ready (rs := [9]) (by kernel_rfl) (by simp) ?_
                refine AllReadyH.cons (o := _) rfl (fun K hK => ?_) ?_
                · clear hHeld
                  have k1 := HP4.c 1 rfl
                  have f1 := HP4.fz 1
                  have hsz := HP4.lt
                  have RS : Row _ P 34 #[.int .i64 s, .slice (some ⟨gb, 0, none⟩) (l.length + 1) c2] := HP4.set 1 (.slice (some ⟨gb, 0, none⟩) (l.length + 1) c2)
                  have HRS := HR4.far (o := P) (i := 1) (v := .slice (some ⟨gb, 0, none⟩) (l.length + 1) c2) hRP
                  have gs := grown_set (i := 1) (v := .slice (some ⟨gb, 0, none⟩) (l.length + 1) c2) g4 (.inl hwP)
                  have HOS := ho.kept (grown_setCell w4 P 1 (.slice (some ⟨gb, 0, none⟩) (l.length + 1) c2)) (.inr (by simpa [Value.ownBlock] using hgD))
                  clear HP4 HR4 g4 ho
                  go_simp
                  first | (refine hK.out _ _ ?_ (fun hHeld => ?_)) | (go_wp2_with fail; refine hK.out _ _ ?_ (fun hHeld => ?_))
                  · (try dsimp only); first | done | trivial
                  clear hK K
                  refine wpAnyH_done (by kernel_rfl) ?_ _
                  refine NoPanic.normal ?_
                  go_simp
                  go_wp2_with fail
                  go_meet
                  exact ⟨s, gb, c2, l ++ [x], ⟨s1, s2⟩, by simpa using RS, HRS, by simpa using HOS, ok_app HOK.out hxok, by simp, hgD, gs⟩
                exact AllReadyH.nil
              exact AllReadyH.nil
            exact AllReadyH.nil
          refine AllReadyH.cons (o := _) rfl (fun K hK => ?_) ?_
          · clear hHeld
            obtain ⟨w3, e3, HS, g3⟩ : ∃ w3, w3 = (wb.alloc (.cells #[.int .i64 x.id, .string ⟨x.sec.toArray⟩, .int .i64 x.frm, .int .i64 x.stl] 28)).drew ∧ Row w3 wb.heap.size 28 x.cells ∧ wb.drew.grownBy w3 none := ⟨_, rfl, (Row.new wb 28 _).kept (grown_dr (grown_refl _)), (fun g => ⟨g.os, g.tape, g.output, g.size, g.block⟩) (World.grownBy_alloc wb (.cells #[.int .i64 x.id, .string ⟨x.sec.toArray⟩, .int .i64 x.frm, .int .i64 x.stl] 28) none)⟩
            have hsz3 := g3.size
            replace HP := HP.kept g3
            replace HR := HR.kept g3
            replace HO := HO.kept0 g3
            replace gw := gw.trans g3
            go_simp
            first | (refine hK.out _ _ ?_ (fun hHeld => ?_)) | (go_wp2_with fail; refine hK.out _ _ ?_ (fun hHeld => ?_))
            · (try dsimp only); first | done | trivial
            clear hK K
            first | rw [← e3] | (have e4 : w3 = wb.drew.alloc (.cells #[.int .i64 x.id, .string ⟨x.sec.toArray⟩, .int .i64 x.frm, .int .i64 x.stl] 28) := e3; rw [← e4]; clear e4)
            clear e3 g3
            refine wpAnyH_ready (rs := [1]) (by kernel_rfl) (by simp) ?_
            refine AllReadyH.cons (o := _) rfl (fun K hK => ?_) ?_
            · clear hHeld
              have c1q := HP.c 1 rfl
              go_simp
              first | (refine hK.out _ _ ?_ (fun hHeld => ?_)) | (go_wp2_with fail; refine hK.out _ _ ?_ (fun hHeld => ?_))
              · (try dsimp only); first | done | trivial
              clear hK K
              clear c1q
              refine wpAnyH_ready (rs := [7]) (by kernel_rfl) (by simp) ?_
              refine AllReadyH.cons (o := _) rfl (fun K hK => ?_) ?_
              · clear hHeld
                have hb3 : base ≤ w3.heap.size := Nat.le_trans hbw hsz3
                refine step_append_keys rfl (.tmp 89) (.tmp 94) rfl base _ l rfl HO (some ⟨wb.heap.size, 0, none⟩) 1 1 [x] rfl (Keys.one HS hxok) (by omega) hb3 ?_
                intro v' w4 ho hg hb hv
                obtain ⟨gb, c2, rfl⟩ := own_some ho
                have HP4 := HP.keptR hg (by intro e; have e : some P = some ga := e; injection e with e; exact hgP e.symm)
                have HR4 := HR.keptR hg (by intro e; have e : some R = some ga := e; injection e with e; omega)
                have g4 : w.grownBy w4 none := gw.andThen hg (fun r e => .inl (by have e : some ga = some r := e; injection e with e; omega))
                have hgD : gb ≠ P := own_ne hb hgP (show P ≠ w3.heap.size by have := HP.lt; omega)
                clear HP HR HO gw hg hb hv HS hb3 hsz3
                first | (refine hK.out _ _ ?_ (fun hHeld => ?_)) | (go_wp2_with fail; refine hK.out _ _ ?_ (fun hHeld => ?_))
                · (try dsimp only); first | done | trivial
                clear hK K
                refine wpAnyH_take (i := 8) (oi := _) (v := ?_) rfl (by kernel_rfl) (by kernel_rfl) (by kernel_rfl) (fun _ _ _ h => h) (Or.inl ⟨by rfl, ?_⟩) (by assumption) ?_
                rotate_left 1
                · (intro w hSw; (try dsimp only at hSw); go_simp; first | done | with_reducible rfl)
                try go_simp
                refine wpAnyH_ready (rs := [9]) (by kernel_rfl) (by simp) ?_
                refine AllReadyH.cons (o := _) rfl (fun K hK => ?_) ?_
                · clear hHeld
                  have k1 := HP4.c 1 rfl
                  have f1 := HP4.fz 1
                  have hsz := HP4.lt
                  have RS : Row _ P 34 #[.int .i64 s, .slice (some ⟨gb, 0, none⟩) (l.length + 1) c2] := HP4.set 1 (.slice (some ⟨gb, 0, none⟩) (l.length + 1) c2)
                  have HRS := HR4.far (o := P) (i := 1) (v := .slice (some ⟨gb, 0, none⟩) (l.length + 1) c2) hRP
                  have gs := grown_set (i := 1) (v := .slice (some ⟨gb, 0, none⟩) (l.length + 1) c2) g4 (.inl hwP)
                  have HOS := ho.kept (grown_setCell w4 P 1 (.slice (some ⟨gb, 0, none⟩) (l.length + 1) c2)) (.inr (by simpa [Value.ownBlock] using hgD))
                  clear HP4 HR4 g4 ho
                  go_simp
                  first | (refine hK.out _ _ ?_ (fun hHeld => ?_)) | (go_wp2_with fail; refine hK.out _ _ ?_ (fun hHeld => ?_))
                  · (try dsimp only); first | done | trivial
                  clear hK K
                  refine wpAnyH_done (by kernel_rfl) ?_ _
                  refine NoPanic.normal ?_
                  go_simp
                  go_wp2_with fail
                  go_meet
                  exact ⟨s, gb, c2, l ++ [x], ⟨s1, s2⟩, by simpa using RS, HRS, by simpa using HOS, ok_app HOK.out hxok, by simp, hgD, gs⟩
                exact AllReadyH.nil
              exact AllReadyH.nil
            exact AllReadyH.nil
          exact AllReadyH.nil
        exact AllReadyH.nil
      exact AllReadyH.nil
    · have m3 : nn.tmod 3 = nn % 3 := Int.tmod_eq_emod_of_nonneg hn0
      go_upto_block 1 with fail
      go_wp2_with fail
      go_loopw [8] (fun iv wr => ∃ (i : Nat) (g1 cc : Nat) (l' : List K), i ≤ 21 ∧ iv = .int .i64 (i : Int) ∧ Row wr P 34 #[.int .i64 s, .slice (some ⟨g1, 0, none⟩) l'.length cc] ∧ Row wr R 34 #[.int .i64 0, .slice none 0 0] ∧ OwnK wr base (.slice (some ⟨g1, 0, none⟩) l'.length cc) l' ∧ (∀ y ∈ l', y.ok) ∧ Hid (l'.length = l.length + i) ∧ g1 ≠ P ∧ base ≤ wr.heap.size ∧ w.grownBy wr none) (fun iv _ => 21 - (intOf iv).toNat)
      case atStart => exact ⟨0, ga, c1, l, by omega, rfl, HP, HR, HO, HOK.out, Lib.hid rfl, hgP, by have := (HO.lt ga rfl); omega, gw⟩
      case round =>
        clear HP HR HO gw hgP hgR
        obtain ⟨i, g1, cc, l', hi, rfl, HP, HR, HO, hok', HLN, hg1, hbb, gw⟩ := hrel
        have hg1b := (HO.lt g1 rfl).1
        have p0 : wr.cell? ⟨P, 0, none⟩ = some (.int .i64 s) := HP.c 0 rfl
        have p1 : wr.cell? ⟨P, 1, none⟩ = some (.slice (some ⟨g1, 0, none⟩) l'.length cc) := HP.c 1 rfl
        have hl21 : l'.length + 1 ≤ 1000000 := by have := HLN.out; omega
        have hOKH := Lib.hid hok'
        clear hok'
        by_cases hlt : (i : Int) < 19 + nn % 3
        · have gN := World.grownBy_alloc wr (.cells #[.int .i64 (100 + (i : Int)), .string ⟨#[120]⟩, .int .i64 1000, .int .i64 0] 28) none
          have HN := Row.new wr 28 #[.int .i64 (100 + (i : Int)), .string ⟨#[120]⟩, .int .i64 1000, .int .i64 0]
          have hwi : IntKind.i64.wrap (100 + (i : Int)) = 100 + (i : Int) := by rw [IntKind.wrap_i64]; omega
          have hnx : K.ok ⟨100 + (i : Int), [120], 1000, 0⟩ := ⟨⟨by simp only; omega, by simp only; omega⟩, ⟨by simp only; omega, by simp only; omega⟩, ⟨by simp only; omega, by simp only; omega⟩, by simp⟩
          have hvo : Hid (∀ g, (Value.slice (some ⟨g1, 0, none⟩) l'.length cc).ownBlock = some g → base ≤ g) := Lib.hid (fun g e => (HO.lt g e).1)
          have HOKN := Lib.hid (ok_app hOKH.out hnx)
          have HLE := Lib.hid (show (l' ++ [(⟨100 + (i : Int), [120], 1000, 0⟩ : K)]).length = l.length + (i + 1) by rw [List.length_append, HLN.out]; simp; omega)
          clear HLN
          go_wp2_with (at_builtin; refine wpList_append_keys rfl _ _ rfl base _ l' rfl (HO.kept0 gN) (some ⟨wr.heap.size, 0, none⟩) 1 1 [⟨100 + (i : Int), [120], 1000, 0⟩] rfl (Keys.one (x := ⟨100 + (i : Int), [120], 1000, 0⟩) HN hnx) hl21 (Nat.le_trans hbb gN.size) ?_; intro v' w7 ho hg hb hv; obtain ⟨gb, c2, rfl⟩ := own_some ho; have HP7 := (HP.kept gN).keptR hg (by intro e; have e : some P = some g1 := e; injection e with e; exact hg1 e.symm); have HR7 := (HR.kept gN).keptR hg (by intro e; have e : some R = some g1 := e; injection e with e; omega); have k0 : w7.cell? ⟨P, 0, none⟩ = some (.int .i64 s) := HP7.c 0 rfl; have k1 : w7.cell? ⟨P, 1, none⟩ = some (.slice (some ⟨g1, 0, none⟩) l'.length cc) := HP7.c 1 rfl; have f1 := HP7.fz 1; have hsz := HP7.lt; have hgD := own_ne hb hg1 (show P ≠ (wr.alloc (.cells #[.int .i64 (100 + (i : Int)), .string ⟨#[120]⟩, .int .i64 1000, .int .i64 0] 28)).heap.size by have := (HP.kept gN).lt; omega); have g7 : w.grownBy w7 none := (gw.trans gN).andThen hg (fun r e => .inl (Nat.le_trans hwb (hvo.out r e))); have RS : Row _ P 34 #[.int .i64 s, .slice (some ⟨gb, 0, none⟩) (l'.length + 1) c2] := HP7.set 1 (.slice (some ⟨gb, 0, none⟩) (l'.length + 1) c2); have HRS := HR7.far (o := P) (i := 1) (v := .slice (some ⟨gb, 0, none⟩) (l'.length + 1) c2) hRP; have HOS := ho.kept (grown_setCell w7 P 1 (.slice (some ⟨gb, 0, none⟩) (l'.length + 1) c2)) (.inr (by simpa [Value.ownBlock] using hgD)); have gS := grown_set (i := 1) (v := .slice (some ⟨gb, 0, none⟩) (l'.length + 1) c2) g7 (.inl hwP); have gS9 := Nat.le_trans (Nat.le_trans gN.size hg.size) (grown_setCell w7 P 1 (.slice (some ⟨gb, 0, none⟩) (l'.length + 1) c2)).size; clear HP7 HR7 hv p0 p1 hb hg)
          clear HP HR gw HO hvo
          go_roundw
          case rel => exact ⟨i + 1, gb, c2, l' ++ [⟨100 + (i : Int), [120], 1000, 0⟩], by omega, by go_num, by simpa using RS, HRS, by simpa using HOS, HOKN.out, HLE, hgD, Nat.le_trans hbb gS9, gS⟩
          case measure => simp [intOf]; omega
        · go_wp2_with fail
          go_meet
          exact ⟨s, g1, cc, l', ⟨s1, s2⟩, HP, HR, HO, hOKH.out, by have := HLN.out; omega, hg1, gw⟩
  obtain ⟨s1', g1, cc, l', hs1, HP2, HR2, HO2, hok2, hlen2, hg1, gw2⟩ := hcut
  have LEN : Hid (l'.length ≤ l.length + 21) := Lib.hid hlen2
  obtain ⟨v1, v2⟩ := hs1
  have hk2 := keys_of HO2 hok2 rfl
  have hg1R : g1 ≠ R := by have := (HO2.lt g1 rfl).1; omega
  clear HP HR HO gw x0 x1 x2 x3 p0 p1 hlen2 HO2
  have HP := HP2
  have HR := HR2
  have gw := gw2
  clear HP2 HR2 gw2
  have p0 : wc.cell? ⟨P, 0, none⟩ = some (.int .i64 (s1')) := HP.c 0 rfl
  have p1 : wc.cell? ⟨P, 1, none⟩ = some ((.slice (some ⟨g1, 0, none⟩) l'.length cc)) := HP.c 1 rfl
  have k0 : wc.cell? ⟨R, 0, none⟩ = some (.int .i64 0) := HR.c 0 rfl
  have k1 : wc.cell? ⟨R, 1, none⟩ = some (.slice none 0 0) := HR.c 1 rfl
  have f0 := HR.fz 0
  have f1 := HR.fz 1
  have hsz := HR.lt
  have RS : Row _ R 34 #[.int .i64 (s1'), (.slice (some ⟨g1, 0, none⟩) l'.length cc)] := (HR.set 0 (.int .i64 (s1'))).set 1 ((.slice (some ⟨g1, 0, none⟩) l'.length cc))
  have gs := grown_set (i := 1) (v := (.slice (some ⟨g1, 0, none⟩) l'.length cc)) (grown_set (i := 0) (v := .int .i64 (s1')) gw (.inl hwR)) (.inl hwR)
  have HKS := keys_far (R := R) (v0 := .int .i64 (s1')) (v1 := (.slice (some ⟨g1, 0, none⟩) l'.length cc)) hk2 hg1R
  go_wp2_with fail
  exact bodyPost_ret (v := .agg #[.int .i64 (s1'), (.slice (some ⟨g1, 0, none⟩) l'.length cc)]) (by simp [results, Tryd.results29, go_sem, RS.c 0 rfl, RS.c 1 rfl]) rfl ⟨s1', _, _, _, l', rfl, HKS, LEN.out, ⟨by omega, by omega⟩, gs⟩
end Go.Proofs.YtecobgjkodmaiaaDoor
