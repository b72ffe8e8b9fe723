/-
  Scales that numbers make: they are valid.
-/
import Derived.Test.YtcilclbolmijfaaSane
import Derived.Deep.CutBlock
namespace Go.Proofs.Ytcilclbolmijfaa
open Go.RowKit
/-- three numbers at block b -/
def D3 (w : World) (B : Nat) (x y z : Int) : Prop := w.heap[B]? = some (.cells #[.int .i64 x, .int .i64 y, .int .i64 z] 55 (0, 0))
theorem D3.c0 {w : World} {B : Nat} {x y z : Int} (h : D3 w B x y z) : w.cell? ⟨B, 0, none⟩ = some (.int .i64 x) := by unfold D3 at h; simp [World.cell?, h]
theorem D3.c1 {w : World} {B : Nat} {x y z : Int} (h : D3 w B x y z) : w.cell? ⟨B, 1, none⟩ = some (.int .i64 y) := by unfold D3 at h; simp [World.cell?, h]
theorem D3.c2 {w : World} {B : Nat} {x y z : Int} (h : D3 w B x y z) : w.cell? ⟨B, 2, none⟩ = some (.int .i64 z) := by unfold D3 at h; simp [World.cell?, h]
theorem D3.lt {w : World} {B : Nat} {x y z : Int} (h : D3 w B x y z) : B < w.heap.size := by
  rcases Nat.lt_or_ge B w.heap.size with hlt | hge
  · exact hlt
  · unfold D3 at h; rw [Array.getElem?_eq_none hge] at h; cases h
theorem D3.kept {w w' : World} {B : Nat} {x y z : Int} (h : D3 w B x y z) (hg : w.grownBy w' none) : D3 w' B x y z := (hg.block B h.lt (by simp)).trans h
theorem D3.fz {w : World} {B : Nat} {x y z : Int} (h : D3 w B x y z) (k : Nat) : w.frozen? ⟨B, k, none⟩ = false := by unfold D3 at h; simp [World.frozen?, h]
theorem D3.new (w : World) (x y z : Int) : D3 (w.alloc (.cells #[.int .i64 x, .int .i64 y, .int .i64 z] 55)) w.heap.size x y z := World.alloc_heap_new w _
theorem D3.ck {w : World} {B : Nat} {x y z : Int} (h : D3 w B x y z) (k : Nat) (hk : k < 3) : ∃ v, w.cell? ⟨B, k, none⟩ = some (.int .i64 v) := by
  rcases (show k = 0 ∨ k = 1 ∨ k = 2 by omega) with rfl | rfl | rfl
  · exact ⟨x, h.c0⟩
  · exact ⟨y, h.c1⟩
  · exact ⟨z, h.c2⟩
theorem D3.set {w : World} {B : Nat} {x y z : Int} (h : D3 w B x y z) (k : Nat) (hk : k < 3) (v : Int) : D3 (w.setCell ⟨B, k, none⟩ (.int .i64 v)) B (if k = 0 then v else x) (if k = 1 then v else y) (if k = 2 then v else z) := by
  unfold D3 at h ⊢
  rcases (show k = 0 ∨ k = 1 ∨ k = 2 by omega) with rfl | rfl | rfl <;> simp [World.setCell, Array.getElem?_modify, h]
theorem D3.far {w : World} {b o i : Nat} {v : Value} {n a d : Int} (h : D3 w b n a d) (hne : b ≠ o) : D3 (w.setCell ⟨o, i, none⟩ v) b n a d :=
  ((grown_setCell w o i v).block b h.lt (by simpa using hne)).trans h
theorem S3.f0 {w : World} {B : Nat} {a b p : Int} (h : S3 w B a b p) (k : Nat) : w.frozen? ⟨B, k, none⟩ = false := by unfold S3 at h; simp [World.frozen?, h]
theorem S3.set1 {w : World} {B : Nat} {a b p : Int} (h : S3 w B a b p) (x : Int) : S3 (w.setCell ⟨B, 1, none⟩ (.int .i64 x)) B a x p := by
  unfold S3 at h ⊢
  simp [World.setCell, Array.getElem?_modify, h]
theorem S3.set2 {w : World} {B : Nat} {a b p : Int} (h : S3 w B a b p) (x : Int) : S3 (w.setCell ⟨B, 2, none⟩ (.int .i64 x)) B a b x := by
  unfold S3 at h ⊢
  simp [World.setCell, Array.getElem?_modify, h]
theorem S3.setA {w : World} {B : Nat} {a b p : Int} (h : S3 w B a b p) (x y z : Int) : S3 (((w.setCell ⟨B, 0, none⟩ (.int .i64 x)).setCell ⟨B, 1, none⟩ (.int .i64 y)).setCell ⟨B, 2, none⟩ (.int .i64 z)) B x y z := by
  unfold S3 at h ⊢
  simp [World.setCell, Array.getElem?_modify, h]
def small (x : Int) : Prop := 0 ≤ x ∧ x < 1000
/-- what Made gives: a valid scale -/
def MadeOf (w : World) (e : Ending) (w' : World) : Prop := ∃ a b p : Int, chkB a b p = true ∧ e = .returned (.agg #[.int .i64 a, .int .i64 b, .int .i64 p]) ∧ w.grownBy w' none
theorem box10 (w : World) : ∃ w1, w1 = (w.alloc (.cells #[.int .i64 0, .int .i64 0, .int .i64 0] 24)).alloc (.cells #[.int .i64 0, .int .i64 0, .int .i64 0] 55) ∧ S3 w1 w.heap.size 0 0 0 ∧ D3 w1 (w.heap.size + 1) 0 0 0 ∧ w.grownBy w1 none :=
  ⟨_, rfl, (S3.new w 0 0 0).kept (World.grownBy_alloc _ _ none), (by
    have h := D3.new (w.alloc (.cells #[.int .i64 0, .int .i64 0, .int .i64 0] 24)) 0 0 0
    rw [show (w.alloc (.cells #[.int .i64 0, .int .i64 0, .int .i64 0] 24)).heap.size = w.heap.size + 1 by simp] at h
    exact h), grown_al (World.grownBy_alloc _ _ none)⟩
def Dd (w : World) (B : Nat) : Prop := ∃ x y z : Int, D3 w B x y z ∧ small x ∧ small y ∧ small z
theorem Dd.kept {w w' : World} {B : Nat} (h : Dd w B) (hg : w.grownBy w' none) : Dd w' B := by
  obtain ⟨x, y, z, h, r⟩ := h; exact ⟨x, y, z, h.kept hg, r⟩
theorem Dd.set {w : World} {B : Nat} (h : Dd w B) (k : Nat) (hk : k < 3) (v : Int) (hv : small v) : Dd (w.setCell ⟨B, k, none⟩ (.int .i64 v)) B := by
  obtain ⟨x, y, z, h, r1, r2, r3⟩ := h
  exact ⟨_, _, _, h.set k hk v, by split <;> assumption, by split <;> assumption, by split <;> assumption⟩
theorem alls (w : World) : ∃ w1, w1 = w.alloc (.cells #[.int .i64 0, .int .i64 100, .int .i64 50, .int .i64 6, .int .i64 1, .int .i64 4, .int .i64 0, .int .i64 20, .int .i64 10, .int .i64 500, .int .i64 (-500), .int .i64 0] 24) := ⟨_, rfl⟩
set_option maxRecDepth 100000 in
set_option maxHeartbeats 4000000 in
theorem made_k (A : Option Addr) (n c : Nat) (l : List Int) (w : World) (hn : n = l.length) (_hm : n ≤ maxLen) (hN : Nums w A l) : Calls Try.prog 10 #[.slice A n c] w (MadeOf w) := by
  unfold maxLen at _hm
  obtain ⟨w1, e1, R, D, gg⟩ := box10 w
  have H1 := Lib.hid e1
  have HN := Lib.hid hN
  have hnl : n ≤ l.length := by omega
  have HD : Hid (Dd w1 (w.heap.size + 1)) := Lib.hid ⟨0, 0, 0, D, ⟨by decide, by decide⟩, ⟨by decide, by decide⟩, ⟨by decide, by decide⟩⟩
  have HM : Hid (∀ a b p : Int, ∀ w', chkB a b p = true → w.grownBy w' none → MadeOf w (.returned (.agg #[.int .i64 a, .int .i64 b, .int .i64 p])) w') := Lib.hid fun a b p w' h g => ⟨a, b, p, h, rfl, g⟩
  clear e1 hN hn D
  go_enter Try.func10, Try.ntmps10
  go_upto_region 2 with fail
  rw [← H1.out]
  clear H1
  go_upto_block 0 with fail
  go_cut [2, 3] from 4 to 27 (fun p q wx => p = .pointer (some ⟨w.heap.size, 0, none⟩) ∧ q = .pointer (some ⟨w.heap.size + 1, 0, none⟩) ∧ Hid (Dd wx (w.heap.size + 1)) ∧ S3 wx w.heap.size 0 0 0 ∧ w.grownBy wx none)
  case first =>
    go_wp2_with fail
    go_loopw [4] (fun i wr => ∃ k : Nat, k ≤ 3 ∧ i = .int .i64 k ∧ Hid (Dd wr (w.heap.size + 1)) ∧ S3 wr w.heap.size 0 0 0 ∧ w.grownBy wr none) (fun i _ => 3 - (intOf i).toNat)
    case atStart => exact ⟨0, by omega, rfl, HD, R, gg⟩
    case round =>
      clear HD R gg
      obtain ⟨k, hk, rfl, HD, R, gw⟩ := hrel
      by_cases hlt : k < 3
      · by_cases hlt2 : k < n
        · obtain ⟨ad, rfl, _, hc⟩ := HN.out.2 (by omega)
          have hz : l[k]? = some l[k] := List.getElem?_eq_getElem (by omega)
          have hcw := hc k _ hz
          have q1 := gcell gw hcw
          clear hz hc hcw
          generalize l[k] = v at *
          have hv1 := tm_le v (k := 1000) (by decide)
          have hv : small (v.tmod 1000 % 1000) := ⟨by omega, by omega⟩
          obtain ⟨x, y, z, hD, _⟩ := HD.out
          obtain ⟨u, q2⟩ := hD.ck k hlt
          have q3 := hD.fz k
          have q4 := hD.lt
          have HD2 := Lib.hid (HD.out.set k hlt _ hv)
          have R2 := R.far (o := w.heap.size + 1) (i := k) (v := .int .i64 (v.tmod 1000 % 1000)) (by omega)
          have hv2 : 0 ≤ v.tmod 1000 + 1000 := by omega
          obtain ⟨hv3, hv4⟩ := hv1
          clear hD hv HD
          go_wp2_with fail
          go_roundw
          case rel => exact ⟨k + 1, by omega, by go_num, HD2, R2, grown_set gw (.inl (by omega))⟩
          case measure => simp [intOf]; omega
        · go_wp2_with fail
          go_meet
          exact ⟨rfl, rfl, HD, R, gw⟩
      · obtain rfl : k = 3 := by omega
        go_wp2_with fail
        go_meet
        exact ⟨rfl, rfl, HD, R, gw⟩
  clear HD R gg
  obtain ⟨rfl, rfl, HD, R, gw⟩ := hcut
  obtain ⟨x, y, z, hD, ⟨x1, x2⟩, ⟨y1, y2⟩, ⟨z1, z2⟩⟩ := HD.out
  clear HD
  go_upto_region 6 with fail
  go_upto_region 7 with fail
  obtain ⟨ws, es⟩ := alls wc
  have g : wc.grownBy ws none := by rw [es]; exact World.grownBy_alloc _ _ none
  have k0 : ws.cell? ⟨wc.heap.size, 0, none⟩ = some (.int .i64 0) := by rw [es]; exact (cell_at rfl).trans rfl
  have k1 : ws.cell? ⟨wc.heap.size, 1, none⟩ = some (.int .i64 100) := by rw [es]; exact (cell_at rfl).trans rfl
  have k2 : ws.cell? ⟨wc.heap.size, 2, none⟩ = some (.int .i64 50) := by rw [es]; exact (cell_at rfl).trans rfl
  have k3 : ws.cell? ⟨wc.heap.size, 3, none⟩ = some (.int .i64 6) := by rw [es]; exact (cell_at rfl).trans rfl
  have k4 : ws.cell? ⟨wc.heap.size, 4, none⟩ = some (.int .i64 1) := by rw [es]; exact (cell_at rfl).trans rfl
  have k5 : ws.cell? ⟨wc.heap.size, 5, none⟩ = some (.int .i64 4) := by rw [es]; exact (cell_at rfl).trans rfl
  have k6 : ws.cell? ⟨wc.heap.size, 6, none⟩ = some (.int .i64 0) := by rw [es]; exact (cell_at rfl).trans rfl
  have k7 : ws.cell? ⟨wc.heap.size, 7, none⟩ = some (.int .i64 20) := by rw [es]; exact (cell_at rfl).trans rfl
  have k8 : ws.cell? ⟨wc.heap.size, 8, none⟩ = some (.int .i64 10) := by rw [es]; exact (cell_at rfl).trans rfl
  have k9 : ws.cell? ⟨wc.heap.size, 9, none⟩ = some (.int .i64 500) := by rw [es]; exact (cell_at rfl).trans rfl
  have k10 : ws.cell? ⟨wc.heap.size, 10, none⟩ = some (.int .i64 (-500)) := by rw [es]; exact (cell_at rfl).trans rfl
  have k11 : ws.cell? ⟨wc.heap.size, 11, none⟩ = some (.int .i64 0) := by rw [es]; exact (cell_at rfl).trans rfl
  rw [← es]
  clear es
  replace R := R.kept g
  replace hD := hD.kept g
  have hw0 := gw.size
  replace gw := gw.trans g
  clear g
  have d0 := hD.c0
  have d1 := hD.c1
  have d2 := hD.c2
  have r0 := R.c0
  have r1 := R.c1
  have r2 := R.c2
  have r3 := R.f0 0
  have r4 := R.f0 1
  have r5 := R.f0 2
  have r6 := R.lt
  by_cases h5 : x % 5 < 4
  · rcases (show x % 5 = 0 ∨ x % 5 = 1 ∨ x % 5 = 2 ∨ x % 5 = 3 by omega) with e | e | e | e
    · have hj : x % 5 = 0 := e
      have R' := R.setA 0 100 50
      clear e h5
      go_wp2_with fail
      exact bodyPost_ret (v := .agg #[.int .i64 0, .int .i64 100, .int .i64 50]) (by simp [results, Try.results10, go_sem, R'.c0, R'.c1, R'.c2]) rfl (HM.out _ _ _ _ (by decide) (by
        (repeat (first | refine grown_set ?_ (.inl (by omega)) | refine grown_al ?_ | refine grown_dn ?_)); exact gw))
    · have hj : x % 5 = 1 := e
      have R' := R.setA 6 1 4
      clear e h5
      go_wp2_with fail
      exact bodyPost_ret (v := .agg #[.int .i64 6, .int .i64 1, .int .i64 4]) (by simp [results, Try.results10, go_sem, R'.c0, R'.c1, R'.c2]) rfl (HM.out _ _ _ _ (by decide) (by
        (repeat (first | refine grown_set ?_ (.inl (by omega)) | refine grown_al ?_ | refine grown_dn ?_)); exact gw))
    · have hj : x % 5 = 2 := e
      have R' := R.setA 0 20 10
      clear e h5
      go_wp2_with fail
      exact bodyPost_ret (v := .agg #[.int .i64 0, .int .i64 20, .int .i64 10]) (by simp [results, Try.results10, go_sem, R'.c0, R'.c1, R'.c2]) rfl (HM.out _ _ _ _ (by decide) (by
        (repeat (first | refine grown_set ?_ (.inl (by omega)) | refine grown_al ?_ | refine grown_dn ?_)); exact gw))
    · have hj : x % 5 = 3 := e
      have R' := R.setA 500 (-500) 0
      clear e h5
      go_wp2_with fail
      exact bodyPost_ret (v := .agg #[.int .i64 500, .int .i64 (-500), .int .i64 0]) (by simp [results, Try.results10, go_sem, R'.c0, R'.c1, R'.c2]) rfl (HM.out _ _ _ _ (by decide) (by
        (repeat (first | refine grown_set ?_ (.inl (by omega)) | refine grown_al ?_ | refine grown_dn ?_)); exact gw))
  · go_upto_region 10 with fail
    have ne1 : w.heap.size ≠ ws.heap.size := by have := R.lt; omega
    have ne2 : w.heap.size + 1 ≠ ws.heap.size := by have := hD.lt; omega
    have A1 : -500 ≤ y - 500 ∧ y - 500 ≤ 500 := by omega
    have B1 : -500 ≤ z - 499 ∧ z - 499 ≤ 500 := by omega
    obtain ⟨wt, et, T, g⟩ := s3_of ws (y - 500) (z - 499) 0
    rw [← et]
    clear et k0 k1 k2 k3 k4 k5 k6 k7 k8 k9 k10 k11 d0 d1 d2 r0 r1 r2 r3 r4 r5 r6
    replace R := R.kept g
    replace hD := hD.kept g
    have hw1 := gw.size
    replace gw := gw.trans g
    clear g
    have d0 := hD.c0
    have d1 := hD.c1
    have d2 := hD.c2
    have t0 := T.c0
    have t1 := T.c1
    have t2 := T.c2
    have t3 := T.f0 0
    have t4 := T.f0 1
    have t5 := T.f0 2
    have t6 := T.lt
    generalize y - 500 = a at *
    generalize z - 499 = b at *
    obtain ⟨A1, A2⟩ := A1
    obtain ⟨B1, B2⟩ := B1
    by_cases h6 : a = b
    · have e6 : (a == b) = true := by simpa using h6
      have hbb : b + 1 ≤ 501 := by omega
      have h7 : a < b + 1 := by omega
      clear h6
      go_upto_region 12 with fail
      obtain ⟨wu, eu⟩ : ∃ wu, wu = wt.setCell ⟨ws.heap.size, 1, none⟩ (.int .i64 (b + 1)) := ⟨_, rfl⟩
      rw [← eu]
      replace T : S3 wu ws.heap.size a (b + 1) 0 := by rw [eu]; exact T.set1 _
      replace R : S3 wu w.heap.size 0 0 0 := by rw [eu]; exact R.far ne1
      replace hD : D3 wu (w.heap.size + 1) x y z := by rw [eu]; exact hD.far ne2
      replace gw : w.grownBy wu none := by rw [eu]; exact grown_set gw (.inl hw1)
      have b1 : -500 ≤ b + 1 := by omega
      clear eu t0 t1 t2 t3 t4 t5 t6 d0 d1 d2 e6
      generalize b + 1 = bb at *
      have d0 := hD.c0
      have d1 := hD.c1
      have d2 := hD.c2
      have t0 := T.c0
      have t1 := T.c1
      have t2 := T.c2
      have t3 := T.f0 0
      have t4 := T.f0 1
      have t5 := T.f0 2
      have t6 := T.lt
      have h8 : a ≤ bb := by omega
      have m0 : 0 < bb - a + 1 := by omega
      have m1 : 0 ≤ x % (bb - a + 1) := Int.emod_nonneg _ (by omega)
      have m2 : x % (bb - a + 1) < bb - a + 1 := Int.emod_lt_of_pos _ m0
      go_upto_region 14 with fail
      obtain ⟨wv, ev⟩ : ∃ wv, wv = wu.setCell ⟨ws.heap.size, 2, none⟩ (.int .i64 (a + x % (bb - a + 1))) := ⟨_, rfl⟩
      rw [← ev]
      have T2 : S3 wv ws.heap.size a bb (a + x % (bb - a + 1)) := by rw [ev]; exact T.set2 _
      have R2 : S3 wv w.heap.size 0 0 0 := by rw [ev]; exact R.far ne1
      have gv : w.grownBy wv none := by rw [ev]; exact grown_set gw (.inl hw1)
      clear ev T R gw t0 t1 t2 t3 t4 t5 t6 d0 d1 d2
      have t0 := T2.c0
      have t1 := T2.c1
      have t2 := T2.c2
      have r0 := R2.c0
      have r1 := R2.c1
      have r2 := R2.c2
      have r3 := R2.f0 0
      have r4 := R2.f0 1
      have r5 := R2.f0 2
      have r6 := R2.lt
      have hck : chkB a bb (a + x % (bb - a + 1)) = true := by rw [chk_iff]; omega
      generalize a + x % (bb - a + 1) = pp at *
      go_wp2_with fail
      have R' := R2.setA a bb pp
      exact bodyPost_ret (v := .agg #[.int .i64 a, .int .i64 bb, .int .i64 pp]) (by simp [results, Try.results10, go_sem, R'.c0, R'.c1, R'.c2]) rfl (HM.out _ _ _ _ hck (by
        (repeat (first | refine grown_set ?_ (.inl (by omega)) | refine grown_al ?_ | refine grown_dn ?_)); exact gv))
    · have e6 : (a == b) = false := by simpa using h6
      rcases Int.lt_or_gt_of_ne h6 with h7 | h7
      · clear h6
        have h8 : a ≤ b := by omega
        have m0 : 0 < b - a + 1 := by omega
        have m1 : 0 ≤ x % (b - a + 1) := Int.emod_nonneg _ (by omega)
        have m2 : x % (b - a + 1) < b - a + 1 := Int.emod_lt_of_pos _ m0
        go_upto_region 14 with fail
        obtain ⟨wv, ev⟩ : ∃ wv, wv = wt.setCell ⟨ws.heap.size, 2, none⟩ (.int .i64 (a + x % (b - a + 1))) := ⟨_, rfl⟩
        rw [← ev]
        have T2 : S3 wv ws.heap.size a b (a + x % (b - a + 1)) := by rw [ev]; exact T.set2 _
        have R2 : S3 wv w.heap.size 0 0 0 := by rw [ev]; exact R.far ne1
        have gv : w.grownBy wv none := by rw [ev]; exact grown_set gw (.inl hw1)
        clear ev T R gw t0 t1 t2 t3 t4 t5 t6 d0 d1 d2
        have t0 := T2.c0
        have t1 := T2.c1
        have t2 := T2.c2
        have r0 := R2.c0
        have r1 := R2.c1
        have r2 := R2.c2
        have r3 := R2.f0 0
        have r4 := R2.f0 1
        have r5 := R2.f0 2
        have r6 := R2.lt
        have hck : chkB a b (a + x % (b - a + 1)) = true := by rw [chk_iff]; omega
        generalize a + x % (b - a + 1) = pp at *
        go_wp2_with fail
        have R' := R2.setA a b pp
        exact bodyPost_ret (v := .agg #[.int .i64 a, .int .i64 b, .int .i64 pp]) (by simp [results, Try.results10, go_sem, R'.c0, R'.c1, R'.c2]) rfl (HM.out _ _ _ _ hck (by
          (repeat (first | refine grown_set ?_ (.inl (by omega)) | refine grown_al ?_ | refine grown_dn ?_)); exact gv))
      · clear h6
        have h8 : b ≤ a := by omega
        have m0 : 0 < a - b + 1 := by omega
        have m1 : 0 ≤ x % (a - b + 1) := Int.emod_nonneg _ (by omega)
        have m2 : x % (a - b + 1) < a - b + 1 := Int.emod_lt_of_pos _ m0
        go_upto_region 14 with fail
        obtain ⟨wv, ev⟩ : ∃ wv, wv = wt.setCell ⟨ws.heap.size, 2, none⟩ (.int .i64 (b + x % (a - b + 1))) := ⟨_, rfl⟩
        rw [← ev]
        have T2 : S3 wv ws.heap.size a b (b + x % (a - b + 1)) := by rw [ev]; exact T.set2 _
        have R2 : S3 wv w.heap.size 0 0 0 := by rw [ev]; exact R.far ne1
        have gv : w.grownBy wv none := by rw [ev]; exact grown_set gw (.inl hw1)
        clear ev T R gw t0 t1 t2 t3 t4 t5 t6 d0 d1 d2
        have t0 := T2.c0
        have t1 := T2.c1
        have t2 := T2.c2
        have r0 := R2.c0
        have r1 := R2.c1
        have r2 := R2.c2
        have r3 := R2.f0 0
        have r4 := R2.f0 1
        have r5 := R2.f0 2
        have r6 := R2.lt
        have hck : chkB a b (b + x % (a - b + 1)) = true := by rw [chk_iff]; omega
        generalize b + x % (a - b + 1) = pp at *
        go_wp2_with fail
        have R' := R2.setA a b pp
        exact bodyPost_ret (v := .agg #[.int .i64 a, .int .i64 b, .int .i64 pp]) (by simp [results, Try.results10, go_sem, R'.c0, R'.c1, R'.c2]) rfl (HM.out _ _ _ _ hck (by
          (repeat (first | refine grown_set ?_ (.inl (by omega)) | refine grown_al ?_ | refine grown_dn ?_)); exact gv))
end Go.Proofs.Ytcilclbolmijfaa
