/-
  The law ScaleReaches.
-/
import Derived.Test.YtcilclbolmijfaaOrder
import Derived.Deep.CutBlock
namespace Go.Proofs.Ytcilclbolmijfaa
open Go.RowKit
/-- three small numbers, as they came -/
def Q3 (w : World) (B : Nat) (q0 q1 q2 : Int) : Prop := w.heap[B]? = some (.cells #[.int .u16 q0, .int .u16 q1, .int .u16 q2] 54 (0, 0))
theorem Q3.ck {w : World} {B : Nat} {q0 q1 q2 : Int} (h : Q3 w B q0 q1 q2) (h0 : 0 ≤ q0 ∧ q0 ≤ 65535) (h1 : 0 ≤ q1 ∧ q1 ≤ 65535) (h2 : 0 ≤ q2 ∧ q2 ≤ 65535) (k : Nat) (hk : k < 3) : ∃ v : Int, w.cell? ⟨B, k, none⟩ = some (.int .u16 v) ∧ 0 ≤ v ∧ v ≤ 65535 := by
  unfold Q3 at h
  rcases (show k = 0 ∨ k = 1 ∨ k = 2 by omega) with rfl | rfl | rfl
  · exact ⟨q0, by simp [World.cell?, h], h0⟩
  · exact ⟨q1, by simp [World.cell?, h], h1⟩
  · exact ⟨q2, by simp [World.cell?, h], h2⟩
theorem Q3.lt {w : World} {B : Nat} {a b p : Int} (h : Q3 w B a b p) : B < w.heap.size := by
  rcases Nat.lt_or_ge B w.heap.size with hlt | hge
  · exact hlt
  · unfold Q3 at h; rw [Array.getElem?_eq_none hge] at h; cases h
theorem Q3.kept {w w' : World} {B : Nat} {a b p : Int} (h : Q3 w B a b p) (hg : w.grownBy w' none) : Q3 w' B a b p := (hg.block B h.lt (by simp)).trans h
theorem q3_of (w : World) (a b c : Int) : ∃ w1, w1 = w.alloc (.cells #[.int .u16 a, .int .u16 b, .int .u16 c] 54) ∧ Q3 w1 w.heap.size a b c ∧ w.grownBy w1 none := ⟨_, rfl, World.alloc_heap_new w _, World.grownBy_alloc _ _ none⟩
theorem d3_of (w : World) : ∃ w1, w1 = w.alloc (.cells #[.int .i64 0, .int .i64 0, .int .i64 0] 55) ∧ D3 w1 w.heap.size 0 0 0 ∧ w.grownBy w1 none := ⟨_, rfl, D3.new w 0 0 0, World.grownBy_alloc _ _ none⟩
/-- the first k of three numbers lie on the scale -/
def Gg (w : World) (B : Nat) (lo hi : Int) (k : Nat) : Prop := ∃ x y z : Int, D3 w B x y z ∧ (0 < k → lo ≤ x ∧ x ≤ hi) ∧ (1 < k → lo ≤ y ∧ y ≤ hi) ∧ (2 < k → lo ≤ z ∧ z ≤ hi)
theorem Gg.set {w : World} {B : Nat} {lo hi : Int} {k : Nat} (h : Gg w B lo hi k) (hk : k < 3) (v : Int) (h1 : lo ≤ v ∧ v ≤ hi) : Gg (w.setCell ⟨B, k, none⟩ (.int .i64 v)) B lo hi (k + 1) := by
  obtain ⟨x, y, z, h, r1, r2, r3⟩ := h
  refine ⟨_, _, _, h.set k hk v, ?_, ?_, ?_⟩
  · intro; split
    · exact h1
    · exact r1 (by omega)
  · intro; split
    · exact h1
    · exact r2 (by omega)
  · intro; split
    · exact h1
    · exact r3 (by omega)
theorem rch_bet {a b p x y : Int} (hc : chkB a b p = true) (h1 : min a b ≤ x ∧ x ≤ max a b) (h2 : min a b ≤ y ∧ y ≤ max a b) (h : x ≠ y) : rchB a b p x y = betB a b p x y := by
  rw [Bool.eq_iff_iff, rch_iff, bet_iff]
  constructor
  · rintro ⟨g1, g2, g3⟩; exact ⟨g1, g2, h2, by omega⟩
  · rintro ⟨g1, g2, _, g3⟩; exact ⟨g1, g2, by omega⟩
theorem rch_same {a b p x : Int} (hc : chkB a b p = true) (h1 : min a b ≤ x ∧ x ≤ max a b) : rchB a b p x x = true := (rch_iff _ _ _ _ _).2 ⟨hc, h1, by omega⟩
theorem rch_up {a b p x y z : Int} (h1 : rchB a b p x y = true) (h2 : betB a b p z x = true) : rchB a b p z y = true := by
  obtain ⟨g1, g2, g3⟩ := (rch_iff _ _ _ _ _).1 h1
  obtain ⟨_, k2, k3, k4⟩ := (bet_iff _ _ _ _ _).1 h2
  exact (rch_iff _ _ _ _ _).2 ⟨g1, k2, by omega⟩
theorem rch_best {a b p : Int} (hc : chkB a b p = true) : rchB a b p b p = true := by
  have := (chk_iff a b p).1 hc
  exact (rch_iff _ _ _ _ _).2 ⟨hc, by omega, by omega⟩
theorem rch_pass {a b p : Int} (hc : chkB a b p = true) : rchB a b p p p = true := by
  have := (chk_iff a b p).1 hc
  exact (rch_iff _ _ _ _ _).2 ⟨hc, by omega, by omega⟩
theorem rch_worst {a b p x : Int} (hc : chkB a b p = true) (h1 : min a b ≤ x ∧ x ≤ max a b) : rchB a b p x a = true := by
  have := (chk_iff a b p).1 hc
  exact (rch_iff _ _ _ _ _).2 ⟨hc, h1, by omega⟩
set_option maxRecDepth 100000 in
set_option maxHeartbeats 8000000 in
theorem reaches_walk (A : Option Addr) (n c : Nat) (l : List Int) (q0 q1 q2 : Int) (h0 : 0 ≤ q0 ∧ q0 ≤ 65535) (h1 : 0 ≤ q1 ∧ q1 ≤ 65535) (h2 : 0 ≤ q2 ∧ q2 ≤ 65535) (w : World) (hn : n = l.length) (hm : n ≤ maxLen) (hN : Nums w A l) :
    Calls Try.prog 6 #[.slice A n c, .agg #[.int .u16 q0, .int .u16 q1, .int .u16 q2]] w fun e w' => e = .returned (.bool true) ∧ w.grownBy w' none := by
  obtain ⟨w0, e0, HQ, gg⟩ := q3_of w q0 q1 q2
  have KS := Lib.hid (sane_k w0)
  have KM := Lib.hid (fun W (g : w.grownBy W none) => made_k A n c l W hn hm (hN.kept g))
  have HQ0 : Hid (∀ (W : World), Q3 W w.heap.size q0 q1 q2 → ∀ k, k < 3 → ∃ v : Int, W.cell? ⟨w.heap.size, k, none⟩ = some (.int .u16 v) ∧ 0 ≤ v ∧ v ≤ 65535) := Lib.hid fun W h => h.ck h0 h1 h2
  have H0 := Lib.hid e0
  clear hn hm hN h0 h1 h2 e0
  go_enter Try.func6, Try.ntmps6
  go_wp2_with fail
  rw [← H0.out]
  refine KS.out.mono ?_
  rintro e w1 ⟨rfl, g1⟩
  go_wp2_with fail
  refine (KM.out _ (gg.trans g1)).mono ?_
  rintro e w2 ⟨a, b, p, hc, rfl, g2⟩
  replace gg := (gg.trans g1).trans g2
  replace HQ := (HQ.kept g1).kept g2
  clear g1 g2 KS KM H0
  go_upto_region 3 with fail
  obtain ⟨W, eW, HS, g⟩ := s3_of w2 a b p
  rw [← eW]
  clear eW
  replace gg := gg.trans g
  replace HQ := HQ.kept g
  clear g
  have HC := Lib.hid hc
  obtain ⟨ab, a1, a2, b1, b2, p1, p2⟩ := (chk_iff a b p).1 hc
  have lo1 : -1000 ≤ min a b := by omega
  have lo2 : min a b < max a b := by omega
  have hi2 : max a b ≤ 1000 := by omega
  clear hc p1 p2
  have s0 := HS.c0
  have s1 := HS.c1
  have s2 := HS.c2
  go_cut [7, 8] (fun x y wx => x = .int .i64 (min a b) ∧ y = .int .i64 (max a b) ∧ W.grownBy wx none)
  case first =>
    rcases Int.lt_or_gt_of_ne ab with h | h
    · have h2 : a ≤ b := by omega
      clear lo1 lo2 hi2
      go_quiet (fail)
      go_wp2_with fail
      go_meet
      exact ⟨by congr 1; omega, by congr 1; omega, grown_dn (grown_refl _)⟩
    · have h2 : b ≤ a := by omega
      clear lo1 lo2 hi2
      go_quiet (fail)
      go_wp2_with fail
      go_meet
      exact ⟨by congr 1; omega, by congr 1; omega, grown_dn (grown_refl _)⟩
  obtain ⟨rfl, rfl, g⟩ := hcut
  replace HS := HS.kept g
  replace HQ := HQ.kept g
  replace gg := gg.trans g
  clear g s0 s1 s2
  have X := fun (x y z : Int) (h1 : min a b ≤ x ∧ x ≤ max a b) (h2 : min a b ≤ y ∧ y ≤ max a b) (h3 : min a b ≤ z ∧ z ≤ max a b) => And.intro (fun h => rch_bet HC.out h1 h2 h) (And.intro (rch_same HC.out h1) (rch_worst HC.out h1))
  generalize min a b = lo at *
  generalize max a b = hi at *
  have HX := Lib.hid X
  clear X
  go_upto_region 5 with fail
  obtain ⟨wd, ed, hD, g⟩ := d3_of wc
  rw [← ed]
  clear ed
  have hlt0 := HS.lt
  have hlt1 := HQ.lt
  have ne1 : w2.heap.size ≠ wc.heap.size := by omega
  have ne2 : w.heap.size ≠ wc.heap.size := by omega
  have hsz : w.heap.size ≤ wc.heap.size := gg.size
  replace HS := HS.kept g
  replace HQ := HQ.kept g
  replace gg := gg.trans g
  clear g hlt0 hlt1
  have HG0 : Hid (Gg wd wc.heap.size lo hi 0) := Lib.hid ⟨0, 0, 0, hD, by omega, by omega, by omega⟩
  clear hD
  generalize wc.heap.size = gb at *
  go_upto_block 0 with fail
  go_cut [10] (fun i wx => Hid (Gg wx gb lo hi 3) ∧ S3 wx w2.heap.size a b p ∧ w.grownBy wx none)
  case first =>
    go_wp2_with fail
    go_loopw [10] (fun i wr => ∃ k : Nat, k ≤ 3 ∧ i = .int .i64 k ∧ Hid (Gg wr gb lo hi k) ∧ S3 wr w2.heap.size a b p ∧ Q3 wr w.heap.size q0 q1 q2 ∧ w.grownBy wr none) (fun i _ => 3 - (intOf i).toNat)
    case atStart => exact ⟨0, by omega, rfl, HG0, HS, HQ, gg⟩
    case round =>
      clear HG0 HS gg HQ
      obtain ⟨k, hk, rfl, HG, HS, HQ, gw⟩ := hrel
      by_cases hlt : k < 3
      · obtain ⟨v, q1, v1, v2⟩ := HQ0.out _ HQ k hlt
        obtain ⟨m0, m1, m2⟩ := x_le (lo := lo) (hi := hi) (A := v) (by omega)
        have hv : lo ≤ lo + v % (hi - lo + 1) ∧ lo + v % (hi - lo + 1) ≤ hi := by omega
        obtain ⟨x, y, z, hD, _⟩ := HG.out
        obtain ⟨u, q2⟩ := hD.ck k hlt
        have q3 := hD.fz k
        have q4 := hD.lt
        have HG2 := Lib.hid (HG.out.set hlt _ hv)
        have HS2 := HS.far (o := gb) (i := k) (v := .int .i64 (lo + v % (hi - lo + 1))) ne1
        have HQ2 : Q3 (World.setCell _ ⟨gb, k, none⟩ (.int .i64 (lo + v % (hi - lo + 1)))) w.heap.size _ _ _ := ((grown_setCell _ gb k (.int .i64 (lo + v % (hi - lo + 1)))).block _ HQ.lt (by simpa using ne2)).trans HQ
        clear hD hv HG
        go_wp2_with fail
        go_roundw
        case rel => exact ⟨k + 1, by omega, by go_num, HG2, HS2, HQ2, grown_set gw (.inl hsz)⟩
        case measure => simp [intOf]; omega
      · obtain rfl : k = 3 := by omega
        go_wp2_with fail
        go_meet
        exact ⟨HG, HS, gw⟩
  clear HG0 HS gg HQ HQ0
  obtain ⟨HG, HS, gg⟩ := hcut
  obtain ⟨x, y, z, HD, x1, y1, z1⟩ := HG.out
  clear HG
  obtain ⟨F1, F2, F3⟩ := HX.out x y z (x1 (by omega)) (y1 (by omega)) (z1 (by omega))
  clear HX x1 y1 z1
  have K1 := Lib.hid (reaches_k a b p x y)
  have K2 := Lib.hid (better2_k a b p x y)
  have s0 := HS.c0
  have s1 := HS.c1
  have s2 := HS.c2
  have d0 := HD.c0
  have d1 := HD.c1
  have d2 := HD.c2
  go_upto_region 9 with fail
  go_cut [60] (fun u wx => u = .bool false ∧ wc.grownBy wx none)
  case first =>
    by_cases hxy : x = y
    · rw [← hxy, F2] at K1
      have e1 : (x == y) = true := by simpa using hxy
      rw [← hxy] at d1 e1
      clear K2 F1
      have HXY := Lib.hid hxy
      clear hxy
      have gz : wc.grownBy wc.drew none := grown_dr (grown_refl _)
      refine wp_region_noPanic ?_
      refine wp_region_held_drew (S := (fun w' => wc.grownBy w' none)) (by kernel_rfl) ?_ (fun hHeld => ?_)
      · (try dsimp only); (repeat (first | assumption | exact grown_refl _ | refine grown_dr ?_ | refine grown_dn ?_ | refine grown_al ?_))
      refine wpAnyH_take (i := 0) (oi := _) (v := .agg #[.int .i64 a, .int .i64 b, .int .i64 p]) rfl (by kernel_rfl) (by kernel_rfl) (by kernel_rfl) (fun _ _ _ h => h) (Or.inl ⟨by kernel_rfl, ?_⟩) (by assumption) ?_
      · (intro w hSw; (try dsimp only at hSw); go_simp; have y0 := gcell hSw s0; have y1 := gcell hSw s1; have y2 := gcell hSw s2; clear hSw; go_simp; first | done | with_reducible rfl)
      try go_simp
      refine wpAnyH_take (i := 1) (oi := _) (v := ?_) rfl (by kernel_rfl) (by kernel_rfl) (by kernel_rfl) (fun _ _ _ h => h) (Or.inl ⟨by rfl, ?_⟩) (by assumption) ?_
      rotate_left 1
      · (intro w hSw; (try dsimp only at hSw); go_simp; first | done | with_reducible rfl)
      try go_simp
      refine wpAnyH_take (i := 2) (oi := _) (v := .int .i64 x) rfl (by kernel_rfl) (by kernel_rfl) (by kernel_rfl) (fun _ _ _ h => h) (Or.inl ⟨by kernel_rfl, ?_⟩) (by assumption) ?_
      · (intro w hSw; (try dsimp only at hSw); go_simp; have y0 := gcell hSw d0; clear hSw; go_simp; first | done | with_reducible rfl)
      try go_simp
      refine wpAnyH_take (i := 3) (oi := _) (v := ?_) rfl (by kernel_rfl) (by kernel_rfl) (by kernel_rfl) (fun _ _ _ h => h) (Or.inl ⟨by rfl, ?_⟩) (by assumption) ?_
      rotate_left 1
      · (intro w hSw; (try dsimp only at hSw); go_simp; first | done | with_reducible rfl)
      try go_simp
      refine wpAnyH_take (i := 4) (oi := _) (v := .int .i64 x) rfl (by kernel_rfl) (by kernel_rfl) (by kernel_rfl) (fun _ _ _ h => h) (Or.inl ⟨by kernel_rfl, ?_⟩) (by assumption) ?_
      · (intro w hSw; (try dsimp only at hSw); go_simp; have y0 := gcell hSw d1; clear hSw; go_simp; first | done | with_reducible rfl)
      try go_simp
      refine wpAnyH_take (i := 6) (oi := _) (v := ?_) rfl (by kernel_rfl) (by kernel_rfl) (by kernel_rfl) (fun _ _ _ h => h) (Or.inl ⟨by rfl, ?_⟩) (by assumption) ?_
      rotate_left 1
      · (intro w hSw; (try dsimp only at hSw); go_simp; first | done | with_reducible rfl)
      try go_simp
      refine wpAnyH_take (i := 7) (oi := _) (v := .int .i64 x) rfl (by kernel_rfl) (by kernel_rfl) (by kernel_rfl) (fun _ _ _ h => h) (Or.inl ⟨by kernel_rfl, ?_⟩) (by assumption) ?_
      · (intro w hSw; (try dsimp only at hSw); go_simp; have y0 := gcell hSw d0; clear hSw; go_simp; first | done | with_reducible rfl)
      try go_simp
      refine wpAnyH_take (i := 8) (oi := _) (v := ?_) rfl (by kernel_rfl) (by kernel_rfl) (by kernel_rfl) (fun _ _ _ h => h) (Or.inl ⟨by rfl, ?_⟩) (by assumption) ?_
      rotate_left 1
      · (intro w hSw; (try dsimp only at hSw); go_simp; first | done | with_reducible rfl)
      try go_simp
      refine wpAnyH_take (i := 9) (oi := _) (v := .int .i64 x) rfl (by kernel_rfl) (by kernel_rfl) (by kernel_rfl) (fun _ _ _ h => h) (Or.inl ⟨by kernel_rfl, ?_⟩) (by assumption) ?_
      · (intro w hSw; (try dsimp only at hSw); go_simp; have y0 := gcell hSw d1; clear hSw; go_simp; first | done | with_reducible rfl)
      try go_simp
      refine wpAnyH_take (i := 10) (oi := _) (v := .bool true) rfl (by kernel_rfl) (by kernel_rfl) (by kernel_rfl) (fun _ _ _ h => h) (Or.inl ⟨by kernel_rfl, ?_⟩) (by assumption) ?_
      · (intro w hSw; (try dsimp only at hSw); go_simp; first | done | with_reducible rfl)
      try go_simp
      refine wpAnyH_ready (rs := [5]) (by kernel_rfl) (by simp) ?_
      refine AllReadyH.cons (o := _) rfl (fun K hK => ?_) AllReadyH.nil
      go_simp
      refine (K1.out _).mono ?_
      rintro e w2 ⟨rfl, g⟩
      replace gz := gz.trans g
      clear g
      first | (refine hK.out _ _ ?_ (fun hHeld => ?_)) | (go_wp2_with fail; refine hK.out _ _ ?_ (fun hHeld => ?_))
      · (try dsimp only); (repeat (first | assumption | exact grown_refl _ | refine grown_dr ?_ | refine grown_dn ?_ | refine grown_al ?_))
      clear hK K
      refine wpAnyH_take (i := 11) (oi := _) (v := ?_) rfl (by kernel_rfl) (by kernel_rfl) (by kernel_rfl) (fun _ _ _ h => h) (Or.inl ⟨by rfl, ?_⟩) (by assumption) ?_
      rotate_left 1
      · (intro w hSw; (try dsimp only at hSw); go_simp; first | done | with_reducible rfl)
      try go_simp
      refine wpAnyH_take (i := 12) (oi := _) (v := undef) rfl (by kernel_rfl) (by kernel_rfl) (by kernel_rfl) (fun _ _ _ h => h) (Or.inr ⟨by kernel_rfl, rfl⟩) (by assumption) ?_
      try go_simp
      refine wpAnyH_take (i := 13) (oi := _) (v := undef) rfl (by kernel_rfl) (by kernel_rfl) (by kernel_rfl) (fun _ _ _ h => h) (Or.inr ⟨by kernel_rfl, rfl⟩) (by assumption) ?_
      try go_simp
      refine wpAnyH_take (i := 14) (oi := _) (v := undef) rfl (by kernel_rfl) (by kernel_rfl) (by kernel_rfl) (fun _ _ _ h => h) (Or.inr ⟨by kernel_rfl, rfl⟩) (by assumption) ?_
      try go_simp
      refine wpAnyH_take (i := 15) (oi := _) (v := undef) rfl (by kernel_rfl) (by kernel_rfl) (by kernel_rfl) (fun _ _ _ h => h) (Or.inr ⟨by kernel_rfl, rfl⟩) (by assumption) ?_
      try go_simp
      refine wpAnyH_take (i := 16) (oi := _) (v := undef) rfl (by kernel_rfl) (by kernel_rfl) (by kernel_rfl) (fun _ _ _ h => h) (Or.inr ⟨by kernel_rfl, rfl⟩) (by assumption) ?_
      try go_simp
      refine wpAnyH_take (i := 17) (oi := _) (v := undef) rfl (by kernel_rfl) (by kernel_rfl) (by kernel_rfl) (fun _ _ _ h => h) (Or.inr ⟨by kernel_rfl, rfl⟩) (by assumption) ?_
      try go_simp
      refine wpAnyH_take (i := 18) (oi := _) (v := ?_) rfl (by kernel_rfl) (by kernel_rfl) (by kernel_rfl) (fun _ _ _ h => h) (Or.inl ⟨by rfl, ?_⟩) (by assumption) ?_
      rotate_left 1
      · (intro w hSw; (try dsimp only at hSw); go_simp; first | done | with_reducible rfl)
      try go_simp
      refine wpAnyH_take (i := 19) (oi := _) (v := .bool false) rfl (by kernel_rfl) (by kernel_rfl) (by kernel_rfl) (fun _ _ _ h => h) (Or.inl ⟨by kernel_rfl, ?_⟩) (by assumption) ?_
      · (intro w hSw; (try dsimp only at hSw); go_simp; first | done | with_reducible rfl)
      try go_simp
      refine wpAnyH_done (by kernel_rfl) ?_ _
      refine NoPanic.normal ?_
      go_simp
      go_wp2_with fail
      go_meet
      exact ⟨rfl, gz⟩
    · have e1 : (x == y) = false := by simpa using hxy
      rw [F1 hxy] at K1
      clear F1 hxy
      generalize betB a b p x y = β at *
      have e2 : (β != β) = false := by simp
      have gz : wc.grownBy wc.drew none := grown_dr (grown_refl _)
      refine wp_region_noPanic ?_
      refine wp_region_held_drew (S := (fun w' => wc.grownBy w' none)) (by kernel_rfl) ?_ (fun hHeld => ?_)
      · (try dsimp only); (repeat (first | assumption | exact grown_refl _ | refine grown_dr ?_ | refine grown_dn ?_ | refine grown_al ?_))
      refine wpAnyH_take (i := 0) (oi := _) (v := .agg #[.int .i64 a, .int .i64 b, .int .i64 p]) rfl (by kernel_rfl) (by kernel_rfl) (by kernel_rfl) (fun _ _ _ h => h) (Or.inl ⟨by kernel_rfl, ?_⟩) (by assumption) ?_
      · (intro w hSw; (try dsimp only at hSw); go_simp; have y0 := gcell hSw s0; have y1 := gcell hSw s1; have y2 := gcell hSw s2; clear hSw; go_simp; first | done | with_reducible rfl)
      try go_simp
      refine wpAnyH_take (i := 1) (oi := _) (v := ?_) rfl (by kernel_rfl) (by kernel_rfl) (by kernel_rfl) (fun _ _ _ h => h) (Or.inl ⟨by rfl, ?_⟩) (by assumption) ?_
      rotate_left 1
      · (intro w hSw; (try dsimp only at hSw); go_simp; first | done | with_reducible rfl)
      try go_simp
      refine wpAnyH_take (i := 2) (oi := _) (v := .int .i64 x) rfl (by kernel_rfl) (by kernel_rfl) (by kernel_rfl) (fun _ _ _ h => h) (Or.inl ⟨by kernel_rfl, ?_⟩) (by assumption) ?_
      · (intro w hSw; (try dsimp only at hSw); go_simp; have y0 := gcell hSw d0; clear hSw; go_simp; first | done | with_reducible rfl)
      try go_simp
      refine wpAnyH_take (i := 3) (oi := _) (v := ?_) rfl (by kernel_rfl) (by kernel_rfl) (by kernel_rfl) (fun _ _ _ h => h) (Or.inl ⟨by rfl, ?_⟩) (by assumption) ?_
      rotate_left 1
      · (intro w hSw; (try dsimp only at hSw); go_simp; first | done | with_reducible rfl)
      try go_simp
      refine wpAnyH_take (i := 4) (oi := _) (v := .int .i64 y) rfl (by kernel_rfl) (by kernel_rfl) (by kernel_rfl) (fun _ _ _ h => h) (Or.inl ⟨by kernel_rfl, ?_⟩) (by assumption) ?_
      · (intro w hSw; (try dsimp only at hSw); go_simp; have y0 := gcell hSw d1; clear hSw; go_simp; first | done | with_reducible rfl)
      try go_simp
      refine wpAnyH_take (i := 6) (oi := _) (v := ?_) rfl (by kernel_rfl) (by kernel_rfl) (by kernel_rfl) (fun _ _ _ h => h) (Or.inl ⟨by rfl, ?_⟩) (by assumption) ?_
      rotate_left 1
      · (intro w hSw; (try dsimp only at hSw); go_simp; first | done | with_reducible rfl)
      try go_simp
      refine wpAnyH_take (i := 7) (oi := _) (v := .int .i64 x) rfl (by kernel_rfl) (by kernel_rfl) (by kernel_rfl) (fun _ _ _ h => h) (Or.inl ⟨by kernel_rfl, ?_⟩) (by assumption) ?_
      · (intro w hSw; (try dsimp only at hSw); go_simp; have y0 := gcell hSw d0; clear hSw; go_simp; first | done | with_reducible rfl)
      try go_simp
      refine wpAnyH_take (i := 8) (oi := _) (v := ?_) rfl (by kernel_rfl) (by kernel_rfl) (by kernel_rfl) (fun _ _ _ h => h) (Or.inl ⟨by rfl, ?_⟩) (by assumption) ?_
      rotate_left 1
      · (intro w hSw; (try dsimp only at hSw); go_simp; first | done | with_reducible rfl)
      try go_simp
      refine wpAnyH_take (i := 9) (oi := _) (v := .int .i64 y) rfl (by kernel_rfl) (by kernel_rfl) (by kernel_rfl) (fun _ _ _ h => h) (Or.inl ⟨by kernel_rfl, ?_⟩) (by assumption) ?_
      · (intro w hSw; (try dsimp only at hSw); go_simp; have y0 := gcell hSw d1; clear hSw; go_simp; first | done | with_reducible rfl)
      try go_simp
      refine wpAnyH_take (i := 10) (oi := _) (v := .bool false) rfl (by kernel_rfl) (by kernel_rfl) (by kernel_rfl) (fun _ _ _ h => h) (Or.inl ⟨by kernel_rfl, ?_⟩) (by assumption) ?_
      · (intro w hSw; (try dsimp only at hSw); go_simp; first | done | with_reducible rfl)
      try go_simp
      refine wpAnyH_ready (rs := [5]) (by kernel_rfl) (by simp) ?_
      refine AllReadyH.cons (o := _) rfl (fun K hK => ?_) AllReadyH.nil
      go_simp
      refine (K1.out _).mono ?_
      rintro e w2 ⟨rfl, g⟩
      replace gz := gz.trans g
      clear g
      first | (refine hK.out _ _ ?_ (fun hHeld => ?_)) | (go_wp2_with fail; refine hK.out _ _ ?_ (fun hHeld => ?_))
      · (try dsimp only); (repeat (first | assumption | exact grown_refl _ | refine grown_dr ?_ | refine grown_dn ?_ | refine grown_al ?_))
      clear hK K
      refine wpAnyH_take (i := 11) (oi := _) (v := ?_) rfl (by kernel_rfl) (by kernel_rfl) (by kernel_rfl) (fun _ _ _ h => h) (Or.inl ⟨by rfl, ?_⟩) (by assumption) ?_
      rotate_left 1
      · (intro w hSw; (try dsimp only at hSw); go_simp; first | done | with_reducible rfl)
      try go_simp
      refine wpAnyH_take (i := 12) (oi := _) (v := .agg #[.int .i64 a, .int .i64 b, .int .i64 p]) rfl (by kernel_rfl) (by kernel_rfl) (by kernel_rfl) (fun _ _ _ h => h) (Or.inl ⟨by kernel_rfl, ?_⟩) (by assumption) ?_
      · (intro w hSw; (try dsimp only at hSw); go_simp; have y0 := gcell hSw s0; have y1 := gcell hSw s1; have y2 := gcell hSw s2; clear hSw; go_simp; first | done | with_reducible rfl)
      try go_simp
      refine wpAnyH_take (i := 13) (oi := _) (v := ?_) rfl (by kernel_rfl) (by kernel_rfl) (by kernel_rfl) (fun _ _ _ h => h) (Or.inl ⟨by kernel_rfl, ?_⟩) (by assumption) ?_
      rotate_left 1
      · (intro w hSw; (try dsimp only at hSw); go_simp; first | done | with_reducible rfl)
      try go_simp
      refine wpAnyH_take (i := 14) (oi := _) (v := .int .i64 x) rfl (by kernel_rfl) (by kernel_rfl) (by kernel_rfl) (fun _ _ _ h => h) (Or.inl ⟨by kernel_rfl, ?_⟩) (by assumption) ?_
      · (intro w hSw; (try dsimp only at hSw); go_simp; have y0 := gcell hSw d0; clear hSw; go_simp; first | done | with_reducible rfl)
      try go_simp
      refine wpAnyH_take (i := 15) (oi := _) (v := ?_) rfl (by kernel_rfl) (by kernel_rfl) (by kernel_rfl) (fun _ _ _ h => h) (Or.inl ⟨by kernel_rfl, ?_⟩) (by assumption) ?_
      rotate_left 1
      · (intro w hSw; (try dsimp only at hSw); go_simp; first | done | with_reducible rfl)
      try go_simp
      refine wpAnyH_take (i := 16) (oi := _) (v := .int .i64 y) rfl (by kernel_rfl) (by kernel_rfl) (by kernel_rfl) (fun _ _ _ h => h) (Or.inl ⟨by kernel_rfl, ?_⟩) (by assumption) ?_
      · (intro w hSw; (try dsimp only at hSw); go_simp; have y0 := gcell hSw d1; clear hSw; go_simp; first | done | with_reducible rfl)
      try go_simp
      refine wpAnyH_ready (rs := [17]) (by kernel_rfl) (by simp) ?_
      refine AllReadyH.cons (o := _) rfl (fun K hK => ?_) AllReadyH.nil
      go_simp
      refine (K2.out _).mono ?_
      rintro e w2 ⟨rfl, g⟩
      replace gz := gz.trans g
      clear g
      first | (refine hK.out _ _ ?_ (fun hHeld => ?_)) | (go_wp2_with fail; refine hK.out _ _ ?_ (fun hHeld => ?_))
      · (try dsimp only); (repeat (first | assumption | exact grown_refl _ | refine grown_dr ?_ | refine grown_dn ?_ | refine grown_al ?_))
      clear hK K
      refine wpAnyH_take (i := 18) (oi := _) (v := ?_) rfl (by kernel_rfl) (by kernel_rfl) (by kernel_rfl) (fun _ _ _ h => h) (Or.inl ⟨by rfl, ?_⟩) (by assumption) ?_
      rotate_left 1
      · (intro w hSw; (try dsimp only at hSw); go_simp; first | done | with_reducible rfl)
      try go_simp
      refine wpAnyH_take (i := 19) (oi := _) (v := .bool false) rfl (by kernel_rfl) (by kernel_rfl) (by kernel_rfl) (fun _ _ _ h => h) (Or.inl ⟨by kernel_rfl, ?_⟩) (by assumption) ?_
      · (intro w hSw; (try dsimp only at hSw); go_simp; first | done | with_reducible rfl)
      try go_simp
      refine wpAnyH_done (by kernel_rfl) ?_ _
      refine NoPanic.normal ?_
      go_simp
      go_wp2_with fail
      go_meet
      exact ⟨rfl, gz⟩
  obtain ⟨rfl, g⟩ := hcut
  replace HS := HS.kept g
  replace HD := HD.kept g
  replace gg := gg.trans g
  clear g s0 s1 s2 d0 d1 d2 F1 F2 K1 K2
  have KA := Lib.hid (reaches_k a b p x y)
  have KB := Lib.hid (better2_k a b p z x)
  have KC := Lib.hid (reaches_k a b p z y)
  have KD := Lib.hid (passed_k a b p x)
  have KE := Lib.hid (passed_k a b p z)
  have C4 := Lib.hid (reaches_k a b p x p)
  have C5 := Lib.hid (reaches_k a b p x a)
  rw [F3] at C5
  have C1 := Lib.hid (passed_k a b p b)
  rw [rch_best HC.out] at C1
  have C2 := Lib.hid (passed_k a b p p)
  rw [rch_pass HC.out] at C2
  have HG := Lib.hid (fun h1 h2 => rch_up (a := a) (b := b) (p := p) (x := x) (y := y) (z := z) h1 h2)
  have HE := Lib.hid (fun h1 h2 => rch_up (a := a) (b := b) (p := p) (x := x) (y := p) (z := z) h1 h2)
  clear F3 HC
  generalize rchB a b p x y = α at *
  generalize betB a b p z x = β at *
  generalize rchB a b p z y = γ at *
  generalize rchB a b p x p = δ at *
  generalize rchB a b p z p = ε at *
  go_upto_region 11 with fail
  go_cut [104] (fun u wx => u = .bool false ∧ S3 wx w2.heap.size a b p ∧ D3 wx gb x y z ∧ w.grownBy wx none)
  case first =>
    have gw := gg
    clear C1 C2 C4 C5 gg
    cases β
    · cases α
      · cases δ
        · clear HG HE
          have s0 := HS.c0
          have s1 := HS.c1
          have s2 := HS.c2
          have d0 := HD.c0
          have d1 := HD.c1
          have d2 := HD.c2
          go_wp2_with fail
          refine (KA.out _).mono ?_
          rintro e w3 ⟨rfl, g⟩
          replace HS := HS.kept g
          replace HD := HD.kept g
          replace gw := gw.trans g
          clear g s0 s1 s2 d0 d1 d2
          have s0 := HS.c0
          have s1 := HS.c1
          have s2 := HS.c2
          have d0 := HD.c0
          have d1 := HD.c1
          have d2 := HD.c2
          go_wp2_with fail
          refine (KD.out _).mono ?_
          rintro e w3 ⟨rfl, g⟩
          replace HS := HS.kept g
          replace HD := HD.kept g
          replace gw := gw.trans g
          clear g s0 s1 s2 d0 d1 d2
          have s0 := HS.c0
          have s1 := HS.c1
          have s2 := HS.c2
          have d0 := HD.c0
          have d1 := HD.c1
          have d2 := HD.c2
          go_wp2_with fail
          go_meet
          exact ⟨rfl, HS, HD, gw⟩
        · clear HG HE
          have s0 := HS.c0
          have s1 := HS.c1
          have s2 := HS.c2
          have d0 := HD.c0
          have d1 := HD.c1
          have d2 := HD.c2
          go_wp2_with fail
          refine (KA.out _).mono ?_
          rintro e w3 ⟨rfl, g⟩
          replace HS := HS.kept g
          replace HD := HD.kept g
          replace gw := gw.trans g
          clear g s0 s1 s2 d0 d1 d2
          have s0 := HS.c0
          have s1 := HS.c1
          have s2 := HS.c2
          have d0 := HD.c0
          have d1 := HD.c1
          have d2 := HD.c2
          go_wp2_with fail
          refine (KD.out _).mono ?_
          rintro e w3 ⟨rfl, g⟩
          replace HS := HS.kept g
          replace HD := HD.kept g
          replace gw := gw.trans g
          clear g s0 s1 s2 d0 d1 d2
          have s0 := HS.c0
          have s1 := HS.c1
          have s2 := HS.c2
          have d0 := HD.c0
          have d1 := HD.c1
          have d2 := HD.c2
          go_wp2_with fail
          refine (KB.out _).mono ?_
          rintro e w3 ⟨rfl, g⟩
          replace HS := HS.kept g
          replace HD := HD.kept g
          replace gw := gw.trans g
          clear g s0 s1 s2 d0 d1 d2
          have s0 := HS.c0
          have s1 := HS.c1
          have s2 := HS.c2
          have d0 := HD.c0
          have d1 := HD.c1
          have d2 := HD.c2
          go_wp2_with fail
          go_meet
          exact ⟨rfl, HS, HD, gw⟩
      · cases δ
        · clear HG HE
          have s0 := HS.c0
          have s1 := HS.c1
          have s2 := HS.c2
          have d0 := HD.c0
          have d1 := HD.c1
          have d2 := HD.c2
          go_wp2_with fail
          refine (KA.out _).mono ?_
          rintro e w3 ⟨rfl, g⟩
          replace HS := HS.kept g
          replace HD := HD.kept g
          replace gw := gw.trans g
          clear g s0 s1 s2 d0 d1 d2
          have s0 := HS.c0
          have s1 := HS.c1
          have s2 := HS.c2
          have d0 := HD.c0
          have d1 := HD.c1
          have d2 := HD.c2
          go_wp2_with fail
          refine (KB.out _).mono ?_
          rintro e w3 ⟨rfl, g⟩
          replace HS := HS.kept g
          replace HD := HD.kept g
          replace gw := gw.trans g
          clear g s0 s1 s2 d0 d1 d2
          have s0 := HS.c0
          have s1 := HS.c1
          have s2 := HS.c2
          have d0 := HD.c0
          have d1 := HD.c1
          have d2 := HD.c2
          go_wp2_with fail
          refine (KD.out _).mono ?_
          rintro e w3 ⟨rfl, g⟩
          replace HS := HS.kept g
          replace HD := HD.kept g
          replace gw := gw.trans g
          clear g s0 s1 s2 d0 d1 d2
          have s0 := HS.c0
          have s1 := HS.c1
          have s2 := HS.c2
          have d0 := HD.c0
          have d1 := HD.c1
          have d2 := HD.c2
          go_wp2_with fail
          go_meet
          exact ⟨rfl, HS, HD, gw⟩
        · clear HG HE
          have s0 := HS.c0
          have s1 := HS.c1
          have s2 := HS.c2
          have d0 := HD.c0
          have d1 := HD.c1
          have d2 := HD.c2
          go_wp2_with fail
          refine (KA.out _).mono ?_
          rintro e w3 ⟨rfl, g⟩
          replace HS := HS.kept g
          replace HD := HD.kept g
          replace gw := gw.trans g
          clear g s0 s1 s2 d0 d1 d2
          have s0 := HS.c0
          have s1 := HS.c1
          have s2 := HS.c2
          have d0 := HD.c0
          have d1 := HD.c1
          have d2 := HD.c2
          go_wp2_with fail
          refine (KB.out _).mono ?_
          rintro e w3 ⟨rfl, g⟩
          replace HS := HS.kept g
          replace HD := HD.kept g
          replace gw := gw.trans g
          clear g s0 s1 s2 d0 d1 d2
          have s0 := HS.c0
          have s1 := HS.c1
          have s2 := HS.c2
          have d0 := HD.c0
          have d1 := HD.c1
          have d2 := HD.c2
          go_wp2_with fail
          refine (KD.out _).mono ?_
          rintro e w3 ⟨rfl, g⟩
          replace HS := HS.kept g
          replace HD := HD.kept g
          replace gw := gw.trans g
          clear g s0 s1 s2 d0 d1 d2
          have s0 := HS.c0
          have s1 := HS.c1
          have s2 := HS.c2
          have d0 := HD.c0
          have d1 := HD.c1
          have d2 := HD.c2
          go_wp2_with fail
          refine (KB.out _).mono ?_
          rintro e w3 ⟨rfl, g⟩
          replace HS := HS.kept g
          replace HD := HD.kept g
          replace gw := gw.trans g
          clear g s0 s1 s2 d0 d1 d2
          have s0 := HS.c0
          have s1 := HS.c1
          have s2 := HS.c2
          have d0 := HD.c0
          have d1 := HD.c1
          have d2 := HD.c2
          go_wp2_with fail
          go_meet
          exact ⟨rfl, HS, HD, gw⟩
    · cases α
      · cases δ
        · clear HG HE
          have s0 := HS.c0
          have s1 := HS.c1
          have s2 := HS.c2
          have d0 := HD.c0
          have d1 := HD.c1
          have d2 := HD.c2
          go_wp2_with fail
          refine (KA.out _).mono ?_
          rintro e w3 ⟨rfl, g⟩
          replace HS := HS.kept g
          replace HD := HD.kept g
          replace gw := gw.trans g
          clear g s0 s1 s2 d0 d1 d2
          have s0 := HS.c0
          have s1 := HS.c1
          have s2 := HS.c2
          have d0 := HD.c0
          have d1 := HD.c1
          have d2 := HD.c2
          go_wp2_with fail
          refine (KD.out _).mono ?_
          rintro e w3 ⟨rfl, g⟩
          replace HS := HS.kept g
          replace HD := HD.kept g
          replace gw := gw.trans g
          clear g s0 s1 s2 d0 d1 d2
          have s0 := HS.c0
          have s1 := HS.c1
          have s2 := HS.c2
          have d0 := HD.c0
          have d1 := HD.c1
          have d2 := HD.c2
          go_wp2_with fail
          go_meet
          exact ⟨rfl, HS, HD, gw⟩
        · obtain rfl : ε = true := HE.out rfl rfl
          clear HG HE
          have s0 := HS.c0
          have s1 := HS.c1
          have s2 := HS.c2
          have d0 := HD.c0
          have d1 := HD.c1
          have d2 := HD.c2
          go_wp2_with fail
          refine (KA.out _).mono ?_
          rintro e w3 ⟨rfl, g⟩
          replace HS := HS.kept g
          replace HD := HD.kept g
          replace gw := gw.trans g
          clear g s0 s1 s2 d0 d1 d2
          have s0 := HS.c0
          have s1 := HS.c1
          have s2 := HS.c2
          have d0 := HD.c0
          have d1 := HD.c1
          have d2 := HD.c2
          go_wp2_with fail
          refine (KD.out _).mono ?_
          rintro e w3 ⟨rfl, g⟩
          replace HS := HS.kept g
          replace HD := HD.kept g
          replace gw := gw.trans g
          clear g s0 s1 s2 d0 d1 d2
          have s0 := HS.c0
          have s1 := HS.c1
          have s2 := HS.c2
          have d0 := HD.c0
          have d1 := HD.c1
          have d2 := HD.c2
          go_wp2_with fail
          refine (KB.out _).mono ?_
          rintro e w3 ⟨rfl, g⟩
          replace HS := HS.kept g
          replace HD := HD.kept g
          replace gw := gw.trans g
          clear g s0 s1 s2 d0 d1 d2
          have s0 := HS.c0
          have s1 := HS.c1
          have s2 := HS.c2
          have d0 := HD.c0
          have d1 := HD.c1
          have d2 := HD.c2
          go_wp2_with fail
          refine (KE.out _).mono ?_
          rintro e w3 ⟨rfl, g⟩
          replace HS := HS.kept g
          replace HD := HD.kept g
          replace gw := gw.trans g
          clear g s0 s1 s2 d0 d1 d2
          have s0 := HS.c0
          have s1 := HS.c1
          have s2 := HS.c2
          have d0 := HD.c0
          have d1 := HD.c1
          have d2 := HD.c2
          go_wp2_with fail
          go_meet
          exact ⟨rfl, HS, HD, gw⟩
      · cases δ
        · obtain rfl : γ = true := HG.out rfl rfl
          clear HG HE
          have s0 := HS.c0
          have s1 := HS.c1
          have s2 := HS.c2
          have d0 := HD.c0
          have d1 := HD.c1
          have d2 := HD.c2
          go_wp2_with fail
          refine (KA.out _).mono ?_
          rintro e w3 ⟨rfl, g⟩
          replace HS := HS.kept g
          replace HD := HD.kept g
          replace gw := gw.trans g
          clear g s0 s1 s2 d0 d1 d2
          have s0 := HS.c0
          have s1 := HS.c1
          have s2 := HS.c2
          have d0 := HD.c0
          have d1 := HD.c1
          have d2 := HD.c2
          go_wp2_with fail
          refine (KB.out _).mono ?_
          rintro e w3 ⟨rfl, g⟩
          replace HS := HS.kept g
          replace HD := HD.kept g
          replace gw := gw.trans g
          clear g s0 s1 s2 d0 d1 d2
          have s0 := HS.c0
          have s1 := HS.c1
          have s2 := HS.c2
          have d0 := HD.c0
          have d1 := HD.c1
          have d2 := HD.c2
          go_wp2_with fail
          refine (KC.out _).mono ?_
          rintro e w3 ⟨rfl, g⟩
          replace HS := HS.kept g
          replace HD := HD.kept g
          replace gw := gw.trans g
          clear g s0 s1 s2 d0 d1 d2
          have s0 := HS.c0
          have s1 := HS.c1
          have s2 := HS.c2
          have d0 := HD.c0
          have d1 := HD.c1
          have d2 := HD.c2
          go_wp2_with fail
          refine (KD.out _).mono ?_
          rintro e w3 ⟨rfl, g⟩
          replace HS := HS.kept g
          replace HD := HD.kept g
          replace gw := gw.trans g
          clear g s0 s1 s2 d0 d1 d2
          have s0 := HS.c0
          have s1 := HS.c1
          have s2 := HS.c2
          have d0 := HD.c0
          have d1 := HD.c1
          have d2 := HD.c2
          go_wp2_with fail
          go_meet
          exact ⟨rfl, HS, HD, gw⟩
        · obtain rfl : γ = true := HG.out rfl rfl
          obtain rfl : ε = true := HE.out rfl rfl
          clear HG HE
          have s0 := HS.c0
          have s1 := HS.c1
          have s2 := HS.c2
          have d0 := HD.c0
          have d1 := HD.c1
          have d2 := HD.c2
          go_wp2_with fail
          refine (KA.out _).mono ?_
          rintro e w3 ⟨rfl, g⟩
          replace HS := HS.kept g
          replace HD := HD.kept g
          replace gw := gw.trans g
          clear g s0 s1 s2 d0 d1 d2
          have s0 := HS.c0
          have s1 := HS.c1
          have s2 := HS.c2
          have d0 := HD.c0
          have d1 := HD.c1
          have d2 := HD.c2
          go_wp2_with fail
          refine (KB.out _).mono ?_
          rintro e w3 ⟨rfl, g⟩
          replace HS := HS.kept g
          replace HD := HD.kept g
          replace gw := gw.trans g
          clear g s0 s1 s2 d0 d1 d2
          have s0 := HS.c0
          have s1 := HS.c1
          have s2 := HS.c2
          have d0 := HD.c0
          have d1 := HD.c1
          have d2 := HD.c2
          go_wp2_with fail
          refine (KC.out _).mono ?_
          rintro e w3 ⟨rfl, g⟩
          replace HS := HS.kept g
          replace HD := HD.kept g
          replace gw := gw.trans g
          clear g s0 s1 s2 d0 d1 d2
          have s0 := HS.c0
          have s1 := HS.c1
          have s2 := HS.c2
          have d0 := HD.c0
          have d1 := HD.c1
          have d2 := HD.c2
          go_wp2_with fail
          refine (KD.out _).mono ?_
          rintro e w3 ⟨rfl, g⟩
          replace HS := HS.kept g
          replace HD := HD.kept g
          replace gw := gw.trans g
          clear g s0 s1 s2 d0 d1 d2
          have s0 := HS.c0
          have s1 := HS.c1
          have s2 := HS.c2
          have d0 := HD.c0
          have d1 := HD.c1
          have d2 := HD.c2
          go_wp2_with fail
          refine (KB.out _).mono ?_
          rintro e w3 ⟨rfl, g⟩
          replace HS := HS.kept g
          replace HD := HD.kept g
          replace gw := gw.trans g
          clear g s0 s1 s2 d0 d1 d2
          have s0 := HS.c0
          have s1 := HS.c1
          have s2 := HS.c2
          have d0 := HD.c0
          have d1 := HD.c1
          have d2 := HD.c2
          go_wp2_with fail
          refine (KE.out _).mono ?_
          rintro e w3 ⟨rfl, g⟩
          replace HS := HS.kept g
          replace HD := HD.kept g
          replace gw := gw.trans g
          clear g s0 s1 s2 d0 d1 d2
          have s0 := HS.c0
          have s1 := HS.c1
          have s2 := HS.c2
          have d0 := HD.c0
          have d1 := HD.c1
          have d2 := HD.c2
          go_wp2_with fail
          go_meet
          exact ⟨rfl, HS, HD, gw⟩
  clear HG HE HS HD gg KA KB KC KE
  obtain ⟨rfl, HS, HD, gg⟩ := hcut
  have e1 : (δ == δ) = true := by simp
  have s0 := HS.c0
  have s1 := HS.c1
  have s2 := HS.c2
  have d0 := HD.c0
  have d1 := HD.c1
  have d2 := HD.c2
  have C3 := KD
  clear KD
  go_upto_region 13 with fail
  have gz : wc.grownBy wc.drew none := grown_dr (grown_refl _)
  refine wp_region_noPanic ?_
  refine wp_region_held_drew (S := (fun w' => wc.grownBy w' none)) (by kernel_rfl) ?_ (fun hHeld => ?_)
  · (try dsimp only); (repeat (first | assumption | exact grown_refl _ | refine grown_dr ?_ | refine grown_dn ?_ | refine grown_al ?_))
  refine wpAnyH_take (i := 0) (oi := _) (v := ?_) rfl (by kernel_rfl) (by kernel_rfl) (by kernel_rfl) (fun _ _ _ h => h) (Or.inl ⟨by rfl, ?_⟩) (by assumption) ?_
  rotate_left 1
  · (intro w hSw; (try dsimp only at hSw); go_simp; first | done | with_reducible rfl)
  try go_simp
  refine wpAnyH_take (i := 1) (oi := _) (v := ?_) rfl (by kernel_rfl) (by kernel_rfl) (by kernel_rfl) (fun _ _ _ h => h) (Or.inl ⟨by rfl, ?_⟩) (by assumption) ?_
  rotate_left 1
  · (intro w hSw; (try dsimp only at hSw); go_simp; first | done | with_reducible rfl)
  try go_simp
  refine wpAnyH_take (i := 2) (oi := _) (v := .agg #[.int .i64 a, .int .i64 b, .int .i64 p]) rfl (by kernel_rfl) (by kernel_rfl) (by kernel_rfl) (fun _ _ _ h => h) (Or.inl ⟨by kernel_rfl, ?_⟩) (by assumption) ?_
  · (intro w hSw; (try dsimp only at hSw); go_simp; have y0 := gcell hSw s0; have y1 := gcell hSw s1; have y2 := gcell hSw s2; clear hSw; go_simp; first | done | with_reducible rfl)
  try go_simp
  refine wpAnyH_take (i := 3) (oi := _) (v := ?_) rfl (by kernel_rfl) (by kernel_rfl) (by kernel_rfl) (fun _ _ _ h => h) (Or.inl ⟨by kernel_rfl, ?_⟩) (by assumption) ?_
  rotate_left 1
  · (intro w hSw; (try dsimp only at hSw); go_simp; first | done | with_reducible rfl)
  try go_simp
  refine wpAnyH_take (i := 4) (oi := _) (v := .int .i64 b) rfl (by kernel_rfl) (by kernel_rfl) (by kernel_rfl) (fun _ _ _ h => h) (Or.inl ⟨by kernel_rfl, ?_⟩) (by assumption) ?_
  · (intro w hSw; (try dsimp only at hSw); go_simp; have y0 := gcell hSw s1; clear hSw; go_simp; first | done | with_reducible rfl)
  try go_simp
  refine wpAnyH_ready (rs := [5]) (by kernel_rfl) (by simp) ?_
  refine AllReadyH.cons (o := _) rfl (fun K hK => ?_) AllReadyH.nil
  go_simp
  refine (C1.out _).mono ?_
  rintro e w2 ⟨rfl, g⟩
  replace gz := gz.trans g
  clear g
  first | (refine hK.out _ _ ?_ (fun hHeld => ?_)) | (go_wp2_with fail; refine hK.out _ _ ?_ (fun hHeld => ?_))
  · (try dsimp only); (repeat (first | assumption | exact grown_refl _ | refine grown_dr ?_ | refine grown_dn ?_ | refine grown_al ?_))
  clear hK K
  refine wpAnyH_take (i := 6) (oi := _) (v := ?_) rfl (by kernel_rfl) (by kernel_rfl) (by kernel_rfl) (fun _ _ _ h => h) (Or.inl ⟨by rfl, ?_⟩) (by assumption) ?_
  rotate_left 1
  · (intro w hSw; (try dsimp only at hSw); go_simp; first | done | with_reducible rfl)
  try go_simp
  refine wpAnyH_take (i := 7) (oi := _) (v := ?_) rfl (by kernel_rfl) (by kernel_rfl) (by kernel_rfl) (fun _ _ _ h => h) (Or.inl ⟨by rfl, ?_⟩) (by assumption) ?_
  rotate_left 1
  · (intro w hSw; (try dsimp only at hSw); go_simp; first | done | with_reducible rfl)
  try go_simp
  refine wpAnyH_take (i := 8) (oi := _) (v := .agg #[.int .i64 a, .int .i64 b, .int .i64 p]) rfl (by kernel_rfl) (by kernel_rfl) (by kernel_rfl) (fun _ _ _ h => h) (Or.inl ⟨by kernel_rfl, ?_⟩) (by assumption) ?_
  · (intro w hSw; (try dsimp only at hSw); go_simp; have y0 := gcell hSw s0; have y1 := gcell hSw s1; have y2 := gcell hSw s2; clear hSw; go_simp; first | done | with_reducible rfl)
  try go_simp
  refine wpAnyH_take (i := 9) (oi := _) (v := ?_) rfl (by kernel_rfl) (by kernel_rfl) (by kernel_rfl) (fun _ _ _ h => h) (Or.inl ⟨by kernel_rfl, ?_⟩) (by assumption) ?_
  rotate_left 1
  · (intro w hSw; (try dsimp only at hSw); go_simp; first | done | with_reducible rfl)
  try go_simp
  refine wpAnyH_take (i := 10) (oi := _) (v := .int .i64 p) rfl (by kernel_rfl) (by kernel_rfl) (by kernel_rfl) (fun _ _ _ h => h) (Or.inl ⟨by kernel_rfl, ?_⟩) (by assumption) ?_
  · (intro w hSw; (try dsimp only at hSw); go_simp; have y0 := gcell hSw s2; clear hSw; go_simp; first | done | with_reducible rfl)
  try go_simp
  refine wpAnyH_ready (rs := [11]) (by kernel_rfl) (by simp) ?_
  refine AllReadyH.cons (o := _) rfl (fun K hK => ?_) AllReadyH.nil
  go_simp
  refine (C2.out _).mono ?_
  rintro e w2 ⟨rfl, g⟩
  replace gz := gz.trans g
  clear g
  first | (refine hK.out _ _ ?_ (fun hHeld => ?_)) | (go_wp2_with fail; refine hK.out _ _ ?_ (fun hHeld => ?_))
  · (try dsimp only); (repeat (first | assumption | exact grown_refl _ | refine grown_dr ?_ | refine grown_dn ?_ | refine grown_al ?_))
  clear hK K
  refine wpAnyH_take (i := 12) (oi := _) (v := ?_) rfl (by kernel_rfl) (by kernel_rfl) (by kernel_rfl) (fun _ _ _ h => h) (Or.inl ⟨by rfl, ?_⟩) (by assumption) ?_
  rotate_left 1
  · (intro w hSw; (try dsimp only at hSw); go_simp; first | done | with_reducible rfl)
  try go_simp
  refine wpAnyH_take (i := 13) (oi := _) (v := ?_) rfl (by kernel_rfl) (by kernel_rfl) (by kernel_rfl) (fun _ _ _ h => h) (Or.inl ⟨by rfl, ?_⟩) (by assumption) ?_
  rotate_left 1
  · (intro w hSw; (try dsimp only at hSw); go_simp; first | done | with_reducible rfl)
  try go_simp
  refine wpAnyH_take (i := 14) (oi := _) (v := .agg #[.int .i64 a, .int .i64 b, .int .i64 p]) rfl (by kernel_rfl) (by kernel_rfl) (by kernel_rfl) (fun _ _ _ h => h) (Or.inl ⟨by kernel_rfl, ?_⟩) (by assumption) ?_
  · (intro w hSw; (try dsimp only at hSw); go_simp; have y0 := gcell hSw s0; have y1 := gcell hSw s1; have y2 := gcell hSw s2; clear hSw; go_simp; first | done | with_reducible rfl)
  try go_simp
  refine wpAnyH_take (i := 15) (oi := _) (v := ?_) rfl (by kernel_rfl) (by kernel_rfl) (by kernel_rfl) (fun _ _ _ h => h) (Or.inl ⟨by kernel_rfl, ?_⟩) (by assumption) ?_
  rotate_left 1
  · (intro w hSw; (try dsimp only at hSw); go_simp; first | done | with_reducible rfl)
  try go_simp
  refine wpAnyH_take (i := 16) (oi := _) (v := .int .i64 x) rfl (by kernel_rfl) (by kernel_rfl) (by kernel_rfl) (fun _ _ _ h => h) (Or.inl ⟨by kernel_rfl, ?_⟩) (by assumption) ?_
  · (intro w hSw; (try dsimp only at hSw); go_simp; have y0 := gcell hSw d0; clear hSw; go_simp; first | done | with_reducible rfl)
  try go_simp
  refine wpAnyH_take (i := 18) (oi := _) (v := .agg #[.int .i64 a, .int .i64 b, .int .i64 p]) rfl (by kernel_rfl) (by kernel_rfl) (by kernel_rfl) (fun _ _ _ h => h) (Or.inl ⟨by kernel_rfl, ?_⟩) (by assumption) ?_
  · (intro w hSw; (try dsimp only at hSw); go_simp; have y0 := gcell hSw s0; have y1 := gcell hSw s1; have y2 := gcell hSw s2; clear hSw; go_simp; first | done | with_reducible rfl)
  try go_simp
  refine wpAnyH_take (i := 19) (oi := _) (v := ?_) rfl (by kernel_rfl) (by kernel_rfl) (by kernel_rfl) (fun _ _ _ h => h) (Or.inl ⟨by kernel_rfl, ?_⟩) (by assumption) ?_
  rotate_left 1
  · (intro w hSw; (try dsimp only at hSw); go_simp; first | done | with_reducible rfl)
  try go_simp
  refine wpAnyH_take (i := 20) (oi := _) (v := .int .i64 x) rfl (by kernel_rfl) (by kernel_rfl) (by kernel_rfl) (fun _ _ _ h => h) (Or.inl ⟨by kernel_rfl, ?_⟩) (by assumption) ?_
  · (intro w hSw; (try dsimp only at hSw); go_simp; have y0 := gcell hSw d0; clear hSw; go_simp; first | done | with_reducible rfl)
  try go_simp
  refine wpAnyH_take (i := 21) (oi := _) (v := ?_) rfl (by kernel_rfl) (by kernel_rfl) (by kernel_rfl) (fun _ _ _ h => h) (Or.inl ⟨by kernel_rfl, ?_⟩) (by assumption) ?_
  rotate_left 1
  · (intro w hSw; (try dsimp only at hSw); go_simp; first | done | with_reducible rfl)
  try go_simp
  refine wpAnyH_take (i := 22) (oi := _) (v := .int .i64 p) rfl (by kernel_rfl) (by kernel_rfl) (by kernel_rfl) (fun _ _ _ h => h) (Or.inl ⟨by kernel_rfl, ?_⟩) (by assumption) ?_
  · (intro w hSw; (try dsimp only at hSw); go_simp; have y0 := gcell hSw s2; clear hSw; go_simp; first | done | with_reducible rfl)
  try go_simp
  refine wpAnyH_ready (rs := [17]) (by kernel_rfl) (by simp) ?_
  refine AllReadyH.cons (o := _) rfl (fun K hK => ?_) AllReadyH.nil
  go_simp
  refine (C3.out _).mono ?_
  rintro e w2 ⟨rfl, g⟩
  replace gz := gz.trans g
  clear g
  first | (refine hK.out _ _ ?_ (fun hHeld => ?_)) | (go_wp2_with fail; refine hK.out _ _ ?_ (fun hHeld => ?_))
  · (try dsimp only); (repeat (first | assumption | exact grown_refl _ | refine grown_dr ?_ | refine grown_dn ?_ | refine grown_al ?_))
  clear hK K
  refine wpAnyH_ready (rs := [23]) (by kernel_rfl) (by simp) ?_
  refine AllReadyH.cons (o := _) rfl (fun K hK => ?_) AllReadyH.nil
  go_simp
  refine (C4.out _).mono ?_
  rintro e w2 ⟨rfl, g⟩
  replace gz := gz.trans g
  clear g
  first | (refine hK.out _ _ ?_ (fun hHeld => ?_)) | (go_wp2_with fail; refine hK.out _ _ ?_ (fun hHeld => ?_))
  · (try dsimp only); (repeat (first | assumption | exact grown_refl _ | refine grown_dr ?_ | refine grown_dn ?_ | refine grown_al ?_))
  clear hK K
  refine wpAnyH_take (i := 24) (oi := _) (v := .bool true) rfl (by kernel_rfl) (by kernel_rfl) (by kernel_rfl) (fun _ _ _ h => h) (Or.inl ⟨by kernel_rfl, ?_⟩) (by assumption) ?_
  · (intro w hSw; (try dsimp only at hSw); go_simp; first | done | with_reducible rfl)
  try go_simp
  refine wpAnyH_take (i := 25) (oi := _) (v := ?_) rfl (by kernel_rfl) (by kernel_rfl) (by kernel_rfl) (fun _ _ _ h => h) (Or.inl ⟨by rfl, ?_⟩) (by assumption) ?_
  rotate_left 1
  · (intro w hSw; (try dsimp only at hSw); go_simp; first | done | with_reducible rfl)
  try go_simp
  refine wpAnyH_take (i := 26) (oi := _) (v := ?_) rfl (by kernel_rfl) (by kernel_rfl) (by kernel_rfl) (fun _ _ _ h => h) (Or.inl ⟨by rfl, ?_⟩) (by assumption) ?_
  rotate_left 1
  · (intro w hSw; (try dsimp only at hSw); go_simp; first | done | with_reducible rfl)
  try go_simp
  refine wpAnyH_take (i := 27) (oi := _) (v := .agg #[.int .i64 a, .int .i64 b, .int .i64 p]) rfl (by kernel_rfl) (by kernel_rfl) (by kernel_rfl) (fun _ _ _ h => h) (Or.inl ⟨by kernel_rfl, ?_⟩) (by assumption) ?_
  · (intro w hSw; (try dsimp only at hSw); go_simp; have y0 := gcell hSw s0; have y1 := gcell hSw s1; have y2 := gcell hSw s2; clear hSw; go_simp; first | done | with_reducible rfl)
  try go_simp
  refine wpAnyH_take (i := 28) (oi := _) (v := ?_) rfl (by kernel_rfl) (by kernel_rfl) (by kernel_rfl) (fun _ _ _ h => h) (Or.inl ⟨by kernel_rfl, ?_⟩) (by assumption) ?_
  rotate_left 1
  · (intro w hSw; (try dsimp only at hSw); go_simp; first | done | with_reducible rfl)
  try go_simp
  refine wpAnyH_take (i := 29) (oi := _) (v := .int .i64 x) rfl (by kernel_rfl) (by kernel_rfl) (by kernel_rfl) (fun _ _ _ h => h) (Or.inl ⟨by kernel_rfl, ?_⟩) (by assumption) ?_
  · (intro w hSw; (try dsimp only at hSw); go_simp; have y0 := gcell hSw d0; clear hSw; go_simp; first | done | with_reducible rfl)
  try go_simp
  refine wpAnyH_take (i := 30) (oi := _) (v := ?_) rfl (by kernel_rfl) (by kernel_rfl) (by kernel_rfl) (fun _ _ _ h => h) (Or.inl ⟨by kernel_rfl, ?_⟩) (by assumption) ?_
  rotate_left 1
  · (intro w hSw; (try dsimp only at hSw); go_simp; first | done | with_reducible rfl)
  try go_simp
  refine wpAnyH_take (i := 31) (oi := _) (v := .int .i64 a) rfl (by kernel_rfl) (by kernel_rfl) (by kernel_rfl) (fun _ _ _ h => h) (Or.inl ⟨by kernel_rfl, ?_⟩) (by assumption) ?_
  · (intro w hSw; (try dsimp only at hSw); go_simp; have y0 := gcell hSw s0; clear hSw; go_simp; first | done | with_reducible rfl)
  try go_simp
  refine wpAnyH_ready (rs := [32]) (by kernel_rfl) (by simp) ?_
  refine AllReadyH.cons (o := _) rfl (fun K hK => ?_) AllReadyH.nil
  go_simp
  refine (C5.out _).mono ?_
  rintro e w2 ⟨rfl, g⟩
  replace gz := gz.trans g
  clear g
  first | (refine hK.out _ _ ?_ (fun hHeld => ?_)) | (go_wp2_with fail; refine hK.out _ _ ?_ (fun hHeld => ?_))
  · (try dsimp only); (repeat (first | assumption | exact grown_refl _ | refine grown_dr ?_ | refine grown_dn ?_ | refine grown_al ?_))
  clear hK K
  refine wpAnyH_take (i := 33) (oi := _) (v := ?_) rfl (by kernel_rfl) (by kernel_rfl) (by kernel_rfl) (fun _ _ _ h => h) (Or.inl ⟨by rfl, ?_⟩) (by assumption) ?_
  rotate_left 1
  · (intro w hSw; (try dsimp only at hSw); go_simp; first | done | with_reducible rfl)
  try go_simp
  refine wpAnyH_take (i := 34) (oi := _) (v := ?_) rfl (by kernel_rfl) (by kernel_rfl) (by kernel_rfl) (fun _ _ _ h => h) (Or.inl ⟨by rfl, ?_⟩) (by assumption) ?_
  rotate_left 1
  · (intro w hSw; (try dsimp only at hSw); go_simp; first | done | with_reducible rfl)
  try go_simp
  refine wpAnyH_done (by kernel_rfl) ?_ _
  refine NoPanic.normal ?_
  go_simp
  go_wp2_with fail
  go_ret
  exact ⟨rfl, gg.trans gz⟩
end Go.Proofs.Ytcilclbolmijfaa
