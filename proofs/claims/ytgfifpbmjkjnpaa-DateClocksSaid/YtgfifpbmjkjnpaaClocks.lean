/-
  The law DateClocks.
-/
import Derived.Test.YtgfifpbmjkjnpaaPair
namespace Go.Proofs.Ytgfifpbmjkjnpaa
open Go.RowKit
set_option maxRecDepth 100000 in
set_option maxHeartbeats 8000000 in
theorem clocks_walk (A : Option Addr) (n c0 : Nat) (l : List OpT) (v : Int) (w : World) (HL : Ops w A n c0 l) : Calls Try.prog 6 #[.int .i64 v, .slice A n c0] w fun e w' => e = .returned (.bool true) ∧ w.grownBy w' none := by
  have hn : n ≤ 9223372036854775807 := Nat.le_trans HL.le HL.cap
  have HL := Lib.hid (fun w' (g : w.grownBy w' none) => HL.kept g)
  have v1 := Int.lt_tmod_of_pos v (b := 9) (by omega)
  have v2 := Int.tmod_lt_of_pos v (b := 9) (by omega)
  go_enter Try.func6, Try.ntmps6
  go_wp2_with fail
  refine (sane_k _).mono ?_
  rintro e w1 ⟨rfl, g1⟩
  go_wp2_with fail
  rw [show (v.tmod 9 + 9) % 9 = v.tmod 9 % 9 by omega]
  generalize v.tmod 9 % 9 = v9 at *
  generalize v.tmod 9 + 9 = v99 at *
  generalize v.tmod 9 = v999 at *
  have g2 := g1.trans (World.grownBy_alloc w1 (.cells #[.int .i64 v, .int .i64 v9] 3) none)
  have SL : Hid (∀ i u, #[Value.int .i64 v, Value.int .i64 v9][i]? = some u → (w1.alloc (.cells #[.int .i64 v, .int .i64 v9] 3)).cell? ⟨w1.heap.size, i, none⟩ = some u) := Lib.hid (fun i u hu => (cell_at rfl).trans hu)
  generalize w1.alloc (.cells #[.int .i64 v, .int .i64 v9] 3) = wb at *
  obtain ⟨B, hB⟩ : ∃ B, wb.heap.size = B := ⟨_, rfl⟩
  have HB := Lib.hid hB
  clear hB g1
  go_loopw [25] (fun i wr => ∃ j : Nat, j ≤ 2 ∧ i = .int .i64 j ∧ wb.grownBy wr none) (fun i _ => 2 - (intOf i).toNat)
  case atStart => exact ⟨0, by omega, rfl, World.grownBy.refl _ _⟩
  case round =>
    obtain ⟨j, hj, rfl, gr⟩ := hrel
    by_cases hjt : j < 2
    · obtain ⟨u, hu⟩ : ∃ u : Int, wr.cell? ⟨w1.heap.size, j, none⟩ = some (.int .i64 u) := by
        have hj2 : j = 0 ∨ j = 1 := by omega
        rcases hj2 with rfl | rfl
        · exact ⟨_, gcell gr (SL.out 0 _ rfl)⟩
        · exact ⟨_, gcell gr (SL.out 1 _ rfl)⟩
      have hwr := gr.size
      go_upto_region 5 with fail
      go_cut [8, 9] (fun a b wx => ∃ p r st, a = .pointer p ∧ b = .pointer r ∧ PC B wx p st ∧ RC B wx r st ∧ Fine st ∧ wb.grownBy wx none)
      case first =>
        by_cases hs : serverB u = true
        · have K1 := Lib.hid (new_k u hs)
          have K2 := Lib.hid (rnew_k u hs)
          have hsu : 1 ≤ u ∧ u ≤ 8 := by simpa [serverB] using hs
          clear hs
          go_wp2_with fail
          refine (K1.out _).mono ?_
          rintro e w2 ⟨rfl, rfl⟩
          go_wp2_with fail
          refine (K2.out _).mono ?_
          rintro e w2 ⟨rfl, rfl⟩
          go_wp2_with fail
          go_meet
          have hBB := HB.out
          exact ⟨_, _, some (u, 0, -1, 0), rfl, rfl, ⟨_, rfl, by omega, (Ck.new _ _).kept (World.grownBy_alloc _ _ none)⟩, ⟨_, rfl, by first | omega | (simp; omega), by have h := Ck.rnew (wr.alloc (.cells #[.int .i64 u, .int .i64 0, .int .i64 (-1), .int .i64 0] 57)) u; rwa [show (wr.alloc (.cells #[.int .i64 u, .int .i64 0, .int .i64 (-1), .int .i64 0] 57)).heap.size = wr.heap.size + 1 by simp] at h⟩, ⟨.inl (by decide), by decide, by decide, hsu.1⟩, grown_al (grown_al gr)⟩
        · have K1 := Lib.hid (new_no u (by simpa using hs))
          have K2 := Lib.hid (rnew_no u (by simpa using hs))
          clear hs
          go_wp2_with fail
          refine (K1.out _).mono ?_
          rintro e w2 ⟨rfl, rfl⟩
          go_wp2_with fail
          refine (K2.out _).mono ?_
          rintro e w2 ⟨rfl, rfl⟩
          go_wp2_with fail
          go_meet
          exact ⟨none, none, none, rfl, rfl, rfl, rfl, trivial, gr⟩
      case rest =>
      obtain ⟨p, r, st, rfl, rfl, hP, hR, hF, gc⟩ := hcut
      clear gr hwr hu
      go_upto_region 6 with fail
      go_cut [37] (fun x wx => x = .bool false ∧ wx = wc)
      case first =>
        rcases st with _ | ⟨sv, d, c, s⟩
        · obtain rfl : p = none := hP
          obtain rfl : r = none := hR
          go_wp2_with fail
          go_meet
          exact ⟨rfl, rfl⟩
        · obtain ⟨bp, rfl, _⟩ := hP
          obtain ⟨br, rfl, _⟩ := hR
          go_wp2_with fail
          go_meet
          exact ⟨rfl, rfl⟩
      case rest =>
      obtain ⟨rfl, rfl⟩ := hcut
      go_wp2_with fail
      go_loopw [10] (fun i wr => ∃ (k : Nat) (st : Option (Int × Int × Int × Int)), i = .int .i64 k ∧ k ≤ n ∧ k ≤ 30 ∧ PC B wr p st ∧ RC B wr r st ∧ Fine st ∧ wb.grownBy wr none) (fun i _ => 30 - (intOf i).toNat)
      case atStart => exact ⟨0, st, rfl, by omega, by omega, hP, hR, hF, gc⟩
      case round =>
        clear hP hR hF gc
        obtain ⟨k, st, rfl, hk, hk30, hP, hR, hF, gr⟩ := hrel
        by_cases hlt : k < n ∧ k < 30
        · obtain ⟨hkn, hk3⟩ := hlt
          obtain ⟨ad, h, o, x, q, y, _, rfl, hab, x0, x1, x2, x3, x4⟩ := ops_at (HL.out wr (g2.trans gr)) k hkn
          have SM := Lib.hid (small_k h o x q y)
          have hP := Lib.hid hP
          have hR := Lib.hid hR
          have r1 : (0 : Int) ≤ (k : Int) := by omega
          have r2 : (k : Int) < (n : Int) := by omega
          have r3 : (k : Int) < 30 := by omega
          go_upto_region 11 with fail
          refine wp_region_noPanic ?_
          refine wp_region_held_drew (S := (fun w' => wr.grownBy w' none)) (by kernel_rfl) ?_ (fun hHeld => ?_)
          · (try dsimp only); (first | exact grown_dr (World.grownBy.refl _ _) | exact (grown_dr (World.grownBy.refl _ _)).trans g | exact grown_al ((grown_dr (World.grownBy.refl _ _)).trans g))
          refine wpAnyH_take (i := 0) (oi := _) (v := ?_) rfl (by kernel_rfl) (by kernel_rfl) (by kernel_rfl) (fun _ _ _ h => h) (Or.inl ⟨by rfl, ?_⟩) (by assumption) ?_
          rotate_left 1
          · (intro w hSw; (try dsimp only at hSw); go_simp; first | done | with_reducible rfl)
          try go_simp
          refine wpAnyH_take (i := 1) (oi := _) (v := ?_) rfl (by kernel_rfl) (by kernel_rfl) (by kernel_rfl) (fun _ _ _ h => h) (Or.inl ⟨by rfl, ?_⟩) (by assumption) ?_
          rotate_left 1
          · (intro w hSw; (try dsimp only at hSw); go_simp; first | done | with_reducible rfl)
          try go_simp
          refine wpAnyH_take (i := 2) (oi := _) (v := ?_) rfl (by kernel_rfl) (by kernel_rfl) (by kernel_rfl) (fun _ _ _ h => h) (Or.inl ⟨by rfl, ?_⟩) (by assumption) ?_
          rotate_left 1
          · (intro w hSw; (try dsimp only at hSw); go_simp; first | done | with_reducible rfl)
          try go_simp
          refine wpAnyH_take (i := 3) (oi := _) (v := .agg #[.bool h, .int .i64 o, .int .i64 x, .int .i64 q, .int .i64 y]) rfl (by kernel_rfl) (by kernel_rfl) (by kernel_rfl) (fun _ _ _ h => h) (Or.inl ⟨by kernel_rfl, ?_⟩) (by assumption) ?_
          · (intro w hSw; (try dsimp only at hSw); go_simp; have q0 := gcell hSw x0; have q1 := gcell hSw x1; have q2 := gcell hSw x2; have q3 := gcell hSw x3; have q4 := gcell hSw x4; clear hSw; go_simp; first | done | with_reducible rfl)
          try go_simp
          refine wpAnyH_take (i := 5) (oi := _) (v := ?_) rfl (by kernel_rfl) (by kernel_rfl) (by kernel_rfl) (fun _ _ _ h => h) (Or.inl ⟨by rfl, ?_⟩) (by assumption) ?_
          rotate_left 1
          · (intro w hSw; (try dsimp only at hSw); go_simp; first | done | with_reducible rfl)
          try go_simp
          refine wpAnyH_take (i := 6) (oi := _) (v := ?_) rfl (by kernel_rfl) (by kernel_rfl) (by kernel_rfl) (fun _ _ _ h => h) (Or.inl ⟨by rfl, ?_⟩) (by assumption) ?_
          rotate_left 1
          · (intro w hSw; (try dsimp only at hSw); go_simp; first | done | with_reducible rfl)
          try go_simp
          refine wpAnyH_take (i := 7) (oi := _) (v := ?_) rfl (by kernel_rfl) (by kernel_rfl) (by kernel_rfl) (fun _ _ _ h => h) (Or.inl ⟨by rfl, ?_⟩) (by assumption) ?_
          rotate_left 1
          · (intro w hSw; (try dsimp only at hSw); go_simp; first | done | with_reducible rfl)
          try go_simp
          refine wpAnyH_take (i := 8) (oi := _) (v := .agg #[.bool h, .int .i64 o, .int .i64 x, .int .i64 q, .int .i64 y]) rfl (by kernel_rfl) (by kernel_rfl) (by kernel_rfl) (fun _ _ _ h => h) (Or.inl ⟨by kernel_rfl, ?_⟩) (by assumption) ?_
          · (intro w hSw; (try dsimp only at hSw); go_simp; have q0 := gcell hSw x0; have q1 := gcell hSw x1; have q2 := gcell hSw x2; have q3 := gcell hSw x3; have q4 := gcell hSw x4; clear hSw; go_simp; first | done | with_reducible rfl)
          try go_simp
          refine wpAnyH_take (i := 11) (oi := _) (v := ?_) rfl (by kernel_rfl) (by kernel_rfl) (by kernel_rfl) (fun _ _ _ h => h) (Or.inl ⟨by rfl, ?_⟩) (by assumption) ?_
          rotate_left 1
          · (intro w hSw; (try dsimp only at hSw); go_simp; first | done | with_reducible rfl)
          try go_simp
          refine wpAnyH_ready (rs := [4]) (by kernel_rfl) (by simp) ?_
          refine AllReadyH.cons (o := _) rfl (fun K hK => ?_) ?_
          · clear hHeld
            go_simp
            refine (SM.out _).mono ?_
            rintro e w' ⟨rfl, g⟩
            first | (refine hK.out _ _ ?_ (fun hHeld => ?_)) | (go_wp2_with fail; refine hK.out _ _ ?_ (fun hHeld => ?_))
            · (try dsimp only); (first | exact grown_dr (World.grownBy.refl _ _) | exact (grown_dr (World.grownBy.refl _ _)).trans g | exact grown_al ((grown_dr (World.grownBy.refl _ _)).trans g))
            clear hK K
            refine wpAnyH_ready (rs := [9]) (by kernel_rfl) (by simp) ?_
            refine AllReadyH.cons (o := _) rfl (fun K hK => ?_) ?_
            · clear hHeld
              go_simp
              first | (refine hK.out _ _ ?_ (fun hHeld => ?_)) | (go_wp2_with fail; refine hK.out _ _ ?_ (fun hHeld => ?_))
              · (try dsimp only); (first | exact grown_dr (World.grownBy.refl _ _) | exact (grown_dr (World.grownBy.refl _ _)).trans g | exact grown_al ((grown_dr (World.grownBy.refl _ _)).trans g))
              clear hK K
              refine wpAnyH_take (i := 10) (oi := _) (v := ?_) rfl (by kernel_rfl) (by kernel_rfl) (by kernel_rfl) (fun _ _ _ h => h) (Or.inl ⟨by rfl, ?_⟩) (by assumption) ?_
              rotate_left 1
              · (intro w hSw; (try dsimp only at hSw); go_simp; first | done | with_reducible rfl)
              try go_simp
              refine wpAnyH_done (by kernel_rfl) ?_ _
              refine NoPanic.normal ?_
              go_simp
              go_wp2_with fail
              have D : (w'.alloc (.cells #[Value.bool h, Value.int .i64 (o.tmod 40), Value.int .i64 (x.tmod 40), Value.int .i64 (q.tmod 9), Value.int .i64 (y.tmod 9), Value.bool h, Value.int .i64 o, Value.int .i64 x, Value.int .i64 q, Value.int .i64 y] 41)).heap[w'.heap.size]? = some (.cells #[Value.bool h, Value.int .i64 (o.tmod 40), Value.int .i64 (x.tmod 40), Value.int .i64 (q.tmod 9), Value.int .i64 (y.tmod 9), Value.bool h, Value.int .i64 o, Value.int .i64 x, Value.int .i64 q, Value.int .i64 y] 41 (0, 0)) := World.alloc_heap_new w' _
              have gq := gr.trans hHeld
              have hP := hP.out.kept hHeld
              have hR := hR.out.kept hHeld
              clear hHeld g x0 x1 x2 x3 x4
              generalize w'.alloc (Obj.cells #[Value.bool h, Value.int .i64 (o.tmod 40), Value.int .i64 (x.tmod 40), Value.int .i64 (q.tmod 9), Value.int .i64 (y.tmod 9), Value.bool h, Value.int .i64 o, Value.int .i64 x, Value.int .i64 q, Value.int .i64 y] 41) = wd at *
              go_loopw [59] (fun i wz => ∃ (m : Nat) (st : Option (Int × Int × Int × Int)), i = .int .i64 m ∧ m ≤ 2 ∧ PC B wz p st ∧ RC B wz r st ∧ Fine st ∧ wb.grownBy wz none ∧ wz.heap[w'.heap.size]? = some (.cells #[Value.bool h, Value.int .i64 (o.tmod 40), Value.int .i64 (x.tmod 40), Value.int .i64 (q.tmod 9), Value.int .i64 (y.tmod 9), Value.bool h, Value.int .i64 o, Value.int .i64 x, Value.int .i64 q, Value.int .i64 y] 41 (0, 0))) (fun i _ => 2 - (intOf i).toNat)
              case atStart => exact ⟨0, st, rfl, by omega, hP, hR, hF, gq, D⟩
              case round =>
                clear hP hR hF gq D
                obtain ⟨m, st, rfl, hm, hP, hR, hF, gz, D⟩ := hrel
                by_cases hmt : m < 2
                · have hm2 : m = 0 ∨ m = 1 := by omega
                  clear hmt hm
                  rcases hm2 with rfl | rfl
                  · obtain ⟨h, o, x, q, y, e0, e1, e2, e3, e4⟩ : ∃ (h1 : Bool) (o1 x1 q1 y1 : Int), wr.cell? ⟨w'.heap.size, 0, none⟩ = some (.bool h1) ∧ wr.cell? ⟨w'.heap.size, 1, none⟩ = some (.int .i64 o1) ∧ wr.cell? ⟨w'.heap.size, 2, none⟩ = some (.int .i64 x1) ∧ wr.cell? ⟨w'.heap.size, 3, none⟩ = some (.int .i64 q1) ∧ wr.cell? ⟨w'.heap.size, 4, none⟩ = some (.int .i64 y1) := ⟨h, o.tmod 40, x.tmod 40, q.tmod 9, y.tmod 9, by simp [World.cell?, D], by simp [World.cell?, D], by simp [World.cell?, D], by simp [World.cell?, D], by simp [World.cell?, D]⟩
                    have D := Lib.hid D
                    cases h
                    · have K1 := Lib.hid (fun w h => pnow B p st o w h hF)
                      have K2 := Lib.hid (fun w h => qnow B r st o w h hF)
                      have F' := now_fine st o hF
                      generalize nowO st o = E at K1 K2 F'
                      obtain ⟨a1, a2, a3, er, st'⟩ := E
                      dsimp only at K1 K2 F'
                      have ga := World.grownBy_alloc wr (.cells #[.bool false, .int .i64 o, .int .i64 x, .int .i64 q, .int .i64 y] 41) none
                      have hP0 := Lib.hid (hP.kept ga)
                      have hR0 := Lib.hid (hR.kept ga)
                      have GG := gz.trans ga
                      have D2 := Lib.hid ((ga.block _ (lt_of_heap D.out) (by simp)).trans D.out)
                      have H5 := S5.new wr false o x q y
                      clear hP hR gz ga
                      have L1 := Lib.hid (less_k a1 a2 a3 x q y)
                      have L2 := Lib.hid (less_r a1 a2 a3 x q y)
                      generalize lessB a1 a2 a3 x q y = bb at L1 L2
                      go_wp2_with fail
                      refine (K1.out _ hP0.out).mono ?_
                      rintro e w2 ⟨rfl, hP1, tk, hRk⟩
                      have hR1 := hRk r st hR0.out
                      have H5 := H5.tick tk
                      have G2 := tk.base wb (by have := HB.out; omega) GG
                      have D3 := tk.keep _ _ 41 (by decide) (by decide) D2.out
                      have T := S3.new w2 a1 a2 a3
                      have gn := World.grownBy_alloc w2 (.cells #[.int .i64 a1, .int .i64 a2, .int .i64 a3] 39) none
                      have hP2 := hP1.kept gn
                      have hR2 := hR1.kept gn
                      have H5 := H5.kept gn
                      have G3 := G2.trans gn
                      have D4 := Lib.hid ((gn.block _ (lt_of_heap D3) (by simp)).trans D3)
                      have y1 := H5.c1
                      clear hP1 hR1 hRk tk gn D3 GG G2 D2
                      go_wp2_with fail
                      refine (K2.out _ hR2).mono ?_
                      rintro e w3 ⟨rfl, hR3, tk, hPk⟩
                      have hP3 := hPk p st' hP2
                      have H5 := H5.tick tk
                      have T := T.tick tk
                      have G4 := tk.base wb (by have := HB.out; omega) G3
                      have D5 := tk.keep _ _ 41 (by decide) (by decide) D4.out
                      have U := S3.new w3 a1 a2 a3
                      have gn := World.grownBy_alloc w3 (.cells #[.int .i64 a1, .int .i64 a2, .int .i64 a3] 39) none
                      have hP5 := Lib.hid (hP3.kept gn)
                      have hR5 := Lib.hid (hR3.kept gn)
                      have H5 := H5.kept gn
                      have T := T.kept gn
                      have G5 := G4.trans gn
                      have D5 := Lib.hid ((gn.block _ (lt_of_heap D5) (by simp)).trans D5)
                      clear hP2 hR2 hP3 hR3 hPk tk gn D4 G3 G4 y1
                      go_upto_region 19 with fail
                      generalize w3.alloc (Obj.cells #[Value.int IntKind.i64 a1, Value.int IntKind.i64 a2, Value.int IntKind.i64 a3] 39) = w5 at *
                      have HS0 := Lib.hid (fun w' (g : w5.grownBy w' none) => (⟨T.kept g, U.kept g, H5.kept g, g⟩ : S3 w' w2.heap.size a1 a2 a3 ∧ S3 w' w3.heap.size a1 a2 a3 ∧ S5 w' wr.heap.size false o x q y ∧ w5.grownBy w' none))
                      clear T U H5
                      refine wp_region_noPanic ?_
                      refine wp_region_held_drew (S := (fun w' => S3 w' w2.heap.size a1 a2 a3 ∧ S3 w' w3.heap.size a1 a2 a3 ∧ S5 w' wr.heap.size false o x q y ∧ w5.grownBy w' none)) (by kernel_rfl) ?_ (fun hHeld => ?_)
                      · (try dsimp only); (first | exact HS0.out _ (grown_dr (World.grownBy.refl _ _)) | exact HS0.out _ ((grown_dr (World.grownBy.refl _ _)).trans ga) | exact HS0.out _ (((grown_dr (World.grownBy.refl _ _)).trans ga).trans gb))
                      refine wpAnyH_take (i := 0) (oi := _) (v := .agg #[.int .i64 a1, .int .i64 a2, .int .i64 a3]) rfl (by kernel_rfl) (by kernel_rfl) (by kernel_rfl) (fun _ _ _ h => h) (Or.inl ⟨by kernel_rfl, ?_⟩) (by assumption) ?_
                      · (intro w hSw; (try dsimp only at hSw); go_simp; obtain ⟨k1, k2, k3, k4⟩ := hSw; have q0 := k1.c0; have q1 := k1.c1; have q2 := k1.c2; clear k1 k2 k3 k4; go_simp; first | done | with_reducible rfl)
                      try go_simp
                      refine wpAnyH_take (i := 1) (oi := _) (v := .agg #[.int .i64 a1, .int .i64 a2, .int .i64 a3]) rfl (by kernel_rfl) (by kernel_rfl) (by kernel_rfl) (fun _ _ _ h => h) (Or.inl ⟨by kernel_rfl, ?_⟩) (by assumption) ?_
                      · (intro w hSw; (try dsimp only at hSw); go_simp; obtain ⟨k1, k2, k3, k4⟩ := hSw; have q0 := k2.c0; have q1 := k2.c1; have q2 := k2.c2; clear k1 k2 k3 k4; go_simp; first | done | with_reducible rfl)
                      try go_simp
                      refine wpAnyH_take (i := 2) (oi := _) (v := ?_) rfl (by kernel_rfl) (by kernel_rfl) (by kernel_rfl) (fun _ _ _ h => h) (Or.inl ⟨by rfl, ?_⟩) (by assumption) ?_
                      rotate_left 1
                      · (intro w hSw; (try dsimp only at hSw); go_simp; first | done | with_reducible rfl)
                      try go_simp
                      refine wpAnyH_take (i := 3) (oi := _) (v := ?_) rfl (by kernel_rfl) (by kernel_rfl) (by kernel_rfl) (fun _ _ _ h => h) (Or.inl ⟨by rfl, ?_⟩) (by assumption) ?_
                      rotate_left 1
                      · (intro w hSw; (try dsimp only at hSw); go_simp; first | done | with_reducible rfl)
                      try go_simp
                      refine wpAnyH_take (i := 4) (oi := _) (v := ?_) rfl (by kernel_rfl) (by kernel_rfl) (by kernel_rfl) (fun _ _ _ h => h) (Or.inl ⟨by kernel_rfl, ?_⟩) (by assumption) ?_
                      rotate_left 1
                      · (intro w hSw; (try dsimp only at hSw); go_simp; first | done | with_reducible rfl)
                      try go_simp
                      refine wpAnyH_take (i := 5) (oi := _) (v := ?_) rfl (by kernel_rfl) (by kernel_rfl) (by kernel_rfl) (fun _ _ _ h => h) (Or.inl ⟨by kernel_rfl, ?_⟩) (by assumption) ?_
                      rotate_left 1
                      · (intro w hSw; (try dsimp only at hSw); go_simp; first | done | with_reducible rfl)
                      try go_simp
                      refine wpAnyH_take (i := 6) (oi := _) (v := ?_) rfl (by kernel_rfl) (by kernel_rfl) (by kernel_rfl) (fun _ _ _ h => h) (Or.inl ⟨by kernel_rfl, ?_⟩) (by assumption) ?_
                      rotate_left 1
                      · (intro w hSw; (try dsimp only at hSw); go_simp; first | done | with_reducible rfl)
                      try go_simp
                      refine wpAnyH_take (i := 7) (oi := _) (v := ?_) rfl (by kernel_rfl) (by kernel_rfl) (by kernel_rfl) (fun _ _ _ h => h) (Or.inl ⟨by rfl, ?_⟩) (by assumption) ?_
                      rotate_left 1
                      · (intro w hSw; (try dsimp only at hSw); go_simp; first | done | with_reducible rfl)
                      try go_simp
                      refine wpAnyH_take (i := 8) (oi := _) (v := ?_) rfl (by kernel_rfl) (by kernel_rfl) (by kernel_rfl) (fun _ _ _ h => h) (Or.inl ⟨by rfl, ?_⟩) (by assumption) ?_
                      rotate_left 1
                      · (intro w hSw; (try dsimp only at hSw); go_simp; first | done | with_reducible rfl)
                      try go_simp
                      refine wpAnyH_take (i := 9) (oi := _) (v := .agg #[.int .i64 a1, .int .i64 a2, .int .i64 a3]) rfl (by kernel_rfl) (by kernel_rfl) (by kernel_rfl) (fun _ _ _ h => h) (Or.inl ⟨by kernel_rfl, ?_⟩) (by assumption) ?_
                      · (intro w hSw; (try dsimp only at hSw); go_simp; obtain ⟨k1, k2, k3, k4⟩ := hSw; have q0 := k1.c0; have q1 := k1.c1; have q2 := k1.c2; clear k1 k2 k3 k4; go_simp; first | done | with_reducible rfl)
                      try go_simp
                      refine wpAnyH_take (i := 10) (oi := _) (v := ?_) rfl (by kernel_rfl) (by kernel_rfl) (by kernel_rfl) (fun _ _ _ h => h) (Or.inl ⟨by kernel_rfl, ?_⟩) (by assumption) ?_
                      rotate_left 1
                      · (intro w hSw; (try dsimp only at hSw); go_simp; first | done | with_reducible rfl)
                      try go_simp
                      refine wpAnyH_take (i := 11) (oi := _) (v := .agg #[.int .i64 x, .int .i64 q, .int .i64 y]) rfl (by kernel_rfl) (by kernel_rfl) (by kernel_rfl) (fun _ _ _ h => h) (Or.inl ⟨by kernel_rfl, ?_⟩) (by assumption) ?_
                      · (intro w hSw; (try dsimp only at hSw); go_simp; obtain ⟨k1, k2, k3, k4⟩ := hSw; have q0 := k3.c2; have q1 := k3.c3; have q2 := k3.c4; clear k1 k2 k3 k4; go_simp; first | done | with_reducible rfl)
                      try go_simp
                      refine wpAnyH_take (i := 13) (oi := _) (v := .agg #[.int .i64 a1, .int .i64 a2, .int .i64 a3]) rfl (by kernel_rfl) (by kernel_rfl) (by kernel_rfl) (fun _ _ _ h => h) (Or.inl ⟨by kernel_rfl, ?_⟩) (by assumption) ?_
                      · (intro w hSw; (try dsimp only at hSw); go_simp; obtain ⟨k1, k2, k3, k4⟩ := hSw; have q0 := k1.c0; have q1 := k1.c1; have q2 := k1.c2; clear k1 k2 k3 k4; go_simp; first | done | with_reducible rfl)
                      try go_simp
                      refine wpAnyH_take (i := 14) (oi := _) (v := ?_) rfl (by kernel_rfl) (by kernel_rfl) (by kernel_rfl) (fun _ _ _ h => h) (Or.inl ⟨by kernel_rfl, ?_⟩) (by assumption) ?_
                      rotate_left 1
                      · (intro w hSw; (try dsimp only at hSw); go_simp; first | done | with_reducible rfl)
                      try go_simp
                      refine wpAnyH_take (i := 15) (oi := _) (v := .agg #[.int .i64 x, .int .i64 q, .int .i64 y]) rfl (by kernel_rfl) (by kernel_rfl) (by kernel_rfl) (fun _ _ _ h => h) (Or.inl ⟨by kernel_rfl, ?_⟩) (by assumption) ?_
                      · (intro w hSw; (try dsimp only at hSw); go_simp; obtain ⟨k1, k2, k3, k4⟩ := hSw; have q0 := k3.c2; have q1 := k3.c3; have q2 := k3.c4; clear k1 k2 k3 k4; go_simp; first | done | with_reducible rfl)
                      try go_simp
                      refine wpAnyH_ready (rs := [12]) (by kernel_rfl) (by simp) ?_
                      refine AllReadyH.cons (o := _) rfl (fun K hK => ?_) ?_
                      · clear hHeld
                        go_simp
                        refine (L1.out _).mono ?_
                        rintro e w' ⟨rfl, ga⟩
                        first | (refine hK.out _ _ ?_ (fun hHeld => ?_)) | (go_wp2_with fail; refine hK.out _ _ ?_ (fun hHeld => ?_))
                        · (try dsimp only); (first | exact HS0.out _ (grown_dr (World.grownBy.refl _ _)) | exact HS0.out _ ((grown_dr (World.grownBy.refl _ _)).trans ga) | exact HS0.out _ (((grown_dr (World.grownBy.refl _ _)).trans ga).trans gb))
                        clear hK K
                        refine wpAnyH_ready (rs := [16]) (by kernel_rfl) (by simp) ?_
                        refine AllReadyH.cons (o := _) rfl (fun K hK => ?_) ?_
                        · clear hHeld
                          go_simp
                          refine (L2.out _).mono ?_
                          rintro e w6 ⟨rfl, gb⟩
                          first | (refine hK.out _ _ ?_ (fun hHeld => ?_)) | (go_wp2_with fail; refine hK.out _ _ ?_ (fun hHeld => ?_))
                          · (try dsimp only); (first | exact HS0.out _ (grown_dr (World.grownBy.refl _ _)) | exact HS0.out _ ((grown_dr (World.grownBy.refl _ _)).trans ga) | exact HS0.out _ (((grown_dr (World.grownBy.refl _ _)).trans ga).trans gb))
                          clear hK K
                          refine wpAnyH_take (i := 17) (oi := _) (v := ?_) rfl (by kernel_rfl) (by kernel_rfl) (by kernel_rfl) (fun _ _ _ h => h) (Or.inl ⟨by kernel_rfl, ?_⟩) (by assumption) ?_
                          rotate_left 1
                          · (intro w hSw; (try dsimp only at hSw); go_simp; first | done | with_reducible rfl)
                          try go_simp
                          refine wpAnyH_take (i := 18) (oi := _) (v := ?_) rfl (by kernel_rfl) (by kernel_rfl) (by kernel_rfl) (fun _ _ _ h => h) (Or.inl ⟨by rfl, ?_⟩) (by assumption) ?_
                          rotate_left 1
                          · (intro w hSw; (try dsimp only at hSw); go_simp; first | done | with_reducible rfl)
                          try go_simp
                          refine wpAnyH_done (by kernel_rfl) ?_ _
                          refine NoPanic.normal ?_
                          go_simp
                          have gd := ((grown_dr (World.grownBy.refl w5 _)).trans ga).trans gb
                          have hP9 := Lib.hid (hP5.out.kept gd)
                          have hR9 := Lib.hid (hR5.out.kept gd)
                          have G9 := G5.trans gd
                          have D9 := Lib.hid ((gd.block _ (lt_of_heap D5.out) (by simp)).trans D5.out)
                          clear hHeld ga gb gd
                          go_wp2_with fail
                          exact ⟨⟨0 + 1, st', by go_num, by omega, hP9.out, hR9.out, F', G9, D9.out⟩, by simp [intOf]⟩
                        exact AllReadyH.nil
                      exact AllReadyH.nil
                    · have K1 := Lib.hid (fun w h => phear B p st x q y o w h hF)
                      have K2 := Lib.hid (fun w h => qhear B r st x q y o w h hF)
                      have F' := hear_fine st x q y o hF
                      generalize hearO st x q y o = E at K1 K2 F'
                      obtain ⟨er, st'⟩ := E
                      dsimp only at K1 K2 F'
                      have ga := World.grownBy_alloc wr (.cells #[.bool true, .int .i64 o, .int .i64 x, .int .i64 q, .int .i64 y] 41) none
                      have hP0 := Lib.hid (hP.kept ga)
                      have hR0 := Lib.hid (hR.kept ga)
                      have GG := gz.trans ga
                      have D2 := Lib.hid ((ga.block _ (lt_of_heap D.out) (by simp)).trans D.out)
                      have H5 := S5.new wr true o x q y
                      clear hP hR gz ga
                      have HS0 := Lib.hid (H5.kept (grown_dr (World.grownBy.refl _ _)))
                      have hP0 := Lib.hid (hP0.out.kept (grown_dr (World.grownBy.refl _ _)))
                      have hR0 := Lib.hid (hR0.out.kept (grown_dr (World.grownBy.refl _ _)))
                      have GG := grown_dr GG
                      have D2 := Lib.hid (((grown_dr (World.grownBy.refl _ none)).block _ (lt_of_heap D2.out) (by simp)).trans D2.out)
                      clear H5
                      go_upto_region 15 with fail
                      refine wp_region_noPanic ?_
                      refine wp_region_held_drew (S := (fun w' => S5 w' wr.heap.size true o x q y)) (by kernel_rfl) ?_ (fun hHeld => ?_)
                      · (try dsimp only); (first | exact HS0.out | exact S5.tick tk HS0.out | exact S5.tick tk2 (S5.tick tk HS0.out))
                      refine wpAnyH_take (i := 0) (oi := _) (v := ?_) rfl (by kernel_rfl) (by kernel_rfl) (by kernel_rfl) (fun _ _ _ h => h) (Or.inl ⟨by rfl, ?_⟩) (by assumption) ?_
                      rotate_left 1
                      · (intro w hSw; (try dsimp only at hSw); go_simp; first | done | with_reducible rfl)
                      try go_simp
                      refine wpAnyH_take (i := 1) (oi := _) (v := ?_) rfl (by kernel_rfl) (by kernel_rfl) (by kernel_rfl) (fun _ _ _ h => h) (Or.inl ⟨by rfl, ?_⟩) (by assumption) ?_
                      rotate_left 1
                      · (intro w hSw; (try dsimp only at hSw); go_simp; first | done | with_reducible rfl)
                      try go_simp
                      refine wpAnyH_take (i := 2) (oi := _) (v := .agg #[.int .i64 x, .int .i64 q, .int .i64 y]) rfl (by kernel_rfl) (by kernel_rfl) (by kernel_rfl) (fun _ _ _ h => h) (Or.inl ⟨by kernel_rfl, ?_⟩) (by assumption) ?_
                      · (intro w hSw; (try dsimp only at hSw); go_simp; have q0 := S5.c2 hSw; have q1 := S5.c3 hSw; have q2 := S5.c4 hSw; clear hSw; go_simp; first | done | with_reducible rfl)
                      try go_simp
                      refine wpAnyH_take (i := 3) (oi := _) (v := ?_) rfl (by kernel_rfl) (by kernel_rfl) (by kernel_rfl) (fun _ _ _ h => h) (Or.inl ⟨by rfl, ?_⟩) (by assumption) ?_
                      rotate_left 1
                      · (intro w hSw; (try dsimp only at hSw); go_simp; first | done | with_reducible rfl)
                      try go_simp
                      refine wpAnyH_take (i := 4) (oi := _) (v := .int .i64 o) rfl (by kernel_rfl) (by kernel_rfl) (by kernel_rfl) (fun _ _ _ h => h) (Or.inl ⟨by kernel_rfl, ?_⟩) (by assumption) ?_
                      · (intro w hSw; (try dsimp only at hSw); go_simp; have q0 := S5.c1 hSw; clear hSw; go_simp; first | done | with_reducible rfl)
                      try go_simp
                      refine wpAnyH_take (i := 6) (oi := _) (v := ?_) rfl (by kernel_rfl) (by kernel_rfl) (by kernel_rfl) (fun _ _ _ h => h) (Or.inl ⟨by rfl, ?_⟩) (by assumption) ?_
                      rotate_left 1
                      · (intro w hSw; (try dsimp only at hSw); go_simp; first | done | with_reducible rfl)
                      try go_simp
                      refine wpAnyH_take (i := 7) (oi := _) (v := ?_) rfl (by kernel_rfl) (by kernel_rfl) (by kernel_rfl) (fun _ _ _ h => h) (Or.inl ⟨by rfl, ?_⟩) (by assumption) ?_
                      rotate_left 1
                      · (intro w hSw; (try dsimp only at hSw); go_simp; first | done | with_reducible rfl)
                      try go_simp
                      refine wpAnyH_take (i := 8) (oi := _) (v := .agg #[.int .i64 x, .int .i64 q, .int .i64 y]) rfl (by kernel_rfl) (by kernel_rfl) (by kernel_rfl) (fun _ _ _ h => h) (Or.inl ⟨by kernel_rfl, ?_⟩) (by assumption) ?_
                      · (intro w hSw; (try dsimp only at hSw); go_simp; have q0 := S5.c2 hSw; have q1 := S5.c3 hSw; have q2 := S5.c4 hSw; clear hSw; go_simp; first | done | with_reducible rfl)
                      try go_simp
                      refine wpAnyH_take (i := 9) (oi := _) (v := ?_) rfl (by kernel_rfl) (by kernel_rfl) (by kernel_rfl) (fun _ _ _ h => h) (Or.inl ⟨by rfl, ?_⟩) (by assumption) ?_
                      rotate_left 1
                      · (intro w hSw; (try dsimp only at hSw); go_simp; first | done | with_reducible rfl)
                      try go_simp
                      refine wpAnyH_take (i := 10) (oi := _) (v := .int .i64 o) rfl (by kernel_rfl) (by kernel_rfl) (by kernel_rfl) (fun _ _ _ h => h) (Or.inl ⟨by kernel_rfl, ?_⟩) (by assumption) ?_
                      · (intro w hSw; (try dsimp only at hSw); go_simp; have q0 := S5.c1 hSw; clear hSw; go_simp; first | done | with_reducible rfl)
                      try go_simp
                      refine wpAnyH_ready (rs := [5]) (by kernel_rfl) (by simp) ?_
                      refine AllReadyH.cons (o := _) rfl (fun K hK => ?_) ?_
                      · clear hHeld
                        go_simp
                        refine (K1.out _ hP0.out).mono ?_
                        rintro e w' ⟨rfl, hP1, tk, hRk⟩
                        have hR1 := Lib.hid (hRk r st hR0.out)
                        have hP1 := Lib.hid hP1
                        clear hRk
                        first | (refine hK.out _ _ ?_ (fun hHeld => ?_)) | (go_wp2_with fail; refine hK.out _ _ ?_ (fun hHeld => ?_))
                        · (try dsimp only); (first | exact HS0.out | exact S5.tick tk HS0.out | exact S5.tick tk2 (S5.tick tk HS0.out))
                        clear hK K
                        refine wpAnyH_ready (rs := [11]) (by kernel_rfl) (by simp) ?_
                        refine AllReadyH.cons (o := _) rfl (fun K hK => ?_) ?_
                        · clear hHeld
                          go_simp
                          refine (K2.out _ hR1.out).mono ?_
                          rintro e w2 ⟨rfl, hR2, tk2, hPk⟩
                          have hP2 := Lib.hid (hPk p _ hP1.out)
                          have hR2 := Lib.hid hR2
                          clear hPk
                          first | (refine hK.out _ _ ?_ (fun hHeld => ?_)) | (go_wp2_with fail; refine hK.out _ _ ?_ (fun hHeld => ?_))
                          · (try dsimp only); (first | exact HS0.out | exact S5.tick tk HS0.out | exact S5.tick tk2 (S5.tick tk HS0.out))
                          clear hK K
                          refine wpAnyH_take (i := 12) (oi := _) (v := ?_) rfl (by kernel_rfl) (by kernel_rfl) (by kernel_rfl) (fun _ _ _ h => h) (Or.inl ⟨by rfl, ?_⟩) (by assumption) ?_
                          rotate_left 1
                          · (intro w hSw; (try dsimp only at hSw); go_simp; first | done | with_reducible rfl)
                          try go_simp
                          refine wpAnyH_done (by kernel_rfl) ?_ _
                          refine NoPanic.normal ?_
                          go_simp
                          have G3 := tk2.base wb (by have := HB.out; omega) (tk.base wb (by have := HB.out; omega) GG)
                          have D3 := tk2.keep _ _ 41 (by decide) (by decide) (tk.keep _ _ 41 (by decide) (by decide) D2.out)
                          have D3 := Lib.hid D3
                          clear hHeld tk tk2
                          go_wp2_with fail
                          exact ⟨⟨0 + 1, st', by go_num, by omega, hP2.out, hR2.out, F', G3, D3.out⟩, by simp [intOf]⟩
                        exact AllReadyH.nil
                      exact AllReadyH.nil
                  · obtain ⟨h, o, x, q, y, e0, e1, e2, e3, e4⟩ : ∃ (h1 : Bool) (o1 x1 q1 y1 : Int), wr.cell? ⟨w'.heap.size, 5, none⟩ = some (.bool h1) ∧ wr.cell? ⟨w'.heap.size, 6, none⟩ = some (.int .i64 o1) ∧ wr.cell? ⟨w'.heap.size, 7, none⟩ = some (.int .i64 x1) ∧ wr.cell? ⟨w'.heap.size, 8, none⟩ = some (.int .i64 q1) ∧ wr.cell? ⟨w'.heap.size, 9, none⟩ = some (.int .i64 y1) := ⟨h, o, x, q, y, by simp [World.cell?, D], by simp [World.cell?, D], by simp [World.cell?, D], by simp [World.cell?, D], by simp [World.cell?, D]⟩
                    have D := Lib.hid D
                    cases h
                    · have K1 := Lib.hid (fun w h => pnow B p st o w h hF)
                      have K2 := Lib.hid (fun w h => qnow B r st o w h hF)
                      have F' := now_fine st o hF
                      generalize nowO st o = E at K1 K2 F'
                      obtain ⟨a1, a2, a3, er, st'⟩ := E
                      dsimp only at K1 K2 F'
                      have ga := World.grownBy_alloc wr (.cells #[.bool false, .int .i64 o, .int .i64 x, .int .i64 q, .int .i64 y] 41) none
                      have hP0 := Lib.hid (hP.kept ga)
                      have hR0 := Lib.hid (hR.kept ga)
                      have GG := gz.trans ga
                      have D2 := Lib.hid ((ga.block _ (lt_of_heap D.out) (by simp)).trans D.out)
                      have H5 := S5.new wr false o x q y
                      clear hP hR gz ga
                      have L1 := Lib.hid (less_k a1 a2 a3 x q y)
                      have L2 := Lib.hid (less_r a1 a2 a3 x q y)
                      generalize lessB a1 a2 a3 x q y = bb at L1 L2
                      go_wp2_with fail
                      refine (K1.out _ hP0.out).mono ?_
                      rintro e w2 ⟨rfl, hP1, tk, hRk⟩
                      have hR1 := hRk r st hR0.out
                      have H5 := H5.tick tk
                      have G2 := tk.base wb (by have := HB.out; omega) GG
                      have D3 := tk.keep _ _ 41 (by decide) (by decide) D2.out
                      have T := S3.new w2 a1 a2 a3
                      have gn := World.grownBy_alloc w2 (.cells #[.int .i64 a1, .int .i64 a2, .int .i64 a3] 39) none
                      have hP2 := hP1.kept gn
                      have hR2 := hR1.kept gn
                      have H5 := H5.kept gn
                      have G3 := G2.trans gn
                      have D4 := Lib.hid ((gn.block _ (lt_of_heap D3) (by simp)).trans D3)
                      have y1 := H5.c1
                      clear hP1 hR1 hRk tk gn D3 GG G2 D2
                      go_wp2_with fail
                      refine (K2.out _ hR2).mono ?_
                      rintro e w3 ⟨rfl, hR3, tk, hPk⟩
                      have hP3 := hPk p st' hP2
                      have H5 := H5.tick tk
                      have T := T.tick tk
                      have G4 := tk.base wb (by have := HB.out; omega) G3
                      have D5 := tk.keep _ _ 41 (by decide) (by decide) D4.out
                      have U := S3.new w3 a1 a2 a3
                      have gn := World.grownBy_alloc w3 (.cells #[.int .i64 a1, .int .i64 a2, .int .i64 a3] 39) none
                      have hP5 := Lib.hid (hP3.kept gn)
                      have hR5 := Lib.hid (hR3.kept gn)
                      have H5 := H5.kept gn
                      have T := T.kept gn
                      have G5 := G4.trans gn
                      have D5 := Lib.hid ((gn.block _ (lt_of_heap D5) (by simp)).trans D5)
                      clear hP2 hR2 hP3 hR3 hPk tk gn D4 G3 G4 y1
                      go_upto_region 19 with fail
                      generalize w3.alloc (Obj.cells #[Value.int IntKind.i64 a1, Value.int IntKind.i64 a2, Value.int IntKind.i64 a3] 39) = w5 at *
                      have HS0 := Lib.hid (fun w' (g : w5.grownBy w' none) => (⟨T.kept g, U.kept g, H5.kept g, g⟩ : S3 w' w2.heap.size a1 a2 a3 ∧ S3 w' w3.heap.size a1 a2 a3 ∧ S5 w' wr.heap.size false o x q y ∧ w5.grownBy w' none))
                      clear T U H5
                      refine wp_region_noPanic ?_
                      refine wp_region_held_drew (S := (fun w' => S3 w' w2.heap.size a1 a2 a3 ∧ S3 w' w3.heap.size a1 a2 a3 ∧ S5 w' wr.heap.size false o x q y ∧ w5.grownBy w' none)) (by kernel_rfl) ?_ (fun hHeld => ?_)
                      · (try dsimp only); (first | exact HS0.out _ (grown_dr (World.grownBy.refl _ _)) | exact HS0.out _ ((grown_dr (World.grownBy.refl _ _)).trans ga) | exact HS0.out _ (((grown_dr (World.grownBy.refl _ _)).trans ga).trans gb))
                      refine wpAnyH_take (i := 0) (oi := _) (v := .agg #[.int .i64 a1, .int .i64 a2, .int .i64 a3]) rfl (by kernel_rfl) (by kernel_rfl) (by kernel_rfl) (fun _ _ _ h => h) (Or.inl ⟨by kernel_rfl, ?_⟩) (by assumption) ?_
                      · (intro w hSw; (try dsimp only at hSw); go_simp; obtain ⟨k1, k2, k3, k4⟩ := hSw; have q0 := k1.c0; have q1 := k1.c1; have q2 := k1.c2; clear k1 k2 k3 k4; go_simp; first | done | with_reducible rfl)
                      try go_simp
                      refine wpAnyH_take (i := 1) (oi := _) (v := .agg #[.int .i64 a1, .int .i64 a2, .int .i64 a3]) rfl (by kernel_rfl) (by kernel_rfl) (by kernel_rfl) (fun _ _ _ h => h) (Or.inl ⟨by kernel_rfl, ?_⟩) (by assumption) ?_
                      · (intro w hSw; (try dsimp only at hSw); go_simp; obtain ⟨k1, k2, k3, k4⟩ := hSw; have q0 := k2.c0; have q1 := k2.c1; have q2 := k2.c2; clear k1 k2 k3 k4; go_simp; first | done | with_reducible rfl)
                      try go_simp
                      refine wpAnyH_take (i := 2) (oi := _) (v := ?_) rfl (by kernel_rfl) (by kernel_rfl) (by kernel_rfl) (fun _ _ _ h => h) (Or.inl ⟨by rfl, ?_⟩) (by assumption) ?_
                      rotate_left 1
                      · (intro w hSw; (try dsimp only at hSw); go_simp; first | done | with_reducible rfl)
                      try go_simp
                      refine wpAnyH_take (i := 3) (oi := _) (v := ?_) rfl (by kernel_rfl) (by kernel_rfl) (by kernel_rfl) (fun _ _ _ h => h) (Or.inl ⟨by rfl, ?_⟩) (by assumption) ?_
                      rotate_left 1
                      · (intro w hSw; (try dsimp only at hSw); go_simp; first | done | with_reducible rfl)
                      try go_simp
                      refine wpAnyH_take (i := 4) (oi := _) (v := ?_) rfl (by kernel_rfl) (by kernel_rfl) (by kernel_rfl) (fun _ _ _ h => h) (Or.inl ⟨by kernel_rfl, ?_⟩) (by assumption) ?_
                      rotate_left 1
                      · (intro w hSw; (try dsimp only at hSw); go_simp; first | done | with_reducible rfl)
                      try go_simp
                      refine wpAnyH_take (i := 5) (oi := _) (v := ?_) rfl (by kernel_rfl) (by kernel_rfl) (by kernel_rfl) (fun _ _ _ h => h) (Or.inl ⟨by kernel_rfl, ?_⟩) (by assumption) ?_
                      rotate_left 1
                      · (intro w hSw; (try dsimp only at hSw); go_simp; first | done | with_reducible rfl)
                      try go_simp
                      refine wpAnyH_take (i := 6) (oi := _) (v := ?_) rfl (by kernel_rfl) (by kernel_rfl) (by kernel_rfl) (fun _ _ _ h => h) (Or.inl ⟨by kernel_rfl, ?_⟩) (by assumption) ?_
                      rotate_left 1
                      · (intro w hSw; (try dsimp only at hSw); go_simp; first | done | with_reducible rfl)
                      try go_simp
                      refine wpAnyH_take (i := 7) (oi := _) (v := ?_) rfl (by kernel_rfl) (by kernel_rfl) (by kernel_rfl) (fun _ _ _ h => h) (Or.inl ⟨by rfl, ?_⟩) (by assumption) ?_
                      rotate_left 1
                      · (intro w hSw; (try dsimp only at hSw); go_simp; first | done | with_reducible rfl)
                      try go_simp
                      refine wpAnyH_take (i := 8) (oi := _) (v := ?_) rfl (by kernel_rfl) (by kernel_rfl) (by kernel_rfl) (fun _ _ _ h => h) (Or.inl ⟨by rfl, ?_⟩) (by assumption) ?_
                      rotate_left 1
                      · (intro w hSw; (try dsimp only at hSw); go_simp; first | done | with_reducible rfl)
                      try go_simp
                      refine wpAnyH_take (i := 9) (oi := _) (v := .agg #[.int .i64 a1, .int .i64 a2, .int .i64 a3]) rfl (by kernel_rfl) (by kernel_rfl) (by kernel_rfl) (fun _ _ _ h => h) (Or.inl ⟨by kernel_rfl, ?_⟩) (by assumption) ?_
                      · (intro w hSw; (try dsimp only at hSw); go_simp; obtain ⟨k1, k2, k3, k4⟩ := hSw; have q0 := k1.c0; have q1 := k1.c1; have q2 := k1.c2; clear k1 k2 k3 k4; go_simp; first | done | with_reducible rfl)
                      try go_simp
                      refine wpAnyH_take (i := 10) (oi := _) (v := ?_) rfl (by kernel_rfl) (by kernel_rfl) (by kernel_rfl) (fun _ _ _ h => h) (Or.inl ⟨by kernel_rfl, ?_⟩) (by assumption) ?_
                      rotate_left 1
                      · (intro w hSw; (try dsimp only at hSw); go_simp; first | done | with_reducible rfl)
                      try go_simp
                      refine wpAnyH_take (i := 11) (oi := _) (v := .agg #[.int .i64 x, .int .i64 q, .int .i64 y]) rfl (by kernel_rfl) (by kernel_rfl) (by kernel_rfl) (fun _ _ _ h => h) (Or.inl ⟨by kernel_rfl, ?_⟩) (by assumption) ?_
                      · (intro w hSw; (try dsimp only at hSw); go_simp; obtain ⟨k1, k2, k3, k4⟩ := hSw; have q0 := k3.c2; have q1 := k3.c3; have q2 := k3.c4; clear k1 k2 k3 k4; go_simp; first | done | with_reducible rfl)
                      try go_simp
                      refine wpAnyH_take (i := 13) (oi := _) (v := .agg #[.int .i64 a1, .int .i64 a2, .int .i64 a3]) rfl (by kernel_rfl) (by kernel_rfl) (by kernel_rfl) (fun _ _ _ h => h) (Or.inl ⟨by kernel_rfl, ?_⟩) (by assumption) ?_
                      · (intro w hSw; (try dsimp only at hSw); go_simp; obtain ⟨k1, k2, k3, k4⟩ := hSw; have q0 := k1.c0; have q1 := k1.c1; have q2 := k1.c2; clear k1 k2 k3 k4; go_simp; first | done | with_reducible rfl)
                      try go_simp
                      refine wpAnyH_take (i := 14) (oi := _) (v := ?_) rfl (by kernel_rfl) (by kernel_rfl) (by kernel_rfl) (fun _ _ _ h => h) (Or.inl ⟨by kernel_rfl, ?_⟩) (by assumption) ?_
                      rotate_left 1
                      · (intro w hSw; (try dsimp only at hSw); go_simp; first | done | with_reducible rfl)
                      try go_simp
                      refine wpAnyH_take (i := 15) (oi := _) (v := .agg #[.int .i64 x, .int .i64 q, .int .i64 y]) rfl (by kernel_rfl) (by kernel_rfl) (by kernel_rfl) (fun _ _ _ h => h) (Or.inl ⟨by kernel_rfl, ?_⟩) (by assumption) ?_
                      · (intro w hSw; (try dsimp only at hSw); go_simp; obtain ⟨k1, k2, k3, k4⟩ := hSw; have q0 := k3.c2; have q1 := k3.c3; have q2 := k3.c4; clear k1 k2 k3 k4; go_simp; first | done | with_reducible rfl)
                      try go_simp
                      refine wpAnyH_ready (rs := [12]) (by kernel_rfl) (by simp) ?_
                      refine AllReadyH.cons (o := _) rfl (fun K hK => ?_) ?_
                      · clear hHeld
                        go_simp
                        refine (L1.out _).mono ?_
                        rintro e w' ⟨rfl, ga⟩
                        first | (refine hK.out _ _ ?_ (fun hHeld => ?_)) | (go_wp2_with fail; refine hK.out _ _ ?_ (fun hHeld => ?_))
                        · (try dsimp only); (first | exact HS0.out _ (grown_dr (World.grownBy.refl _ _)) | exact HS0.out _ ((grown_dr (World.grownBy.refl _ _)).trans ga) | exact HS0.out _ (((grown_dr (World.grownBy.refl _ _)).trans ga).trans gb))
                        clear hK K
                        refine wpAnyH_ready (rs := [16]) (by kernel_rfl) (by simp) ?_
                        refine AllReadyH.cons (o := _) rfl (fun K hK => ?_) ?_
                        · clear hHeld
                          go_simp
                          refine (L2.out _).mono ?_
                          rintro e w6 ⟨rfl, gb⟩
                          first | (refine hK.out _ _ ?_ (fun hHeld => ?_)) | (go_wp2_with fail; refine hK.out _ _ ?_ (fun hHeld => ?_))
                          · (try dsimp only); (first | exact HS0.out _ (grown_dr (World.grownBy.refl _ _)) | exact HS0.out _ ((grown_dr (World.grownBy.refl _ _)).trans ga) | exact HS0.out _ (((grown_dr (World.grownBy.refl _ _)).trans ga).trans gb))
                          clear hK K
                          refine wpAnyH_take (i := 17) (oi := _) (v := ?_) rfl (by kernel_rfl) (by kernel_rfl) (by kernel_rfl) (fun _ _ _ h => h) (Or.inl ⟨by kernel_rfl, ?_⟩) (by assumption) ?_
                          rotate_left 1
                          · (intro w hSw; (try dsimp only at hSw); go_simp; first | done | with_reducible rfl)
                          try go_simp
                          refine wpAnyH_take (i := 18) (oi := _) (v := ?_) rfl (by kernel_rfl) (by kernel_rfl) (by kernel_rfl) (fun _ _ _ h => h) (Or.inl ⟨by rfl, ?_⟩) (by assumption) ?_
                          rotate_left 1
                          · (intro w hSw; (try dsimp only at hSw); go_simp; first | done | with_reducible rfl)
                          try go_simp
                          refine wpAnyH_done (by kernel_rfl) ?_ _
                          refine NoPanic.normal ?_
                          go_simp
                          have gd := ((grown_dr (World.grownBy.refl w5 _)).trans ga).trans gb
                          have hP9 := Lib.hid (hP5.out.kept gd)
                          have hR9 := Lib.hid (hR5.out.kept gd)
                          have G9 := G5.trans gd
                          have D9 := Lib.hid ((gd.block _ (lt_of_heap D5.out) (by simp)).trans D5.out)
                          clear hHeld ga gb gd
                          go_wp2_with fail
                          exact ⟨⟨1 + 1, st', by go_num, by omega, hP9.out, hR9.out, F', G9, D9.out⟩, by simp [intOf]⟩
                        exact AllReadyH.nil
                      exact AllReadyH.nil
                    · have K1 := Lib.hid (fun w h => phear B p st x q y o w h hF)
                      have K2 := Lib.hid (fun w h => qhear B r st x q y o w h hF)
                      have F' := hear_fine st x q y o hF
                      generalize hearO st x q y o = E at K1 K2 F'
                      obtain ⟨er, st'⟩ := E
                      dsimp only at K1 K2 F'
                      have ga := World.grownBy_alloc wr (.cells #[.bool true, .int .i64 o, .int .i64 x, .int .i64 q, .int .i64 y] 41) none
                      have hP0 := Lib.hid (hP.kept ga)
                      have hR0 := Lib.hid (hR.kept ga)
                      have GG := gz.trans ga
                      have D2 := Lib.hid ((ga.block _ (lt_of_heap D.out) (by simp)).trans D.out)
                      have H5 := S5.new wr true o x q y
                      clear hP hR gz ga
                      have HS0 := Lib.hid (H5.kept (grown_dr (World.grownBy.refl _ _)))
                      have hP0 := Lib.hid (hP0.out.kept (grown_dr (World.grownBy.refl _ _)))
                      have hR0 := Lib.hid (hR0.out.kept (grown_dr (World.grownBy.refl _ _)))
                      have GG := grown_dr GG
                      have D2 := Lib.hid (((grown_dr (World.grownBy.refl _ none)).block _ (lt_of_heap D2.out) (by simp)).trans D2.out)
                      clear H5
                      go_upto_region 15 with fail
                      refine wp_region_noPanic ?_
                      refine wp_region_held_drew (S := (fun w' => S5 w' wr.heap.size true o x q y)) (by kernel_rfl) ?_ (fun hHeld => ?_)
                      · (try dsimp only); (first | exact HS0.out | exact S5.tick tk HS0.out | exact S5.tick tk2 (S5.tick tk HS0.out))
                      refine wpAnyH_take (i := 0) (oi := _) (v := ?_) rfl (by kernel_rfl) (by kernel_rfl) (by kernel_rfl) (fun _ _ _ h => h) (Or.inl ⟨by rfl, ?_⟩) (by assumption) ?_
                      rotate_left 1
                      · (intro w hSw; (try dsimp only at hSw); go_simp; first | done | with_reducible rfl)
                      try go_simp
                      refine wpAnyH_take (i := 1) (oi := _) (v := ?_) rfl (by kernel_rfl) (by kernel_rfl) (by kernel_rfl) (fun _ _ _ h => h) (Or.inl ⟨by rfl, ?_⟩) (by assumption) ?_
                      rotate_left 1
                      · (intro w hSw; (try dsimp only at hSw); go_simp; first | done | with_reducible rfl)
                      try go_simp
                      refine wpAnyH_take (i := 2) (oi := _) (v := .agg #[.int .i64 x, .int .i64 q, .int .i64 y]) rfl (by kernel_rfl) (by kernel_rfl) (by kernel_rfl) (fun _ _ _ h => h) (Or.inl ⟨by kernel_rfl, ?_⟩) (by assumption) ?_
                      · (intro w hSw; (try dsimp only at hSw); go_simp; have q0 := S5.c2 hSw; have q1 := S5.c3 hSw; have q2 := S5.c4 hSw; clear hSw; go_simp; first | done | with_reducible rfl)
                      try go_simp
                      refine wpAnyH_take (i := 3) (oi := _) (v := ?_) rfl (by kernel_rfl) (by kernel_rfl) (by kernel_rfl) (fun _ _ _ h => h) (Or.inl ⟨by rfl, ?_⟩) (by assumption) ?_
                      rotate_left 1
                      · (intro w hSw; (try dsimp only at hSw); go_simp; first | done | with_reducible rfl)
                      try go_simp
                      refine wpAnyH_take (i := 4) (oi := _) (v := .int .i64 o) rfl (by kernel_rfl) (by kernel_rfl) (by kernel_rfl) (fun _ _ _ h => h) (Or.inl ⟨by kernel_rfl, ?_⟩) (by assumption) ?_
                      · (intro w hSw; (try dsimp only at hSw); go_simp; have q0 := S5.c1 hSw; clear hSw; go_simp; first | done | with_reducible rfl)
                      try go_simp
                      refine wpAnyH_take (i := 6) (oi := _) (v := ?_) rfl (by kernel_rfl) (by kernel_rfl) (by kernel_rfl) (fun _ _ _ h => h) (Or.inl ⟨by rfl, ?_⟩) (by assumption) ?_
                      rotate_left 1
                      · (intro w hSw; (try dsimp only at hSw); go_simp; first | done | with_reducible rfl)
                      try go_simp
                      refine wpAnyH_take (i := 7) (oi := _) (v := ?_) rfl (by kernel_rfl) (by kernel_rfl) (by kernel_rfl) (fun _ _ _ h => h) (Or.inl ⟨by rfl, ?_⟩) (by assumption) ?_
                      rotate_left 1
                      · (intro w hSw; (try dsimp only at hSw); go_simp; first | done | with_reducible rfl)
                      try go_simp
                      refine wpAnyH_take (i := 8) (oi := _) (v := .agg #[.int .i64 x, .int .i64 q, .int .i64 y]) rfl (by kernel_rfl) (by kernel_rfl) (by kernel_rfl) (fun _ _ _ h => h) (Or.inl ⟨by kernel_rfl, ?_⟩) (by assumption) ?_
                      · (intro w hSw; (try dsimp only at hSw); go_simp; have q0 := S5.c2 hSw; have q1 := S5.c3 hSw; have q2 := S5.c4 hSw; clear hSw; go_simp; first | done | with_reducible rfl)
                      try go_simp
                      refine wpAnyH_take (i := 9) (oi := _) (v := ?_) rfl (by kernel_rfl) (by kernel_rfl) (by kernel_rfl) (fun _ _ _ h => h) (Or.inl ⟨by rfl, ?_⟩) (by assumption) ?_
                      rotate_left 1
                      · (intro w hSw; (try dsimp only at hSw); go_simp; first | done | with_reducible rfl)
                      try go_simp
                      refine wpAnyH_take (i := 10) (oi := _) (v := .int .i64 o) rfl (by kernel_rfl) (by kernel_rfl) (by kernel_rfl) (fun _ _ _ h => h) (Or.inl ⟨by kernel_rfl, ?_⟩) (by assumption) ?_
                      · (intro w hSw; (try dsimp only at hSw); go_simp; have q0 := S5.c1 hSw; clear hSw; go_simp; first | done | with_reducible rfl)
                      try go_simp
                      refine wpAnyH_ready (rs := [5]) (by kernel_rfl) (by simp) ?_
                      refine AllReadyH.cons (o := _) rfl (fun K hK => ?_) ?_
                      · clear hHeld
                        go_simp
                        refine (K1.out _ hP0.out).mono ?_
                        rintro e w' ⟨rfl, hP1, tk, hRk⟩
                        have hR1 := Lib.hid (hRk r st hR0.out)
                        have hP1 := Lib.hid hP1
                        clear hRk
                        first | (refine hK.out _ _ ?_ (fun hHeld => ?_)) | (go_wp2_with fail; refine hK.out _ _ ?_ (fun hHeld => ?_))
                        · (try dsimp only); (first | exact HS0.out | exact S5.tick tk HS0.out | exact S5.tick tk2 (S5.tick tk HS0.out))
                        clear hK K
                        refine wpAnyH_ready (rs := [11]) (by kernel_rfl) (by simp) ?_
                        refine AllReadyH.cons (o := _) rfl (fun K hK => ?_) ?_
                        · clear hHeld
                          go_simp
                          refine (K2.out _ hR1.out).mono ?_
                          rintro e w2 ⟨rfl, hR2, tk2, hPk⟩
                          have hP2 := Lib.hid (hPk p _ hP1.out)
                          have hR2 := Lib.hid hR2
                          clear hPk
                          first | (refine hK.out _ _ ?_ (fun hHeld => ?_)) | (go_wp2_with fail; refine hK.out _ _ ?_ (fun hHeld => ?_))
                          · (try dsimp only); (first | exact HS0.out | exact S5.tick tk HS0.out | exact S5.tick tk2 (S5.tick tk HS0.out))
                          clear hK K
                          refine wpAnyH_take (i := 12) (oi := _) (v := ?_) rfl (by kernel_rfl) (by kernel_rfl) (by kernel_rfl) (fun _ _ _ h => h) (Or.inl ⟨by rfl, ?_⟩) (by assumption) ?_
                          rotate_left 1
                          · (intro w hSw; (try dsimp only at hSw); go_simp; first | done | with_reducible rfl)
                          try go_simp
                          refine wpAnyH_done (by kernel_rfl) ?_ _
                          refine NoPanic.normal ?_
                          go_simp
                          have G3 := tk2.base wb (by have := HB.out; omega) (tk.base wb (by have := HB.out; omega) GG)
                          have D3 := tk2.keep _ _ 41 (by decide) (by decide) (tk.keep _ _ 41 (by decide) (by decide) D2.out)
                          have D3 := Lib.hid D3
                          clear hHeld tk tk2
                          go_wp2_with fail
                          exact ⟨⟨1 + 1, st', by go_num, by omega, hP2.out, hR2.out, F', G3, D3.out⟩, by simp [intOf]⟩
                        exact AllReadyH.nil
                      exact AllReadyH.nil
                · go_wp2_with fail
                  exact ⟨⟨k + 1, st, by go_num, by omega, by omega, hP, hR, hF, gz⟩, by simp [intOf]; omega⟩
            exact AllReadyH.nil
          exact AllReadyH.nil
        · have hge : n ≤ k ∨ 30 ≤ k := by omega
          clear hlt
          by_cases hkn : k < n
          · have hk3 : k = 30 := by omega
            subst hk3
            go_wp2_with fail
            exact ⟨⟨j + 1, by omega, by go_num, gr⟩, by simp [intOf]; omega⟩
          · go_wp2_with fail
            exact ⟨⟨j + 1, by omega, by go_num, gr⟩, by simp [intOf]; omega⟩
    · go_wp2_with fail
      go_ret
      exact ⟨rfl, g2.trans gr⟩
end Go.Proofs.Ytgfifpbmjkjnpaa
