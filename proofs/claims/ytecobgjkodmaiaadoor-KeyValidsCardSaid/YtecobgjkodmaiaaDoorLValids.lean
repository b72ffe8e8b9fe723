/-
  The law KeyValids.
-/
import Derived.BigQuiet
import Derived.Deep.RegionHeld3
import Derived.Test.YtecobgjkodmaiaaDoorLMath
namespace Go.Proofs.YtecobgjkodmaiaaDoor
open Go.RowKit
attribute [local go_sem] get_mk extract_mk
set_option maxRecDepth 100000 in
set_option maxHeartbeats 8000000 in
theorem keyvalids (sc q0 q1 q2 r0 r1 r2 : Int) (A : Option Addr) (n c : Nat) (il : List Int) (tx mk : Str) (id day seen : Int) (h0 : 0 ≤ sc ∧ sc < 256) (i0 : i64 q0) (i1 : i64 q1) (i2 : i64 q2) (i3 : i64 r0) (i4 : i64 r1) (i5 : i64 r2) (hid : i64 id) (hday : i64 day) (hseen : i64 seen) (w : World) (hb : Base w) (hi : Ints w A n c il) :
    Calls Tryd.prog 4 #[.agg #[.int .u8 sc, .slice A n c, .int .i64 q0, .int .i64 q1, .int .i64 q2, .int .i64 r0, .int .i64 r1, .int .i64 r2], .agg #[.string ⟨tx.toArray⟩, .string ⟨mk.toArray⟩, .int .i64 id, .int .i64 day, .int .i64 seen]] w fun e w' => e = .returned (.bool true) ∧ w.grownBy w' none := by
  have HBs := Lib.hid (fun W (g : w.grownBy W none) => hb.none_ g)
  have HIs := Lib.hid (fun W (g : w.grownBy W none) => hi.kept g)
  clear hb hi
  obtain ⟨w1, e1, HC, gw⟩ := row_of w 26 #[.int .u8 sc, .slice A n c, .int .i64 q0, .int .i64 q1, .int .i64 q2, .int .i64 r0, .int .i64 r1, .int .i64 r2]
  obtain ⟨w2, e2, HS, g2⟩ := row_of w1 47 #[.string ⟨tx.toArray⟩, .string ⟨mk.toArray⟩, .int .i64 id, .int .i64 day, .int .i64 seen]
  have hs1 : w1.heap.size = w.heap.size + 1 := by rw [e1]; simp
  have E1 := Lib.hid e1
  have E2 := Lib.hid e2
  rw [hs1] at HS
  replace HC := HC.kept g2
  replace gw := gw.trans g2
  clear e1 e2 g2
  go_enter Tryd.func4, Tryd.ntmps4
  go_upto_region 1 with fail
  rw [← E1.out, ← E2.out]
  clear E1 E2 hs1
  generalize hCw : w.heap.size = C at *
  have HCw := Lib.hid hCw
  clear hCw
  go_wp2_with fail
  refine (sane_k _ (HBs.out _ gw)).mono ?_
  rintro e w3 ⟨rfl, g⟩
  replace gw := gw.trans g
  replace HC := HC.kept g
  replace HS := HS.kept g
  clear g
  have s0 := HS.c 0 rfl
  have s1 := HS.c 1 rfl
  have f0 := HS.fz 0
  have f1 := HS.fz 1
  have hsz := HS.lt
  go_upto_region 2 with fail
  go_cut [] (fun wx => ∃ (a b : Str) (w5 : World), a.length ≤ 60 ∧ b.length ≤ 20 ∧ Row w5 (C + 1) 47 #[.string ⟨a.toArray⟩, .string ⟨b.toArray⟩, .int .i64 id, .int .i64 day, .int .i64 seen] ∧ w3.grownBy w5 (some (C + 1)) ∧ w5 = wx)
  case first =>
    go_region
    go_wp2_with fail
    go_meet
    have RS := (HS.set 0 (.string ⟨(tx.take (min (tx.length : Int) 60).toNat).toArray⟩)).set 1 (.string ⟨(mk.take (min (mk.length : Int) 20).toNat).toArray⟩)
    refine ⟨_, _, _, ?_, ?_, RS.kept (grown_dr (grown_refl _)), grown_drR (grown_set (grown_set (World.grownBy.refl _ _) (.inr rfl)) (.inr rfl)), rfl⟩
    · rw [List.length_take]; omega
    · rw [List.length_take]; omega
  obtain ⟨a, b, w5, ha, hb, HS5, g5, rfl⟩ := hcut
  replace gw := gw.andThen g5 (by rintro j ⟨⟩; exact .inl (by rw [HCw.out]; omega))
  replace HC := HC.keptR g5 (by simp)
  clear HS s0 s1 f0 f1 hsz HCw g5
  have t0 := HS5.c 0 rfl
  have t1 := HS5.c 1 rfl
  have t2 := HS5.c 2 rfl
  have t3 := HS5.c 3 rfl
  have t4 := HS5.c 4 rfl
  have hr1 := Int.tmod_lt_of_pos day (b := 300) (by decide)
  have hr2 := Int.lt_tmod_of_pos day (b := 300) (by decide)
  have hr3 := Int.tmod_lt_of_pos seen (b := 400) (by decide)
  have hr4 := Int.lt_tmod_of_pos seen (b := 400) (by decide)
  have hw1 : IntKind.i64.wrap (day.tmod 300) = day.tmod 300 := by rw [IntKind.wrap_i64]; omega
  have hw2 : IntKind.i64.wrap (seen.tmod 400) = seen.tmod 400 := by rw [IntKind.wrap_i64]; omega
  go_upto_region 4 with fail
  have hsi : i64 (wrap64 (1 + wrap64 ((IntKind.u64.wrap id).tmod 5))) := by
    generalize 1 + wrap64 ((IntKind.u64.wrap id).tmod 5) = y
    unfold i64
    first | (unfold wrap64; omega) | (rw [← IntKind.wrap_i64]; omega) | (simp only [wrap64]; omega)
  have hsd : i64 (day.tmod 300) := by unfold i64; omega
  have hse : i64 (seen.tmod 400) := by unfold i64; omega
  clear hw1 hw2 hr1 hr2 hr3 hr4
  generalize wrap64 (1 + wrap64 ((IntKind.u64.wrap id).tmod 5)) = id2 at *
  generalize day.tmod 300 = day2 at *
  generalize seen.tmod 400 = seen2 at *
  obtain ⟨w6, e6, HN, g⟩ := row_of w5 47 #[.string ⟨a.toArray⟩, .string ⟨b.toArray⟩, .int .i64 id2, .int .i64 day2, .int .i64 seen2]
  rw [← e6]
  replace gw := gw.trans g
  replace HC := HC.kept g
  replace HS5 := HS5.kept g
  clear e6 g t0 t1 t2 t3 t4
  generalize w5.heap.size = D at *
  have x0 : w6.cell? ⟨C, 0, none⟩ = some (.int .u8 sc) := HC.c 0 rfl
  have x1 : w6.cell? ⟨C, 1, none⟩ = some (.slice A n c) := HC.c 1 rfl
  have x2 : w6.cell? ⟨C, 2, none⟩ = some (.int .i64 q0) := HC.c 2 rfl
  have x3 : w6.cell? ⟨C, 3, none⟩ = some (.int .i64 q1) := HC.c 3 rfl
  have x4 : w6.cell? ⟨C, 4, none⟩ = some (.int .i64 q2) := HC.c 4 rfl
  have x5 : w6.cell? ⟨C, 5, none⟩ = some (.int .i64 r0) := HC.c 5 rfl
  have x6 : w6.cell? ⟨C, 6, none⟩ = some (.int .i64 r1) := HC.c 6 rfl
  have x7 : w6.cell? ⟨C, 7, none⟩ = some (.int .i64 r2) := HC.c 7 rfl
  clear HC
  go_wp2_with fail
  refine (rings_k sc q0 q1 q2 r0 r1 r2 A n c il h0 i0 i1 i2 i3 i4 i5 _ (HIs.out _ gw)).mono ?_
  rintro e w7 ⟨s, A1, n1, c1, l, s2, A2, n2, c2, l2, s3, A3, n3, c3, l3, rfl, hk1, HM, hl1, hl3, hss, hk2, hl24, hs2, hk3, hl45, hs3, g⟩
  replace gw := gw.trans g
  replace HS5 := HS5.kept g
  replace HN := HN.kept g
  clear g x0 x1 x2 x3 x4 x5 x6 x7 h0 i0 i1 i2 i3 i4 i5 HM hl1 hl3 hl24 hl45 HIs
  have hs : i64 s := ⟨by omega, by omega⟩
  have HB7 := Lib.hid (fun W (g : w7.grownBy W none) => HBs.out _ (gw.trans g))
  have RG : Hid (∀ i : Nat, i < 3 → ∃ (z : Int) (B : Option Addr) (m d : Nat) (k : List K), i64 z ∧ (∀ W, w7.grownBy W none → Keys W B m d k) ∧ ∀ W, (Instr.index 35 (Value.agg #[.int .i64 s, .slice A1 n1 c1, .int .i64 s2, .slice A2 n2 c2, .int .i64 s3, .slice A3 n3 c3]) (.int .i64 (i : Int))).run Tryd.prog W = .ok (.agg #[.int .i64 z, .slice B m d]) W) := Lib.hid (fun i hi => by
    match i, hi with
    | 0, _ => exact ⟨s, A1, n1, c1, l, hs, fun W g => hk1.kept g, fun _ => by kernel_rfl⟩
    | 1, _ => exact ⟨s2, A2, n2, c2, l2, hs2, fun W g => hk2.kept g, fun _ => by kernel_rfl⟩
    | 2, _ => exact ⟨s3, A3, n3, c3, l3, hs3, fun W g => hk3.kept g, fun _ => by kernel_rfl⟩)
  have gw7 := Lib.hid gw
  clear hk1 hk2 hk3 hs hss hs2 hs3 HBs gw
  go_wp2_with fail
  go_loopw [53] (fun iv wr => ∃ i : Nat, i ≤ 3 ∧ iv = .int .i64 (i : Int) ∧ w7.grownBy wr none) (fun iv _ => 3 - (intOf iv).toNat)
  case atStart => exact ⟨0, by omega, rfl, grown_refl _⟩
  case round =>
    obtain ⟨i, hi, rfl, gr⟩ := hrel
    have HSr := HS5.kept gr
    have HNr := HN.kept gr
    by_cases hi3 : i < 3
    · obtain ⟨z, B, m, d, l, hz, HK0, hix⟩ := RG.out i hi3
      have HK := Lib.hid HK0
      clear HK0 RG
      have hd3 : decide ((i : Int) < 3) = true := decide_eq_true (by omega)
      go_upto_region 7 with fail
      obtain ⟨w8, e8, HR, g⟩ := row_of wr 34 #[.int .i64 z, .slice B m d]
      rw [← e8]
      have g8 := gr.trans g
      have HSq := HSr.kept g
      have HNq := HNr.kept g
      clear e8 g HSr HNr hix
      generalize wr.heap.size = P at *
      have t0 := HSq.c 0 rfl
      have t1 := HSq.c 1 rfl
      have t2 := HSq.c 2 rfl
      have t3 := HSq.c 3 rfl
      have t4 := HSq.c 4 rfl
      have v0 := HNq.c 0 rfl
      have v1 := HNq.c 1 rfl
      have v2 := HNq.c 2 rfl
      have v3 := HNq.c 3 rfl
      have v4 := HNq.c 4 rfl
      clear HSq HNq
      go_upto_region 8 with fail
      obtain ⟨w9, e9, HQ, g⟩ := row_of w8 47 #[.string ⟨a.toArray⟩, .string ⟨b.toArray⟩, .int .i64 id, .int .i64 day, .int .i64 seen, .string ⟨a.toArray⟩, .string ⟨b.toArray⟩, .int .i64 id2, .int .i64 day2, .int .i64 seen2]
      rw [← e9]
      replace g8 := g8.trans g
      replace HR := HR.kept g
      clear e9 g t0 t1 t2 t3 t4 v0 v1 v2 v3 v4
      generalize w8.heap.size = H at *
      go_loopw [60] (fun iv wr => ∃ j : Nat, j ≤ 2 ∧ iv = .int .i64 (j : Int) ∧ w9.grownBy wr none) (fun iv _ => 2 - (intOf iv).toNat)
      case atStart => exact ⟨0, by omega, rfl, grown_refl _⟩
      case round =>
        obtain ⟨j, hj, rfl, gq⟩ := hrel
        have HQq := HQ.kept gq
        have HRq := HR.kept gq
        have g9 := g8.trans gq
        by_cases hj2 : j < 2
        · have hd2 : decide ((j : Int) < 2) = true := decide_eq_true (by omega)
          go_upto_region 9 with fail
          go_cut [10] (fun v wx => ∃ (X : Nat) (id3 day3 seen3 : Int) (w10 : World), v = .pointer (some ⟨X, 0, none⟩) ∧ i64 id3 ∧ i64 day3 ∧ i64 seen3 ∧ Row w10 X 47 #[.string ⟨a.toArray⟩, .string ⟨b.toArray⟩, .int .i64 id3, .int .i64 day3, .int .i64 seen3] ∧ w9.grownBy w10 none ∧ w10 = wx)
          case first =>
            match j, hj2 with
            | 0, _ =>
              have v0 := HQq.c 0 rfl
              have v1 := HQq.c 1 rfl
              have v2 := HQq.c 2 rfl
              have v3 := HQq.c 3 rfl
              have v4 := HQq.c 4 rfl
              go_upto_region 10 with fail
              obtain ⟨wn, en, HXn, gn⟩ := row_of wr 47 #[.string ⟨a.toArray⟩, .string ⟨b.toArray⟩, .int .i64 id, .int .i64 day, .int .i64 seen]
              go_meet
              rw [← en]
              exact ⟨_, id, day, seen, wn, rfl, hid, hday, hseen, HXn, gq.trans gn, rfl⟩
            | 1, _ =>
              have v0 := HQq.c 5 rfl
              have v1 := HQq.c 6 rfl
              have v2 := HQq.c 7 rfl
              have v3 := HQq.c 8 rfl
              have v4 := HQq.c 9 rfl
              go_upto_region 10 with fail
              obtain ⟨wn, en, HXn, gn⟩ := row_of wr 47 #[.string ⟨a.toArray⟩, .string ⟨b.toArray⟩, .int .i64 id2, .int .i64 day2, .int .i64 seen2]
              go_meet
              rw [← en]
              exact ⟨_, id2, day2, seen2, wn, rfl, hsi, hsd, hse, HXn, gq.trans gn, rfl⟩
          obtain ⟨X, id3, day3, seen3, w10, rfl, k1, k2, k3, HX, gx, rfl⟩ := hcut
          have g10 := g8.trans gx
          have HRx := HR.kept gx
          have o0 := HRx.c 0 rfl
          have o1 := HRx.c 1 rfl
          have z0 := HX.c 0 rfl
          have z1 := HX.c 1 rfl
          have z2 := HX.c 2 rfl
          have z3 := HX.c 3 rfl
          have z4 := HX.c 4 rfl
          clear HX HRx HQq HRq gq g9 HR HQ
          have SK := Lib.hid (fun (W : World) (hb : Base W) (h : Keys W B m d l) => sign_k z B m d l id3 a hz k1 (by omega) W hb h)
          have SR := Lib.hid (fun (W : World) (h : Keys W B m d l) => sign_r z B m d l id3 a hz k1 (by omega) W h)
          have VK := Lib.hid (fun (W : World) (mm : Str) (hb : Base W) (h : Keys W B m d l) => valid_k z B m d l id3 a mm day3 seen3 hz k1 k2 k3 (by omega) W hb h)
          have VR := Lib.hid (fun (W : World) (mm : Str) (h : Keys W B m d l) => valid_r z B m d l id3 a mm day3 seen3 hz k1 k2 k3 (by omega) W h)
          generalize signS z l id3 a = SG at *
          generalize signE l id3 = SE at *
          clear k1 k2 k3 hid hday hseen hsi hsd hse hz
          go_wp2_with fail
          refine (SK.out _ (HB7.out _ g10) (HK.out _ g10)).mono ?_
          rintro e w11 ⟨rfl, g⟩
          replace gx := gx.trans g
          replace g10 := g10.trans g
          replace o0 := gcell g o0
          replace o1 := gcell g o1
          replace z0 := gcell g z0
          replace z1 := gcell g z1
          replace z2 := gcell g z2
          replace z3 := gcell g z3
          replace z4 := gcell g z4
          clear g SK
          go_wp2_with fail
          refine (SR.out _ (HK.out _ g10)).mono ?_
          rintro e w12 ⟨rfl, g⟩
          replace gx := gx.trans g
          replace g10 := g10.trans g
          replace o0 := gcell g o0
          replace o1 := gcell g o1
          replace z0 := gcell g z0
          replace z1 := gcell g z1
          replace z2 := gcell g z2
          replace z3 := gcell g z3
          replace z4 := gcell g z4
          clear g SR
          go_upto_region 15 with fail
          obtain ⟨w13, e13, HT, g⟩ := row_of w12 9 #[.string ⟨SG.toArray⟩, .string ⟨b.toArray⟩]
          rw [← e13]
          replace gx := gx.trans g
          replace g10 := g10.trans g
          replace o0 := gcell g o0
          replace o1 := gcell g o1
          replace z0 := gcell g z0
          replace z1 := gcell g z1
          replace z2 := gcell g z2
          replace z3 := gcell g z3
          replace z4 := gcell g z4
          clear e13 g
          generalize w12.heap.size = Y at *
          go_loopw [95] (fun iv wr => ∃ q : Nat, q ≤ 2 ∧ iv = .int .i64 (q : Int) ∧ w13.grownBy wr none) (fun iv _ => 2 - (intOf iv).toNat)
          case atStart => exact ⟨0, by omega, rfl, grown_refl _⟩
          case round =>
            obtain ⟨q, hq, rfl, gt⟩ := hrel
            have HTq := HT.kept gt
            by_cases hq2 : q < 2
            · have hdq : decide ((q : Int) < 2) = true := decide_eq_true (by omega)
              go_upto_region 16 with fail
              go_cut [16] (fun v wx => ∃ (mm : Str) (w14 : World), v = .string ⟨mm.toArray⟩ ∧ w13.grownBy w14 none ∧ w14 = wx)
              case first =>
                match q, hq2 with
                | 0, _ =>
                  have v0 := HTq.c 0 rfl
                  go_upto_region 17 with fail
                  go_meet
                  exact ⟨SG, _, rfl, gt, rfl⟩
                | 1, _ =>
                  have v0 := HTq.c 1 rfl
                  go_upto_region 17 with fail
                  go_meet
                  exact ⟨b, _, rfl, gt, rfl⟩
              obtain ⟨mm, w14, rfl, g14, rfl⟩ := hcut
              have a0 := gcell g14 o0
              have a1 := gcell g14 o1
              have c0 := gcell g14 z0
              have c2 := gcell g14 z2
              have c3 := gcell g14 z3
              have c4 := gcell g14 z4
              have gt7 := g10.trans g14
              clear o0 o1 z0 z1 z2 z3 z4 HTq gt
              have VK' := Lib.hid (fun (W : World) (g : w14.grownBy W none) => VK.out W mm (HB7.out _ (gt7.trans g)) (HK.out _ (gt7.trans g)))
              have VR' := Lib.hid (fun (W : World) (g : w14.grownBy W none) => VR.out W mm (HK.out _ (gt7.trans g)))
              clear VK VR
              generalize validV z l id3 a mm day3 seen3 = VV at *
              go_upto_region 17 with fail
              have gz : w14.grownBy w14.drew none := grown_dr (grown_refl _)
              refine wp_region_noPanic ?_
              refine wp_region_held_drew (S := (fun w' => w14.grownBy w' none)) (by kernel_rfl) ?_ (fun hHeld => ?_)
              · (try dsimp only); (repeat (first | assumption | exact grown_refl _ | refine grown_dr ?_ | refine grown_dn ?_ | refine grown_al ?_))
              refine wpAnyH_take (i := 0) (oi := _) (v := .agg #[.int .i64 z, .slice B m d]) rfl (by kernel_rfl) (by kernel_rfl) (by kernel_rfl) (fun _ _ _ h => h) (Or.inl ⟨by kernel_rfl, ?_⟩) (by assumption) ?_
              · (intro w hSw; (try dsimp only at hSw); go_simp; have y0 := gcell hSw a0; have y1 := gcell hSw a1; clear hSw; go_simp; first | done | with_reducible rfl)
              try go_simp
              refine wpAnyH_take (i := 1) (oi := _) (v := ?_) rfl (by kernel_rfl) (by kernel_rfl) (by kernel_rfl) (fun _ _ _ h => h) (Or.inl ⟨by rfl, ?_⟩) (by assumption) ?_
              rotate_left 1
              · (intro w hSw; (try dsimp only at hSw); go_simp; first | done | with_reducible rfl)
              try go_simp
              refine wpAnyH_take (i := 2) (oi := _) (v := .int .i64 id3) rfl (by kernel_rfl) (by kernel_rfl) (by kernel_rfl) (fun _ _ _ h => h) (Or.inl ⟨by kernel_rfl, ?_⟩) (by assumption) ?_
              · (intro w hSw; (try dsimp only at hSw); go_simp; have y0 := gcell hSw c2; clear hSw; go_simp; first | done | with_reducible rfl)
              try go_simp
              refine wpAnyH_take (i := 3) (oi := _) (v := ?_) rfl (by kernel_rfl) (by kernel_rfl) (by kernel_rfl) (fun _ _ _ h => h) (Or.inl ⟨by rfl, ?_⟩) (by assumption) ?_
              rotate_left 1
              · (intro w hSw; (try dsimp only at hSw); go_simp; first | done | with_reducible rfl)
              try go_simp
              refine wpAnyH_take (i := 4) (oi := _) (v := .string ⟨a.toArray⟩) rfl (by kernel_rfl) (by kernel_rfl) (by kernel_rfl) (fun _ _ _ h => h) (Or.inl ⟨by kernel_rfl, ?_⟩) (by assumption) ?_
              · (intro w hSw; (try dsimp only at hSw); go_simp; have y0 := gcell hSw c0; clear hSw; go_simp; first | done | with_reducible rfl)
              try go_simp
              refine wpAnyH_take (i := 5) (oi := _) (v := ?_) rfl (by kernel_rfl) (by kernel_rfl) (by kernel_rfl) (fun _ _ _ h => h) (Or.inl ⟨by rfl, ?_⟩) (by assumption) ?_
              rotate_left 1
              · (intro w hSw; (try dsimp only at hSw); go_simp; first | done | with_reducible rfl)
              try go_simp
              refine wpAnyH_take (i := 6) (oi := _) (v := ?_) rfl (by kernel_rfl) (by kernel_rfl) (by kernel_rfl) (fun _ _ _ h => h) (Or.inl ⟨by rfl, ?_⟩) (by assumption) ?_
              rotate_left 1
              · (intro w hSw; (try dsimp only at hSw); go_simp; first | done | with_reducible rfl)
              try go_simp
              refine wpAnyH_take (i := 7) (oi := _) (v := .int .i64 day3) rfl (by kernel_rfl) (by kernel_rfl) (by kernel_rfl) (fun _ _ _ h => h) (Or.inl ⟨by kernel_rfl, ?_⟩) (by assumption) ?_
              · (intro w hSw; (try dsimp only at hSw); go_simp; have y0 := gcell hSw c3; clear hSw; go_simp; first | done | with_reducible rfl)
              try go_simp
              refine wpAnyH_take (i := 8) (oi := _) (v := ?_) rfl (by kernel_rfl) (by kernel_rfl) (by kernel_rfl) (fun _ _ _ h => h) (Or.inl ⟨by rfl, ?_⟩) (by assumption) ?_
              rotate_left 1
              · (intro w hSw; (try dsimp only at hSw); go_simp; first | done | with_reducible rfl)
              try go_simp
              refine wpAnyH_take (i := 9) (oi := _) (v := .int .i64 seen3) rfl (by kernel_rfl) (by kernel_rfl) (by kernel_rfl) (fun _ _ _ h => h) (Or.inl ⟨by kernel_rfl, ?_⟩) (by assumption) ?_
              · (intro w hSw; (try dsimp only at hSw); go_simp; have y0 := gcell hSw c4; clear hSw; go_simp; first | done | with_reducible rfl)
              try go_simp
              refine wpAnyH_take (i := 11) (oi := _) (v := .agg #[.int .i64 z, .slice B m d]) rfl (by kernel_rfl) (by kernel_rfl) (by kernel_rfl) (fun _ _ _ h => h) (Or.inl ⟨by kernel_rfl, ?_⟩) (by assumption) ?_
              · (intro w hSw; (try dsimp only at hSw); go_simp; have y0 := gcell hSw a0; have y1 := gcell hSw a1; clear hSw; go_simp; first | done | with_reducible rfl)
              try go_simp
              refine wpAnyH_take (i := 12) (oi := _) (v := ?_) rfl (by kernel_rfl) (by kernel_rfl) (by kernel_rfl) (fun _ _ _ h => h) (Or.inl ⟨by rfl, ?_⟩) (by assumption) ?_
              rotate_left 1
              · (intro w hSw; (try dsimp only at hSw); go_simp; first | done | with_reducible rfl)
              try go_simp
              refine wpAnyH_take (i := 13) (oi := _) (v := .int .i64 id3) rfl (by kernel_rfl) (by kernel_rfl) (by kernel_rfl) (fun _ _ _ h => h) (Or.inl ⟨by kernel_rfl, ?_⟩) (by assumption) ?_
              · (intro w hSw; (try dsimp only at hSw); go_simp; have y0 := gcell hSw c2; clear hSw; go_simp; first | done | with_reducible rfl)
              try go_simp
              refine wpAnyH_take (i := 14) (oi := _) (v := ?_) rfl (by kernel_rfl) (by kernel_rfl) (by kernel_rfl) (fun _ _ _ h => h) (Or.inl ⟨by rfl, ?_⟩) (by assumption) ?_
              rotate_left 1
              · (intro w hSw; (try dsimp only at hSw); go_simp; first | done | with_reducible rfl)
              try go_simp
              refine wpAnyH_take (i := 15) (oi := _) (v := .string ⟨a.toArray⟩) rfl (by kernel_rfl) (by kernel_rfl) (by kernel_rfl) (fun _ _ _ h => h) (Or.inl ⟨by kernel_rfl, ?_⟩) (by assumption) ?_
              · (intro w hSw; (try dsimp only at hSw); go_simp; have y0 := gcell hSw c0; clear hSw; go_simp; first | done | with_reducible rfl)
              try go_simp
              refine wpAnyH_take (i := 16) (oi := _) (v := ?_) rfl (by kernel_rfl) (by kernel_rfl) (by kernel_rfl) (fun _ _ _ h => h) (Or.inl ⟨by rfl, ?_⟩) (by assumption) ?_
              rotate_left 1
              · (intro w hSw; (try dsimp only at hSw); go_simp; first | done | with_reducible rfl)
              try go_simp
              refine wpAnyH_take (i := 17) (oi := _) (v := ?_) rfl (by kernel_rfl) (by kernel_rfl) (by kernel_rfl) (fun _ _ _ h => h) (Or.inl ⟨by rfl, ?_⟩) (by assumption) ?_
              rotate_left 1
              · (intro w hSw; (try dsimp only at hSw); go_simp; first | done | with_reducible rfl)
              try go_simp
              refine wpAnyH_take (i := 18) (oi := _) (v := .int .i64 day3) rfl (by kernel_rfl) (by kernel_rfl) (by kernel_rfl) (fun _ _ _ h => h) (Or.inl ⟨by kernel_rfl, ?_⟩) (by assumption) ?_
              · (intro w hSw; (try dsimp only at hSw); go_simp; have y0 := gcell hSw c3; clear hSw; go_simp; first | done | with_reducible rfl)
              try go_simp
              refine wpAnyH_take (i := 19) (oi := _) (v := ?_) rfl (by kernel_rfl) (by kernel_rfl) (by kernel_rfl) (fun _ _ _ h => h) (Or.inl ⟨by rfl, ?_⟩) (by assumption) ?_
              rotate_left 1
              · (intro w hSw; (try dsimp only at hSw); go_simp; first | done | with_reducible rfl)
              try go_simp
              refine wpAnyH_take (i := 20) (oi := _) (v := .int .i64 seen3) rfl (by kernel_rfl) (by kernel_rfl) (by kernel_rfl) (fun _ _ _ h => h) (Or.inl ⟨by kernel_rfl, ?_⟩) (by assumption) ?_
              · (intro w hSw; (try dsimp only at hSw); go_simp; have y0 := gcell hSw c4; clear hSw; go_simp; first | done | with_reducible rfl)
              try go_simp
              refine wpAnyH_ready (rs := [10]) (by kernel_rfl) (by simp) ?_
              refine AllReadyH.cons (o := _) rfl (fun K hK => ?_) AllReadyH.nil
              go_simp
              refine (VK'.out _ gz).mono ?_
              rintro e w2 ⟨rfl, g⟩
              replace gz := gz.trans g
              clear g
              first | (refine hK.out _ _ ?_ (fun hHeld => ?_)) | (go_wp2_with fail; refine hK.out _ _ ?_ (fun hHeld => ?_))
              · (try dsimp only); (repeat (first | assumption | exact grown_refl _ | refine grown_dr ?_ | refine grown_dn ?_ | refine grown_al ?_))
              clear hK K
              refine wpAnyH_ready (rs := [21]) (by kernel_rfl) (by simp) ?_
              refine AllReadyH.cons (o := _) rfl (fun K hK => ?_) AllReadyH.nil
              go_simp
              refine (VR'.out _ gz).mono ?_
              rintro e w2 ⟨rfl, g⟩
              replace gz := gz.trans g
              clear g
              first | (refine hK.out _ _ ?_ (fun hHeld => ?_)) | (go_wp2_with fail; refine hK.out _ _ ?_ (fun hHeld => ?_))
              · (try dsimp only); (repeat (first | assumption | exact grown_refl _ | refine grown_dr ?_ | refine grown_dn ?_ | refine grown_al ?_))
              clear hK K
              refine wpAnyH_take (i := 22) (oi := _) (v := ?_) rfl (by kernel_rfl) (by kernel_rfl) (by kernel_rfl) (fun _ _ _ h => h) (Or.inl ⟨by rfl, ?_⟩) (by assumption) ?_
              rotate_left 1
              · (intro w hSw; (try dsimp only at hSw); go_simp; first | done | with_reducible rfl)
              try go_simp
              refine wpAnyH_done (by kernel_rfl) ?_ _
              refine NoPanic.normal ?_
              go_simp
              go_wp2_with fail
              go_roundw
              case rel => exact ⟨q + 1, by omega, by go_num, g14.trans gz⟩
              case measure => simp [intOf]; omega
            · obtain rfl : q = 2 := by omega
              clear HTq
              go_wp2_with fail
              go_roundw
              case rel => exact ⟨j + 1, by omega, by go_num, gx.trans gt⟩
              case measure => simp [intOf]; omega
        · obtain rfl : j = 2 := by omega
          clear HQq HRq
          go_wp2_with fail
          go_roundw
          case rel => exact ⟨i + 1, by omega, by go_num, g9⟩
          case measure => simp [intOf]; omega
    · obtain rfl : i = 3 := by omega
      have gf := gw7.out.trans gr
      clear RG
      go_wp2_with fail
      go_ret
      exact ⟨rfl, gf⟩
end Go.Proofs.YtecobgjkodmaiaaDoor
