/-
  The law KeyRings.
-/
import Derived.BigQuiet
import Derived.Deep.RegionHeld3
import Derived.Test.YtecobgjkodmaiaaDoorLMath
import Derived.Test.YtecobgjkodmaiaaDoorSame
import Derived.Test.YtecobgjkodmaiaaDoorStealR
import Derived.Test.YtecobgjkodmaiaaDoorRing2
namespace Go.Proofs.YtecobgjkodmaiaaDoor
open Go.RowKit
attribute [local go_sem] get_mk extract_mk
theorem i64_0 : i64 0 := by unfold i64; omega
theorem add_i64 {s : Int} (hs : i64 s) (l : List K) (x : K) : i64 (addR s l x).1 := by
  unfold addR
  split
  · split
    · exact hs
    · exact i64_0
  · exact i64_0
theorem steal_i64 {s : Int} (hs : i64 s) (l : List K) (id day : Int) : i64 (stealR s l id day).1 := by
  unfold stealR
  split
  · exact i64_0
  · split
    · exact i64_0
    · split
      · exact i64_0
      · exact hs
theorem same_self (s : Int) (A E : Option Addr) (n c m d : Nat) (l : List K) (hs : i64 s) (w : World) (hk : Keys w A n c l) (hr : Keys w E m d l) :
    Calls Tryd.prog 17 #[.agg #[.int .i64 s, .slice A n c], .agg #[.int .i64 s, .slice E m d]] w fun e w' => e = .returned (.bool true) ∧ w.grownBy w' none := by
  refine (same_r s s A E n c m d l l hs hs w hk hr).mono ?_
  rintro e w' ⟨rfl, g⟩
  exact ⟨by rw [decide_eq_true ⟨rfl, rfl⟩], g⟩
set_option maxRecDepth 100000 in
set_option maxHeartbeats 8000000 in
theorem keyrings (sc q0 q1 q2 r0 r1 r2 : Int) (A : Option Addr) (n c : Nat) (il : List Int) (id : Int) (sec : Str) (frm stl d0 d1 : Int) (h0 : 0 ≤ sc ∧ sc < 256) (i0 : i64 q0) (i1 : i64 q1) (i2 : i64 q2) (i3 : i64 r0) (i4 : i64 r1) (i5 : i64 r2) (hid : i64 id) (hfrm : i64 frm) (hstl : i64 stl) (hd0 : i64 d0) (_ : i64 d1) (w : World) (hb : Base w) (hi : Ints w A n c il) :
    Calls Tryd.prog 3 #[.agg #[.int .u8 sc, .slice A n c, .int .i64 q0, .int .i64 q1, .int .i64 q2, .int .i64 r0, .int .i64 r1, .int .i64 r2], .agg #[.int .i64 id, .string ⟨sec.toArray⟩, .int .i64 frm, .int .i64 stl], .agg #[.int .i64 d0, .int .i64 d1]] w fun e w' => e = .returned (.bool true) ∧ w.grownBy w' none := by
  have HBs := Lib.hid (fun W (g : w.grownBy W none) => hb.none_ g)
  have HIs := Lib.hid (fun W (g : w.grownBy W none) => hi.kept g)
  clear hb hi
  obtain ⟨w1, e1, HC, gw⟩ := row_of w 26 #[.int .u8 sc, .slice A n c, .int .i64 q0, .int .i64 q1, .int .i64 q2, .int .i64 r0, .int .i64 r1, .int .i64 r2]
  obtain ⟨w2, e2, HS, g2⟩ := row_of w1 28 #[.int .i64 id, .string ⟨sec.toArray⟩, .int .i64 frm, .int .i64 stl]
  obtain ⟨w3, e3, HD, g3⟩ := row_of w2 29 #[.int .i64 d0, .int .i64 d1]
  have hs1 : w1.heap.size = w.heap.size + 1 := by rw [e1]; simp
  have hs2 : w2.heap.size = w.heap.size + 2 := by rw [e2]; simp [hs1]
  have E1 := Lib.hid e1
  have E2 := Lib.hid e2
  have E3 := Lib.hid e3
  rw [hs1] at HS
  rw [hs2] at HD
  replace HC := (HC.kept g2).kept g3
  replace HS := HS.kept g3
  replace gw := (gw.trans g2).trans g3
  clear e1 e2 e3 g2 g3
  go_enter Tryd.func3, Tryd.ntmps3
  go_upto_region 1 with fail
  rw [← E1.out, ← E2.out, ← E3.out]
  clear E1 E2 E3 hs1 hs2
  generalize hCw : w.heap.size = C at *
  have HCw := Lib.hid hCw
  clear hCw
  go_wp2_with fail
  refine (sane_k _ (HBs.out _ gw)).mono ?_
  rintro e w4 ⟨rfl, g⟩
  replace gw := gw.trans g
  replace HC := HC.kept g
  replace HS := HS.kept g
  replace HD := HD.kept g
  clear g
  have s1 := HS.c 1 rfl
  have f1 := HS.fz 1
  have hsz := HS.lt
  go_upto_region 2 with fail
  go_cut [] (fun wx => ∃ (a : Str) (w5 : World), a.length ≤ 50 ∧ Row w5 (C + 1) 28 #[.int .i64 id, .string ⟨a.toArray⟩, .int .i64 frm, .int .i64 stl] ∧ w4.grownBy w5 (some (C + 1)) ∧ w5 = wx)
  case first =>
    go_wp2_with fail
    go_meet
    have RS := HS.set 1 (.string ⟨(sec.take (min (sec.length : Int) 50).toNat).toArray⟩)
    exact ⟨_, _, by rw [List.length_take]; omega, RS, grown_set (World.grownBy.refl _ _) (.inr rfl), rfl⟩
  obtain ⟨a, w5, ha, HS5, g5, rfl⟩ := hcut
  replace gw := gw.andThen g5 (by rintro j ⟨⟩; exact .inl (by rw [HCw.out]; omega))
  replace HC := HC.keptR g5 (by simp)
  replace HD := HD.keptR g5 (by simp)
  clear HS s1 f1 hsz HCw g5
  have t0 := HS5.c 0 rfl
  have t1 := HS5.c 1 rfl
  have t2 := HS5.c 2 rfl
  have t3 := HS5.c 3 rfl
  go_upto_region 4 with fail
  have hsi : i64 (wrap64 (1 + wrap64 ((IntKind.u64.wrap id).tmod 12))) := by
    generalize 1 + wrap64 ((IntKind.u64.wrap id).tmod 12) = y
    unfold i64 wrap64
    omega
  have hsd : i64 (wrap64 ((IntKind.u64.wrap frm).tmod 300)) := by
    generalize (IntKind.u64.wrap frm).tmod 300 = y
    unfold i64 wrap64
    omega
  have hse : i64 (wrap64 ((IntKind.u64.wrap stl).tmod 300)) := by
    generalize (IntKind.u64.wrap stl).tmod 300 = y
    unfold i64 wrap64
    omega
  generalize wrap64 (1 + wrap64 ((IntKind.u64.wrap id).tmod 12)) = id2 at *
  generalize wrap64 ((IntKind.u64.wrap frm).tmod 300) = frm2 at *
  generalize wrap64 ((IntKind.u64.wrap stl).tmod 300) = stl2 at *
  obtain ⟨w6, e6, HN, g⟩ := row_of w5 28 #[.int .i64 id2, .string ⟨a.toArray⟩, .int .i64 frm2, .int .i64 stl2]
  rw [← e6]
  replace gw := gw.trans g
  replace HC := HC.kept g
  replace HS5 := HS5.kept g
  replace HD := HD.kept g
  clear e6 g t0 t1 t2 t3
  generalize w5.heap.size = D at *
  have x0 : w6.cell? ⟨C, 0, none⟩ = some (.int .u8 sc) := HC.c 0 rfl
  have x1 : w6.cell? ⟨C, 1, none⟩ = some (.slice A n c) := HC.c 1 rfl
  have x2 : w6.cell? ⟨C, 2, none⟩ = some (.int .i64 q0) := HC.c 2 rfl
  have x3 : w6.cell? ⟨C, 3, none⟩ = some (.int .i64 q1) := HC.c 3 rfl
  have x4 : w6.cell? ⟨C, 4, none⟩ = some (.int .i64 q2) := HC.c 4 rfl
  have x5 : w6.cell? ⟨C, 5, none⟩ = some (.int .i64 r0) := HC.c 5 rfl
  have x6 : w6.cell? ⟨C, 6, none⟩ = some (.int .i64 r1) := HC.c 6 rfl
  have x7 : w6.cell? ⟨C, 7, none⟩ = some (.int .i64 r2) := HC.c 7 rfl
  clear HC
  go_wp2_with fail
  refine (rings_k sc q0 q1 q2 r0 r1 r2 A n c il h0 i0 i1 i2 i3 i4 i5 _ (HIs.out _ gw)).mono ?_
  rintro e w7 ⟨s, A1, n1, c1, l, s2, A2, n2, c2, l2, s3, A3, n3, c3, l3, rfl, hk1, HM, hl1, hl3, hss, hk2, hl24, hs2, hk3, hl45, hs3, g⟩
  replace gw := gw.trans g
  replace HS5 := HS5.kept g
  replace HN := HN.kept g
  replace HD := HD.kept g
  clear g x0 x1 x2 x3 x4 x5 x6 x7 h0 i0 i1 i2 i3 i4 i5 HM HIs HBs
  have hs : i64 s := ⟨by omega, by omega⟩
  have RG : Hid (∀ i : Nat, i < 3 → ∃ (z : Int) (B : Option Addr) (m d : Nat) (k : List K), i64 z ∧ m ≤ 900 ∧ (∀ W, w7.grownBy W none → Keys W B m d k) ∧ ∀ W, (Instr.index 35 (Value.agg #[.int .i64 s, .slice A1 n1 c1, .int .i64 s2, .slice A2 n2 c2, .int .i64 s3, .slice A3 n3 c3]) (.int .i64 (i : Int))).run Tryd.prog W = .ok (.agg #[.int .i64 z, .slice B m d]) W) := Lib.hid (fun i hi => by
    have n1l := hk1.len
    have n2l := hk2.len
    have n3l := hk3.len
    match i, hi with
    | 0, _ => exact ⟨s, A1, n1, c1, l, hs, by omega, fun W g => hk1.kept g, fun _ => by kernel_rfl⟩
    | 1, _ => exact ⟨s2, A2, n2, c2, l2, hs2, by omega, fun W g => hk2.kept g, fun _ => by kernel_rfl⟩
    | 2, _ => exact ⟨s3, A3, n3, c3, l3, hs3, by omega, fun W g => hk3.kept g, fun _ => by kernel_rfl⟩)
  have gw7 := Lib.hid gw
  clear hk1 hk2 hk3 hs hss hs2 hs3 gw hl1 hl3 hl24 hl45
  go_wp2_with fail
  go_loopw [57] (fun iv wr => ∃ i : Nat, i ≤ 3 ∧ iv = .int .i64 (i : Int) ∧ w7.grownBy wr none) (fun iv _ => 3 - (intOf iv).toNat)
  case atStart => exact ⟨0, by omega, rfl, grown_refl _⟩
  case round =>
    obtain ⟨i, hi, rfl, gr⟩ := hrel
    have HSr := HS5.kept gr
    have HNr := HN.kept gr
    have HDr := HD.kept gr
    by_cases hi3 : i < 3
    · obtain ⟨z, B, m, d, l, hz, hm9, HK0, hix⟩ := RG.out i hi3
      have HK := Lib.hid HK0
      clear HK0 RG
      have hd3 : decide ((i : Int) < 3) = true := decide_eq_true (by omega)
      go_upto_region 7 with fail
      obtain ⟨w8, e8, HR, g⟩ := row_of wr 34 #[.int .i64 z, .slice B m d]
      rw [← e8]
      have g8 := gr.trans g
      have HSq := HSr.kept g
      have HNq := HNr.kept g
      have HDq := HDr.kept g
      clear e8 g HSr HNr HDr hix
      generalize wr.heap.size = P at *
      have o0 := HR.c 0 rfl
      have o1 := HR.c 1 rfl
      have CK := Lib.hid (fun (W : World) (g : w8.grownBy W none) => ringck_k z B m d l hz W (HK.out _ (g8.trans g)))
      have CR := Lib.hid (fun (W : World) (g : w8.grownBy W none) => ringck_r z B m d l hz W (HK.out _ (g8.trans g)))
      generalize chkR z l = CV at *
      have gz : w8.grownBy w8.drew none := grown_dr (grown_refl _)
      refine wp_region_noPanic ?_
      refine wp_region_held_drew (S := (fun w' => w8.grownBy w' none)) (by kernel_rfl) ?_ (fun hHeld => ?_)
      · (try dsimp only); (repeat (first | assumption | exact grown_refl _ | refine grown_dr ?_ | refine grown_dn ?_ | refine grown_al ?_))
      refine wpAnyH_take (i := 0) (oi := _) (v := .agg #[.int .i64 z, .slice B m d]) rfl (by kernel_rfl) (by kernel_rfl) (by kernel_rfl) (fun _ _ _ h => h) (Or.inl ⟨by kernel_rfl, ?_⟩) (by assumption) ?_
      · (intro w hSw; (try dsimp only at hSw); go_simp; have y0 := gcell hSw o0; have y1 := gcell hSw o1; clear hSw; go_simp; first | done | with_reducible rfl)
      try go_simp
      refine wpAnyH_take (i := 2) (oi := _) (v := .agg #[.int .i64 z, .slice B m d]) rfl (by kernel_rfl) (by kernel_rfl) (by kernel_rfl) (fun _ _ _ h => h) (Or.inl ⟨by kernel_rfl, ?_⟩) (by assumption) ?_
      · (intro w hSw; (try dsimp only at hSw); go_simp; have y0 := gcell hSw o0; have y1 := gcell hSw o1; clear hSw; go_simp; first | done | with_reducible rfl)
      try go_simp
      refine wpAnyH_ready (rs := [1]) (by kernel_rfl) (by simp) ?_
      refine AllReadyH.cons (o := _) rfl (fun K hK => ?_) AllReadyH.nil
      go_simp
      refine (CK.out _ gz).mono ?_
      rintro e w2 ⟨rfl, g⟩
      replace gz := gz.trans g
      clear g
      first | (refine hK.out _ _ ?_ (fun hHeld => ?_)) | (go_wp2_with fail; refine hK.out _ _ ?_ (fun hHeld => ?_))
      · (try dsimp only); (repeat (first | assumption | exact grown_refl _ | refine grown_dr ?_ | refine grown_dn ?_ | refine grown_al ?_))
      clear hK K
      refine wpAnyH_ready (rs := [3]) (by kernel_rfl) (by simp) ?_
      refine AllReadyH.cons (o := _) rfl (fun K hK => ?_) AllReadyH.nil
      go_simp
      refine (CR.out _ gz).mono ?_
      rintro e w2 ⟨rfl, g⟩
      replace gz := gz.trans g
      clear g
      first | (refine hK.out _ _ ?_ (fun hHeld => ?_)) | (go_wp2_with fail; refine hK.out _ _ ?_ (fun hHeld => ?_))
      · (try dsimp only); (repeat (first | assumption | exact grown_refl _ | refine grown_dr ?_ | refine grown_dn ?_ | refine grown_al ?_))
      clear hK K
      refine wpAnyH_take (i := 4) (oi := _) (v := ?_) rfl (by kernel_rfl) (by kernel_rfl) (by kernel_rfl) (fun _ _ _ h => h) (Or.inl ⟨by rfl, ?_⟩) (by assumption) ?_
      rotate_left 1
      · (intro w hSw; (try dsimp only at hSw); go_simp; first | done | with_reducible rfl)
      try go_simp
      refine wpAnyH_done (by kernel_rfl) ?_ _
      refine NoPanic.normal ?_
      go_simp
      replace g8 := g8.trans gz
      replace HR := HR.kept gz
      replace HSq := HSq.kept gz
      replace HNq := HNq.kept gz
      replace HDq := HDq.kept gz
      have t0 := HSq.c 0 rfl
      have t1 := HSq.c 1 rfl
      have t2 := HSq.c 2 rfl
      have t3 := HSq.c 3 rfl
      have v0 := HNq.c 0 rfl
      have v1 := HNq.c 1 rfl
      have v2 := HNq.c 2 rfl
      have v3 := HNq.c 3 rfl
      clear HSq HNq o0 o1 gz
      go_upto_region 10 with fail
      obtain ⟨w9, e9, HQ, g⟩ := row_of w2 28 #[.int .i64 id, .string ⟨a.toArray⟩, .int .i64 frm, .int .i64 stl, .int .i64 id2, .string ⟨a.toArray⟩, .int .i64 frm2, .int .i64 stl2]
      rw [← e9]
      replace g8 := g8.trans g
      replace HR := HR.kept g
      replace HDq := HDq.kept g
      clear e9 g t0 t1 t2 t3 v0 v1 v2 v3
      generalize w2.heap.size = H at *
      go_loopw [69] (fun iv wr => ∃ j : Nat, j ≤ 2 ∧ iv = .int .i64 (j : Int) ∧ w9.grownBy wr none) (fun iv _ => 2 - (intOf iv).toNat)
      case atStart => exact ⟨0, by omega, rfl, grown_refl _⟩
      case round =>
        obtain ⟨j, hj, rfl, gq⟩ := hrel
        have HQq := HQ.kept gq
        have g9 := g8.trans gq
        by_cases hj2 : j < 2
        · have hd2 : decide ((j : Int) < 2) = true := decide_eq_true (by omega)
          go_upto_region 11 with fail
          go_cut [12] (fun v wx => ∃ (X : Nat) (x : K) (w10 : World), v = .pointer (some ⟨X, 0, none⟩) ∧ x.ok ∧ Row w10 X 28 #[.int .i64 x.id, .string ⟨x.sec.toArray⟩, .int .i64 x.frm, .int .i64 x.stl] ∧ w9.grownBy w10 none ∧ w10 = wx)
          case first =>
            match j, hj2 with
            | 0, _ =>
              have v0 := HQq.c 0 rfl
              have v1 := HQq.c 1 rfl
              have v2 := HQq.c 2 rfl
              have v3 := HQq.c 3 rfl
              go_upto_region 12 with fail
              obtain ⟨wn, en, HXn, gn⟩ := row_of wr 28 #[.int .i64 id, .string ⟨a.toArray⟩, .int .i64 frm, .int .i64 stl]
              go_meet
              rw [← en]
              exact ⟨_, ⟨id, a, frm, stl⟩, wn, rfl, ⟨hid, hfrm, hstl, by simp only; omega⟩, HXn, gq.trans gn, rfl⟩
            | 1, _ =>
              have v0 := HQq.c 4 rfl
              have v1 := HQq.c 5 rfl
              have v2 := HQq.c 6 rfl
              have v3 := HQq.c 7 rfl
              go_upto_region 12 with fail
              obtain ⟨wn, en, HXn, gn⟩ := row_of wr 28 #[.int .i64 id2, .string ⟨a.toArray⟩, .int .i64 frm2, .int .i64 stl2]
              go_meet
              rw [← en]
              exact ⟨_, ⟨id2, a, frm2, stl2⟩, wn, rfl, ⟨hsi, hsd, hse, by simp only; omega⟩, HXn, gq.trans gn, rfl⟩
          obtain ⟨X, x, w10, rfl, hx, HX, gx, rfl⟩ := hcut
          have g10 := g8.trans gx
          have HRx := HR.kept gx
          have o0 := HRx.c 0 rfl
          have o1 := HRx.c 1 rfl
          have z0 := HX.c 0 rfl
          have z1 := HX.c 1 rfl
          have z2 := HX.c 2 rfl
          have z3 := HX.c 3 rfl
          have hpa : i64 (addR z l x).1 := add_i64 hz l x
          have hpr : i64 (stealR z l x.id x.frm).1 := steal_i64 hz l x.id x.frm
          clear HX HRx HQq gq g9 HR HQ HDq
          have AK := Lib.hid (fun (W : World) (h : Keys W B m d l) => addring_k z B m d l x hz hx hm9 W h)
          have AR := Lib.hid (fun (W : World) (h : Keys W B m d l) => addring_r z B m d l x hz hx hm9 W h)
          have SK := Lib.hid (fun (W : World) (h : Keys W B m d l) => stealring_k z B m d l x.id x.frm hz hx.1 hx.2.1 hm9 W h)
          have SR := Lib.hid (fun (W : World) (h : Keys W B m d l) => stealring_r z B m d l x.id x.frm hz hx.1 hx.2.1 hm9 W h)
          generalize addR z l x = p at *
          generalize stealR z l x.id x.frm = r at *
          clear hid hfrm hstl hsi hsd hse hz hx hm9
          go_wp2_with fail
          refine (AK.out _ (HK.out _ g10)).mono ?_
          rintro e w11 ⟨Aa, na, ca, rfl, hka, g⟩
          replace gx := gx.trans g
          replace g10 := g10.trans g
          replace o0 := gcell g o0
          replace o1 := gcell g o1
          replace z0 := gcell g z0
          replace z1 := gcell g z1
          replace z2 := gcell g z2
          replace z3 := gcell g z3
          clear g AK
          go_upto_region 13 with fail
          obtain ⟨w11b, ea, HRa, g⟩ := row_of w11 34 #[.int .i64 p.1, .slice Aa na ca]
          rw [← ea]
          replace gx := gx.trans g
          replace g10 := g10.trans g
          replace o0 := gcell g o0
          replace o1 := gcell g o1
          replace z0 := gcell g z0
          replace z1 := gcell g z1
          replace z2 := gcell g z2
          replace z3 := gcell g z3
          replace hka := hka.kept g
          clear ea g
          generalize w11.heap.size = U at *
          have u0 := HRa.c 0 rfl
          have u1 := HRa.c 1 rfl
          clear HRa
          go_wp2_with fail
          refine (AR.out _ (HK.out _ g10)).mono ?_
          rintro e w12 ⟨Ab, nb, cb, rfl, hkb, g⟩
          replace gx := gx.trans g
          replace g10 := g10.trans g
          replace o0 := gcell g o0
          replace o1 := gcell g o1
          replace z0 := gcell g z0
          replace z1 := gcell g z1
          replace z2 := gcell g z2
          replace z3 := gcell g z3
          replace u0 := gcell g u0
          replace u1 := gcell g u1
          replace hka := hka.kept g
          clear g AR
          go_upto_region 14 with fail
          obtain ⟨w12b, eb, HRb, g⟩ := row_of w12 34 #[.int .i64 p.1, .slice Ab nb cb]
          rw [← eb]
          replace gx := gx.trans g
          replace g10 := g10.trans g
          replace o0 := gcell g o0
          replace o1 := gcell g o1
          replace z0 := gcell g z0
          replace z1 := gcell g z1
          replace z2 := gcell g z2
          replace z3 := gcell g z3
          replace u0 := gcell g u0
          replace u1 := gcell g u1
          replace hka := hka.kept g
          replace hkb := hkb.kept g
          clear eb g
          generalize w12.heap.size = V at *
          have v0 := HRb.c 0 rfl
          have v1 := HRb.c 1 rfl
          clear HRb
          go_wp2_with fail
          refine (SK.out _ (HK.out _ g10)).mono ?_
          rintro e w13 ⟨Ac, nc, cc, rfl, hkc, g⟩
          replace gx := gx.trans g
          replace g10 := g10.trans g
          replace o0 := gcell g o0
          replace o1 := gcell g o1
          replace z0 := gcell g z0
          replace z1 := gcell g z1
          replace z2 := gcell g z2
          replace z3 := gcell g z3
          replace u0 := gcell g u0
          replace u1 := gcell g u1
          replace v0 := gcell g v0
          replace v1 := gcell g v1
          replace hka := hka.kept g
          replace hkb := hkb.kept g
          clear g SK
          go_upto_region 15 with fail
          obtain ⟨w13b, ec, HRc, g⟩ := row_of w13 34 #[.int .i64 r.1, .slice Ac nc cc]
          rw [← ec]
          replace gx := gx.trans g
          replace g10 := g10.trans g
          replace o0 := gcell g o0
          replace o1 := gcell g o1
          replace z0 := gcell g z0
          replace z1 := gcell g z1
          replace z2 := gcell g z2
          replace z3 := gcell g z3
          replace u0 := gcell g u0
          replace u1 := gcell g u1
          replace v0 := gcell g v0
          replace v1 := gcell g v1
          replace hka := hka.kept g
          replace hkb := hkb.kept g
          replace hkc := hkc.kept g
          clear ec g
          generalize w13.heap.size = S at *
          have s0 := HRc.c 0 rfl
          have s1 := HRc.c 1 rfl
          clear HRc
          go_wp2_with fail
          refine (SR.out _ (HK.out _ g10)).mono ?_
          rintro e w14 ⟨Ad, nd, cd, rfl, hkd, g⟩
          replace gx := gx.trans g
          replace g10 := g10.trans g
          replace o0 := gcell g o0
          replace o1 := gcell g o1
          replace z0 := gcell g z0
          replace z1 := gcell g z1
          replace z2 := gcell g z2
          replace z3 := gcell g z3
          replace u0 := gcell g u0
          replace u1 := gcell g u1
          replace v0 := gcell g v0
          replace v1 := gcell g v1
          replace s0 := gcell g s0
          replace s1 := gcell g s1
          replace hka := hka.kept g
          replace hkb := hkb.kept g
          replace hkc := hkc.kept g
          clear g SR
          go_upto_region 16 with fail
          obtain ⟨w14b, ed, HRd, g⟩ := row_of w14 34 #[.int .i64 r.1, .slice Ad nd cd]
          rw [← ed]
          replace gx := gx.trans g
          replace g10 := g10.trans g
          replace o0 := gcell g o0
          replace o1 := gcell g o1
          replace z0 := gcell g z0
          replace z1 := gcell g z1
          replace z2 := gcell g z2
          replace z3 := gcell g z3
          replace u0 := gcell g u0
          replace u1 := gcell g u1
          replace v0 := gcell g v0
          replace v1 := gcell g v1
          replace s0 := gcell g s0
          replace s1 := gcell g s1
          replace hka := hka.kept g
          replace hkb := hkb.kept g
          replace hkc := hkc.kept g
          replace hkd := hkd.kept g
          clear ed g
          generalize w14.heap.size = T at *
          have t0 := HRd.c 0 rfl
          have t1 := HRd.c 1 rfl
          clear HRd
          have DA : Hid (∀ W, w14b.grownBy W none → Calls Tryd.prog 17 #[.agg #[.int .i64 p.1, .slice Aa na ca], .agg #[.int .i64 p.1, .slice Ab nb cb]] W fun e w' => e = .returned (.bool true) ∧ W.grownBy w' none) := Lib.hid (fun W g => by
            exact same_self p.1 Aa Ab na ca nb cb p.2.1 hpa W (hka.kept g) (hkb.kept g))
          have DB : Hid (∀ W, w14b.grownBy W none → Calls Tryd.prog 17 #[.agg #[.int .i64 r.1, .slice Ac nc cc], .agg #[.int .i64 r.1, .slice Ad nd cd]] W fun e w' => e = .returned (.bool true) ∧ W.grownBy w' none) := Lib.hid (fun W g => by
            exact same_self r.1 Ac Ad nc cc nd cd r.2.1 hpr W (hkc.kept g) (hkd.kept g))
          clear hka hkb hkc hkd hpa hpr HK
          generalize p.1 = p1 at *
          generalize p.2.2 = p3 at *
          generalize r.1 = r1 at *
          generalize r.2.2 = r3 at *
          go_wp2_with fail
          refine (DA.out _ (grown_refl _)).mono ?_
          rintro e w15 ⟨rfl, g⟩
          have gy := g
          replace s0 := gcell g s0
          replace s1 := gcell g s1
          replace t0 := gcell g t0
          replace t1 := gcell g t1
          clear g DA u0 u1 v0 v1
          go_wp2_with fail
          refine (DB.out _ gy).mono ?_
          rintro e w16 ⟨rfl, g⟩
          replace gx := (gx.trans gy).trans g
          clear g DB gy s0 s1 t0 t1
          go_wp2_with fail
          go_roundw
          case rel => exact ⟨j + 1, by omega, by go_num, gx⟩
          case measure => simp [intOf]; omega
        · have hd2 : decide ((j : Int) < 2) = false := decide_eq_false (by omega)
          have hr3 := Int.tmod_lt_of_pos d1 (b := 400) (by decide)
          have hr4 := Int.lt_tmod_of_pos d1 (b := 400) (by decide)
          have hw2 : IntKind.i64.wrap (d1.tmod 400) = d1.tmod 400 := by rw [IntKind.wrap_i64]; omega
          have hdm : i64 (d1.tmod 400) := by unfold i64; omega
          have o0 := (HR.kept gq).c 0 rfl
          have o1 := (HR.kept gq).c 1 rfl
          have t0 := (HDq.kept gq).c 0 rfl
          have t1 := (HDq.kept gq).c 1 rfl
          clear HQq HQ HR HDq hr3 hr4
          go_upto_region 20 with fail
          clear hw2
          generalize d1.tmod 400 = dm at *
          obtain ⟨w17, e17, HT, g⟩ := row_of wr 3 #[.int .i64 d0, .int .i64 dm]
          rw [← e17]
          replace g9 := g9.trans g
          replace o0 := gcell g o0
          replace o1 := gcell g o1
          clear e17 g t0 t1 gq
          generalize wr.heap.size = Y at *
          go_loopw [131] (fun iv wr => ∃ q : Nat, q ≤ 2 ∧ iv = .int .i64 (q : Int) ∧ w17.grownBy wr none) (fun iv _ => 2 - (intOf iv).toNat)
          case atStart => exact ⟨0, by omega, rfl, grown_refl _⟩
          case round =>
            obtain ⟨q, hq, rfl, gt⟩ := hrel
            have HTq := HT.kept gt
            by_cases hq2 : q < 2
            · have hdq : decide ((q : Int) < 2) = true := decide_eq_true (by omega)
              go_upto_region 21 with fail
              go_cut [22] (fun v wx => ∃ (dd : Int) (w18 : World), v = .int .i64 dd ∧ i64 dd ∧ w17.grownBy w18 none ∧ w18 = wx)
              case first =>
                match q, hq2 with
                | 0, _ =>
                  have v0 := HTq.c 0 rfl
                  go_upto_region 22 with fail
                  go_meet
                  exact ⟨d0, _, rfl, hd0, gt, rfl⟩
                | 1, _ =>
                  have v0 := HTq.c 1 rfl
                  go_upto_region 22 with fail
                  go_meet
                  exact ⟨dm, _, rfl, hdm, gt, rfl⟩
              obtain ⟨dd, w18, rfl, hdd, g18, rfl⟩ := hcut
              replace o0 := gcell g18 o0
              replace o1 := gcell g18 o1
              have gt7 := g9.trans g18
              clear HTq gt
              have CK' := Lib.hid (fun (W : World) (g : w18.grownBy W none) => current_k z B m d l dd hdd W (HK.out _ (gt7.trans g)))
              have CR' := Lib.hid (fun (W : World) (g : w18.grownBy W none) => current_r z B m d l dd hdd W (HK.out _ (gt7.trans g)))
              generalize curI l dd = ci at *
              generalize curB l dd = cb at *
              go_wp2_with fail
              refine (CK'.out _ (grown_refl _)).mono ?_
              rintro e w19 ⟨rfl, g⟩
              have gy := g
              replace o0 := gcell g o0
              replace o1 := gcell g o1
              clear g CK'
              go_wp2_with fail
              refine (CR'.out _ gy).mono ?_
              rintro e w20 ⟨rfl, g⟩
              replace g18 := (g18.trans gy).trans g
              clear g CR' gy o0 o1
              cases cb <;> (go_wp2_with fail; go_roundw; (case rel => exact ⟨q + 1, by omega, by go_num, g18⟩); (case measure => simp [intOf]; omega))
            · obtain rfl : q = 2 := by omega
              clear HTq
              go_wp2_with fail
              go_roundw
              case rel => exact ⟨i + 1, by omega, by go_num, g9.trans gt⟩
              case measure => simp [intOf]; omega
    · obtain rfl : i = 3 := by omega
      have gf := gw7.out.trans gr
      clear RG
      go_wp2_with fail
      go_ret
      exact ⟨rfl, gf⟩
end Go.Proofs.YtecobgjkodmaiaaDoor
