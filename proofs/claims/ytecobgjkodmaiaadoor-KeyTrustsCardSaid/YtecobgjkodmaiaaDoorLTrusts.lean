/-
  The law KeyTrusts.
-/
import Derived.Test.YtecobgjkodmaiaaDoorLMath
namespace Go.Proofs.YtecobgjkodmaiaaDoor
open Go.RowKit
attribute [local go_sem] get_mk extract_mk
set_option maxRecDepth 100000 in
set_option maxHeartbeats 1000000 in
theorem keytrusts (sc q0 q1 q2 r0 r1 r2 : Int) (A : Option Addr) (n c : Nat) (il : List Int) (text : Str) (day : Int) (h0 : 0 ≤ sc ∧ sc < 256) (i0 : i64 q0) (i1 : i64 q1) (i2 : i64 q2) (i3 : i64 r0) (i4 : i64 r1) (i5 : i64 r2) (hd : 0 ≤ day ∧ day < 65536) (w : World) (hb : Base w) (hi : Ints w A n c il) :
    Calls Tryd.prog 5 #[.agg #[.int .u8 sc, .slice A n c, .int .i64 q0, .int .i64 q1, .int .i64 q2, .int .i64 r0, .int .i64 r1, .int .i64 r2], .string ⟨text.toArray⟩, .int .u16 day] w fun e w' => e = .returned (.bool true) ∧ w.grownBy w' none := by
  have HBs := Lib.hid (fun W (g : w.grownBy W none) => hb.none_ g)
  have HIs := Lib.hid (fun W (g : w.grownBy W none) => hi.kept g)
  clear hb hi
  obtain ⟨w1, e1, HC, gw⟩ := row_of w 26 #[.int .u8 sc, .slice A n c, .int .i64 q0, .int .i64 q1, .int .i64 q2, .int .i64 r0, .int .i64 r1, .int .i64 r2]
  have E1 := Lib.hid e1
  clear e1
  go_enter Tryd.func5, Tryd.ntmps5
  go_upto_region 1 with fail
  rw [← E1.out]
  clear E1
  generalize w.heap.size = C at *
  go_wp2_with fail
  refine (sane_k _ (HBs.out _ gw)).mono ?_
  rintro e w2 ⟨rfl, g⟩
  replace gw := gw.trans g
  replace HC := HC.kept g
  clear g
  have x0 : w2.cell? ⟨C, 0, none⟩ = some (.int .u8 sc) := HC.c 0 rfl
  have x1 : w2.cell? ⟨C, 1, none⟩ = some (.slice A n c) := HC.c 1 rfl
  have x2 : w2.cell? ⟨C, 2, none⟩ = some (.int .i64 q0) := HC.c 2 rfl
  have x3 : w2.cell? ⟨C, 3, none⟩ = some (.int .i64 q1) := HC.c 3 rfl
  have x4 : w2.cell? ⟨C, 4, none⟩ = some (.int .i64 q2) := HC.c 4 rfl
  have x5 : w2.cell? ⟨C, 5, none⟩ = some (.int .i64 r0) := HC.c 5 rfl
  have x6 : w2.cell? ⟨C, 6, none⟩ = some (.int .i64 r1) := HC.c 6 rfl
  have x7 : w2.cell? ⟨C, 7, none⟩ = some (.int .i64 r2) := HC.c 7 rfl
  clear HC
  go_wp2_with fail
  refine (rings_k sc q0 q1 q2 r0 r1 r2 A n c il h0 i0 i1 i2 i3 i4 i5 _ (HIs.out _ gw)).mono ?_
  rintro e w3 ⟨s, A1, n1, c1, l, s2, A2, n2, c2, l2, s3, A3, n3, c3, l3, rfl, hk1, HM, hl1, hl3, hss, hk2, hl24, hs2, hk3, hl45, hs3, g⟩
  replace gw := gw.trans g
  clear g x0 x1 x2 x3 x4 x5 x6 x7 h0 i0 i1 i2 i3 i4 i5
  have hix : ∀ W, (Instr.index 35 (Value.agg #[.int .i64 s, .slice A1 n1 c1, .int .i64 s2, .slice A2 n2 c2, .int .i64 s3, .slice A3 n3 c3]) (.int .i64 0)).run Tryd.prog W = .ok (.agg #[.int .i64 s, .slice A1 n1 c1]) W := fun _ => by kernel_rfl
  go_upto_region 3 with fail
  obtain ⟨w4, e4, HP, g⟩ := row_of w3 34 #[.int .i64 s, .slice A1 n1 c1]
  rw [← e4]
  replace gw := gw.trans g
  replace hk1 := hk1.kept g
  clear e4 g hk2 hk3 hl24 hs2 hl45 hs3 hix
  have hs : i64 s := ⟨by omega, by omega⟩
  have HK := Lib.hid (fun W (g : w4.grownBy W none) => hk1.kept g)
  have HB4 := Lib.hid (fun W (g : w4.grownBy W none) => HBs.out _ (gw.trans g))
  have hn1 := hk1.len
  have hcc := hk1.cap
  have hnc := hk1.le
  clear hk1 HBs HIs
  generalize w3.heap.size = P at *
  have p0 : w4.cell? ⟨P, 0, none⟩ = some (.int .i64 s) := HP.c 0 rfl
  have p1 : w4.cell? ⟨P, 1, none⟩ = some (.slice A1 n1 c1) := HP.c 1 rfl
  clear HP
  go_upto_region 3 with fail
  go_cut [1] (fun v wx => ∃ t : Str, v = .string ⟨t.toArray⟩ ∧ t.length ≤ 60 ∧ w4 = wx)
  case first =>
    go_wp2_with fail
    go_meet
    exact ⟨_, rfl, by rw [List.length_take]; omega, rfl⟩
  obtain ⟨t, rfl, ht, rfl⟩ := hcut
  go_upto_region 4 with fail
  go_cut [9] (fun v wx => ∃ at_ : Int, v = .int .i64 at_ ∧ 0 ≤ at_ ∧ at_ < 400 ∧ w4 = wx)
  case first =>
    have m400 : day.tmod 400 = day % 400 := Int.tmod_eq_emod_of_nonneg hd.1
    have hdw : IntKind.i64.wrap day = day := by rw [IntKind.wrap_i64]; omega
    obtain ⟨d1, d2⟩ := hd
    go_wp2_with fail
    go_meet
    exact ⟨_, rfl, by omega, by omega, rfl⟩
  obtain ⟨at_, rfl, a0, a1, rfl⟩ := hcut
  have hat : i64 at_ := ⟨by omega, by omega⟩
  have HMH := Lib.hid HM
  clear HM hn1
  go_wp2_with fail
  go_loopw [32] (fun iv wr => ∃ k : Nat, k ≤ n1 ∧ iv = .int .i64 (k : Int) ∧ w4.grownBy wr none) (fun iv _ => n1 - (intOf iv).toNat)
  case atStart => exact ⟨0, by omega, rfl, grown_refl _⟩
  case round =>
    obtain ⟨k, hk, rfl, gr⟩ := hrel
    have o0 := gcell gr p0
    have o1 := gcell gr p1
    by_cases hlt : k < n1
    · obtain ⟨ad, x, hx, rfl, hbl, hok, x0, x1, x2, x3⟩ := (HK.out wr gr).at k hlt
      have SG := sign_made (s := s) HMH.out hx t
      have VM := Lib.hid (fun seen : Int => valid_made (s := s) HMH.out hx t (mark x.sec (sgn s x.id t)) at_ seen)
      have hst := Lib.hid (HMH.out.stl x (List.mem_of_getElem? hx))
      have hfr := Lib.hid (HMH.out.frm x (List.mem_of_getElem? hx))
      have SK := Lib.hid (fun (W : World) (hb : Base W) (h : Keys W (some ad) n1 c1 l) => sign_k s (some ad) n1 c1 l x.id t hs hok.1 (by omega) W hb h)
      rw [SG.1, SG.2] at SK
      have VK := Lib.hid (fun (W : World) (hb : Base W) (h : Keys W (some ad) n1 c1 l) (seen : Int) (h2 : i64 seen) => valid_k s (some ad) n1 c1 l x.id t (mark x.sec (sgn s x.id t)) at_ seen hs hok.1 hat h2 (by omega) W hb h)
      have hs0 : 0 ≤ x.stl := by have := hst.out; have := hfr.out; omega
      have VM2 : Hid (∀ seen : Int, (at_ < x.frm → validV s l x.id t (mark x.sec (sgn s x.id t)) at_ seen = 23) ∧ (¬ at_ < x.frm → 0 < x.stl ∧ x.stl ≤ seen → validV s l x.id t (mark x.sec (sgn s x.id t)) at_ seen = 11) ∧ (¬ at_ < x.frm → ¬ (0 < x.stl ∧ x.stl ≤ seen) → validV s l x.id t (mark x.sec (sgn s x.id t)) at_ seen = 0)) := Lib.hid (fun seen => by
        rw [VM.out seen]
        unfold stolenB
        refine ⟨fun c => by rw [if_pos c], fun c ⟨d1, d2⟩ => ?_, fun c d => ?_⟩
        · rw [if_neg c, if_neg (by simp), if_pos (by simp; omega)]
        · rw [if_neg c, if_neg (by simp), if_neg (by simp; omega)])
      clear VM hs0
      generalize mark x.sec (sgn s x.id t) = M at *
      generalize validV s l x.id t M at_ = V at *
      have hi1 := hok.1
      clear SG hx hok
      obtain ⟨xi, xs, xf, xt⟩ := x
      simp only at x0 x1 x2 x3 SK VK VM2 hi1 hst hfr
      go_upto_region 8 with fail
      obtain ⟨w6, e6, HX, g⟩ := row_of wr 28 #[.int .i64 xi, .string ⟨xs.toArray⟩, .int .i64 xf, .int .i64 xt]
      rw [← e6]
      have g6 := gr.trans g
      replace o0 := gcell g o0
      replace o1 := gcell g o1
      clear e6 x0 x1 x2 x3 g hbl
      generalize wr.heap.size = X at *
      have z0 : w6.cell? ⟨X, 0, none⟩ = some (.int .i64 xi) := HX.c 0 rfl
      have z2 : w6.cell? ⟨X, 2, none⟩ = some (.int .i64 xf) := HX.c 2 rfl
      have z3 : w6.cell? ⟨X, 3, none⟩ = some (.int .i64 xt) := HX.c 3 rfl
      clear HX
      go_wp2_with fail
      refine (SK.out _ (HB4.out _ g6) (HK.out _ g6)).mono ?_
      rintro e w7 ⟨rfl, g⟩
      replace g6 := g6.trans g
      replace o0 := gcell g o0
      replace o1 := gcell g o1
      replace z0 := gcell g z0
      replace z2 := gcell g z2
      replace z3 := gcell g z3
      clear g SK
      have hst := hst.out
      have hfr := hfr.out
      have hw1 : IntKind.i64.wrap (at_ + 1) = at_ + 1 := by rw [IntKind.wrap_i64]; omega
      have hw2 : IntKind.i64.wrap (xt - 1) = xt - 1 := by rw [IntKind.wrap_i64]; omega
      obtain ⟨sm, hsm, hsi⟩ : ∃ sm : Int, max (xt - 1) 0 = sm ∧ i64 sm := ⟨_, rfl, by omega, by omega⟩
      go_upto_region 12 with fail
      obtain ⟨w9, e9, HL, g⟩ := row_of w7 3 #[.int .i64 0, .int .i64 at_, .int .i64 (at_ + 1), .int .i64 xt, .int .i64 sm]
      rw [← e9]
      replace g6 := g6.trans g
      replace o0 := gcell g o0
      replace o1 := gcell g o1
      replace z0 := gcell g z0
      replace z2 := gcell g z2
      replace z3 := gcell g z3
      clear e9 g
      generalize w7.heap.size = H at *
      have LS : Hid (∀ m : Nat, m < 5 → ∃ z : Int, i64 z ∧ w9.cell? ⟨H, m, none⟩ = some (.int .i64 z)) := Lib.hid (fun m hm => by
        match m, hm with
        | 0, _ => exact ⟨0, by unfold i64; omega, HL.c 0 rfl⟩
        | 1, _ => exact ⟨at_, hat, HL.c 1 rfl⟩
        | 2, _ => exact ⟨at_ + 1, by unfold i64; omega, HL.c 2 rfl⟩
        | 3, _ => exact ⟨xt, by unfold i64; omega, HL.c 3 rfl⟩
        | 4, _ => exact ⟨sm, hsi, HL.c 4 rfl⟩)
      clear HL hsm hsi hw1 hw2 hst hfr
      go_loopw [57] (fun iv wr => ∃ m : Nat, m ≤ 5 ∧ iv = .int .i64 (m : Int) ∧ w9.grownBy wr none) (fun iv _ => 5 - (intOf iv).toNat)
      case atStart => exact ⟨0, by omega, rfl, grown_refl _⟩
      case round =>
        obtain ⟨m, hm, rfl, gr2⟩ := hrel
        have q0 := gcell gr2 o0
        have q1 := gcell gr2 o1
        have y0 := gcell gr2 z0
        have y2 := gcell gr2 z2
        have y3 := gcell gr2 z3
        have g62 := g6.trans gr2
        by_cases hm5 : m < 5
        · obtain ⟨z, hz, zc⟩ := LS.out m hm5
          replace zc := gcell gr2 zc
          clear LS
          by_cases c3 : at_ < xf
          · by_cases c1 : xt > 0
            · by_cases c2 : z ≥ xt
              · have hv : Hid (V z = 23) := Lib.hid ((VM2.out z).1 c3)
                clear VM2
                go_wp2_with fail
                refine (VK.out _ (HB4.out _ g62) (HK.out _ g62) z hz).mono ?_
                rintro e w10 ⟨rfl, g⟩
                replace gr2 := gr2.trans g
                clear VK g g62 y0 y2 y3 q0 q1 zc
                rw [hv.out]
                clear hv
                go_wp2_with fail
                go_roundw
                case rel => exact ⟨m + 1, by omega, by go_num, gr2⟩
                case measure => simp [intOf]; omega
              · have hv : Hid (V z = 23) := Lib.hid ((VM2.out z).1 c3)
                clear VM2
                go_wp2_with fail
                refine (VK.out _ (HB4.out _ g62) (HK.out _ g62) z hz).mono ?_
                rintro e w10 ⟨rfl, g⟩
                replace gr2 := gr2.trans g
                clear VK g g62 y0 y2 y3 q0 q1 zc
                rw [hv.out]
                clear hv
                go_wp2_with fail
                go_roundw
                case rel => exact ⟨m + 1, by omega, by go_num, gr2⟩
                case measure => simp [intOf]; omega
            · have hv : Hid (V z = 23) := Lib.hid ((VM2.out z).1 c3)
              clear VM2
              go_wp2_with fail
              refine (VK.out _ (HB4.out _ g62) (HK.out _ g62) z hz).mono ?_
              rintro e w10 ⟨rfl, g⟩
              replace gr2 := gr2.trans g
              clear VK g g62 y0 y2 y3 q0 q1 zc
              rw [hv.out]
              clear hv
              go_wp2_with fail
              go_roundw
              case rel => exact ⟨m + 1, by omega, by go_num, gr2⟩
              case measure => simp [intOf]; omega
          · by_cases c1 : xt > 0
            · by_cases c2 : z ≥ xt
              · have hv : Hid (V z = 11) := Lib.hid ((VM2.out z).2.1 (by omega) (by omega))
                clear VM2
                go_wp2_with fail
                refine (VK.out _ (HB4.out _ g62) (HK.out _ g62) z hz).mono ?_
                rintro e w10 ⟨rfl, g⟩
                replace gr2 := gr2.trans g
                clear VK g g62 y0 y2 y3 q0 q1 zc
                rw [hv.out]
                clear hv
                go_wp2_with fail
                go_roundw
                case rel => exact ⟨m + 1, by omega, by go_num, gr2⟩
                case measure => simp [intOf]; omega
              · have hv : Hid (V z = 0) := Lib.hid ((VM2.out z).2.2 (by omega) (by omega))
                clear VM2
                go_wp2_with fail
                refine (VK.out _ (HB4.out _ g62) (HK.out _ g62) z hz).mono ?_
                rintro e w10 ⟨rfl, g⟩
                replace gr2 := gr2.trans g
                clear VK g g62 y0 y2 y3 q0 q1 zc
                rw [hv.out]
                clear hv
                go_wp2_with fail
                go_roundw
                case rel => exact ⟨m + 1, by omega, by go_num, gr2⟩
                case measure => simp [intOf]; omega
            · have hv : Hid (V z = 0) := Lib.hid ((VM2.out z).2.2 (by omega) (by omega))
              clear VM2
              go_wp2_with fail
              refine (VK.out _ (HB4.out _ g62) (HK.out _ g62) z hz).mono ?_
              rintro e w10 ⟨rfl, g⟩
              replace gr2 := gr2.trans g
              clear VK g g62 y0 y2 y3 q0 q1 zc
              rw [hv.out]
              clear hv
              go_wp2_with fail
              go_roundw
              case rel => exact ⟨m + 1, by omega, by go_num, gr2⟩
              case measure => simp [intOf]; omega
        · obtain rfl : m = 5 := by omega
          clear LS
          go_wp2_with fail
          go_roundw
          case rel => exact ⟨k + 1, by omega, by go_num, g62⟩
          case measure => simp [intOf]; omega
    · obtain rfl : k = n1 := by omega
      have gf := gw.trans gr
      go_wp2_with fail
      go_ret
      exact ⟨rfl, gf⟩
end Go.Proofs.YtecobgjkodmaiaaDoor
