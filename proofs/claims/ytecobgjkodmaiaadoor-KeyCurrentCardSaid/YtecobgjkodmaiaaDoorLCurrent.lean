/-
  The law KeyCurrent.
-/
import Derived.Test.YtecobgjkodmaiaaDoorLMath
namespace Go.Proofs.YtecobgjkodmaiaaDoor
open Go.RowKit
attribute [local go_sem] get_mk extract_mk
set_option maxRecDepth 100000 in
set_option maxHeartbeats 4000000 in
theorem keycurrent (sc q0 q1 q2 r0 r1 r2 : Int) (A : Option Addr) (n c : Nat) (il : List Int) (text : Str) (day : Int) (h0 : 0 ≤ sc ∧ sc < 256) (i0 : i64 q0) (i1 : i64 q1) (i2 : i64 q2) (i3 : i64 r0) (i4 : i64 r1) (i5 : i64 r2) (hd : 0 ≤ day ∧ day < 65536) (w : World) (hb : Base w) (hi : Ints w A n c il) :
    Calls Tryd.prog 8 #[.agg #[.int .u8 sc, .slice A n c, .int .i64 q0, .int .i64 q1, .int .i64 q2, .int .i64 r0, .int .i64 r1, .int .i64 r2], .string ⟨text.toArray⟩, .int .u16 day] w fun e w' => e = .returned (.bool true) ∧ w.grownBy w' none := by
  have HBs := Lib.hid (fun W (g : w.grownBy W none) => hb.none_ g)
  have HIs := Lib.hid (fun W (g : w.grownBy W none) => hi.kept g)
  clear hb hi
  obtain ⟨w1, e1, HC, gw⟩ := row_of w 26 #[.int .u8 sc, .slice A n c, .int .i64 q0, .int .i64 q1, .int .i64 q2, .int .i64 r0, .int .i64 r1, .int .i64 r2]
  have E1 := Lib.hid e1
  clear e1
  go_enter Tryd.func8, Tryd.ntmps8
  go_upto_region 1 with fail
  rw [← E1.out]
  clear E1
  generalize w.heap.size = C at *
  go_wp2_with fail
  refine (sane_k _ (HBs.out _ gw)).mono ?_
  rintro e w2 ⟨rfl, g⟩
  replace gw := gw.trans g
  replace HC := HC.kept g
  clear g
  have x0 : w2.cell? ⟨C, 0, none⟩ = some (.int .u8 sc) := HC.c 0 rfl
  have x1 : w2.cell? ⟨C, 1, none⟩ = some (.slice A n c) := HC.c 1 rfl
  have x2 : w2.cell? ⟨C, 2, none⟩ = some (.int .i64 q0) := HC.c 2 rfl
  have x3 : w2.cell? ⟨C, 3, none⟩ = some (.int .i64 q1) := HC.c 3 rfl
  have x4 : w2.cell? ⟨C, 4, none⟩ = some (.int .i64 q2) := HC.c 4 rfl
  have x5 : w2.cell? ⟨C, 5, none⟩ = some (.int .i64 r0) := HC.c 5 rfl
  have x6 : w2.cell? ⟨C, 6, none⟩ = some (.int .i64 r1) := HC.c 6 rfl
  have x7 : w2.cell? ⟨C, 7, none⟩ = some (.int .i64 r2) := HC.c 7 rfl
  clear HC
  go_wp2_with fail
  refine (rings_k sc q0 q1 q2 r0 r1 r2 A n c il h0 i0 i1 i2 i3 i4 i5 _ (HIs.out _ gw)).mono ?_
  rintro e w3 ⟨s, A1, n1, c1, l, s2, A2, n2, c2, l2, s3, A3, n3, c3, l3, rfl, hk1, HM, hl1, hl3, hss, hk2, hl24, hs2, hk3, hl45, hs3, g⟩
  replace gw := gw.trans g
  clear g x0 x1 x2 x3 x4 x5 x6 x7 h0 i0 i1 i2 i3 i4 i5
  have hix : ∀ W, (Instr.index 35 (Value.agg #[.int .i64 s, .slice A1 n1 c1, .int .i64 s2, .slice A2 n2 c2, .int .i64 s3, .slice A3 n3 c3]) (.int .i64 0)).run Tryd.prog W = .ok (.agg #[.int .i64 s, .slice A1 n1 c1]) W := fun _ => by kernel_rfl
  go_upto_region 3 with fail
  obtain ⟨w4, e4, HP, g⟩ := row_of w3 34 #[.int .i64 s, .slice A1 n1 c1]
  rw [← e4]
  replace gw := gw.trans g
  replace hk1 := hk1.kept g
  clear e4 g hk2 hk3 hl24 hs2 hl45 hs3 hix
  have hs : i64 s := ⟨by omega, by omega⟩
  have HK := Lib.hid (fun W (g : w4.grownBy W none) => hk1.kept g)
  have HB4 := Lib.hid (fun W (g : w4.grownBy W none) => HBs.out _ (gw.trans g))
  have hn1 := hk1.len
  have hcc := hk1.cap
  have hnc := hk1.le
  clear hk1 HBs HIs
  generalize w3.heap.size = P at *
  have p0 : w4.cell? ⟨P, 0, none⟩ = some (.int .i64 s) := HP.c 0 rfl
  have p1 : w4.cell? ⟨P, 1, none⟩ = some (.slice A1 n1 c1) := HP.c 1 rfl
  clear HP
  go_upto_region 3 with fail
  go_cut [1] (fun v wx => ∃ t : Str, v = .string ⟨t.toArray⟩ ∧ t.length ≤ 40 ∧ w4 = wx)
  case first =>
    go_wp2_with fail
    go_meet
    exact ⟨_, rfl, by rw [List.length_take]; omega, rfl⟩
  obtain ⟨t, rfl, ht, rfl⟩ := hcut
  go_upto_region 4 with fail
  go_cut [9] (fun v wx => ∃ at_ : Int, v = .int .i64 at_ ∧ 0 ≤ at_ ∧ at_ < 400 ∧ w4 = wx)
  case first =>
    have m400 : day.tmod 400 = day % 400 := Int.tmod_eq_emod_of_nonneg hd.1
    have hdw : IntKind.i64.wrap day = day := by rw [IntKind.wrap_i64]; omega
    obtain ⟨d1, d2⟩ := hd
    go_wp2_with fail
    go_meet
    exact ⟨_, rfl, by omega, by omega, rfl⟩
  obtain ⟨at_, rfl, a0, a1, rfl⟩ := hcut
  have hat : i64 at_ := ⟨by omega, by omega⟩
  have HMH := Lib.hid HM
  have HNL := Lib.hid hn1
  have CK := Lib.hid (fun W (h : Keys W A1 n1 c1 l) => current_k s A1 n1 c1 l at_ hat W h)
  have ANY := Lib.hid (cur_any (l := l) (day := at_))
  have EACH := Lib.hid (fun (j : Nat) (x : K) (hx : l[j]? = some x) => cur_each (day := at_) HM hx)
  generalize curI l at_ = ID at *
  generalize curB l at_ = TH at *
  clear HM hn1
  go_wp2_with fail
  refine (CK.out _ (HK.out _ (grown_refl _))).mono ?_
  rintro e w5 ⟨rfl, g⟩
  have g4 := g
  replace gw := gw.trans g
  replace p0 := gcell g p0
  replace p1 := gcell g p1
  clear g CK
  go_wp2_with fail
  go_loopw [12, 39] (fun fv iv wr => ∃ k : Nat, k ≤ n1 ∧ iv = .int .i64 (k : Int) ∧ fv = .bool ((l.take k).any (curP at_)) ∧ w5.grownBy wr none) (fun _ iv _ => n1 - (intOf iv).toNat)
  case atStart => exact ⟨0, by omega, rfl, rfl, grown_refl _⟩
  case round =>
    obtain ⟨k, hk, rfl, rfl, gr⟩ := hrel
    have o0 := gcell gr p0
    have o1 := gcell gr p1
    have g4r := g4.trans gr
    by_cases hlt : k < n1
    · obtain ⟨ad, x, hx, rfl, hbl, hok, x0, x1, x2, x3⟩ := (HK.out wr g4r).at k hlt
      have SG := sign_made (s := s) HMH.out hx t
      have VC := valid_cur (s := s) HMH.out hx t at_
      obtain ⟨E1, E2⟩ := EACH.out k x hx
      have AN := Lib.hid (any_next (day := at_) hx)
      have SK := Lib.hid (fun (W : World) (hb : Base W) (h : Keys W (some ad) n1 c1 l) => sign_k s (some ad) n1 c1 l x.id t hs hok.1 (by omega) W hb h)
      rw [SG.1, SG.2] at SK
      have VK := Lib.hid (fun (W : World) (hb : Base W) (h : Keys W (some ad) n1 c1 l) => valid_k s (some ad) n1 c1 l x.id t (mark x.sec (sgn s x.id t)) at_ at_ hs hok.1 hat hat (by omega) W hb h)
      generalize mark x.sec (sgn s x.id t) = M at *
      generalize validV s l x.id t M at_ at_ = V at *
      generalize curP at_ x = b at *
      generalize (l.take k).any (curP at_) = f at *
      have hi1 := hok.1
      clear SG hx hok
      obtain ⟨xi, xs, xf, xt⟩ := x
      simp only at x0 x1 x2 x3 E1 E2 SK VK hi1
      go_upto_region 10 with fail
      obtain ⟨w6, e6, HX, g⟩ := row_of wr 28 #[.int .i64 xi, .string ⟨xs.toArray⟩, .int .i64 xf, .int .i64 xt]
      rw [← e6]
      have g6 := gr.trans g
      have g64 := g4r.trans g
      replace o0 := gcell g o0
      replace o1 := gcell g o1
      clear e6 x0 x1 x2 x3 g hbl
      generalize wr.heap.size = X at *
      have z0 : w6.cell? ⟨X, 0, none⟩ = some (.int .i64 xi) := HX.c 0 rfl
      clear HX
      go_wp2_with fail
      refine (SK.out _ (HB4.out _ g64) (HK.out _ g64)).mono ?_
      rintro e w7 ⟨rfl, g⟩
      replace g6 := g6.trans g
      replace g64 := g64.trans g
      replace o0 := gcell g o0
      replace o1 := gcell g o1
      replace z0 := gcell g z0
      clear g SK
      go_wp2_with fail
      refine (VK.out _ (HB4.out _ g64) (HK.out _ g64)).mono ?_
      rintro e w8 ⟨rfl, g⟩
      replace g6 := g6.trans g
      replace z0 := gcell g z0
      clear g VK o0 o1 g64 g4r
      have VCH := Lib.hid VC
      clear VC
      go_upto_region 12 with fail
      rw [VCH.out]
      clear VCH
      obtain ⟨v1, v2⟩ := hi1
      have HF : Hid ((l.take (k + 1)).any (curP at_) = (f || b)) := AN
      by_cases hid : xi = ID
      · have hb1 : b = true := E1 hid
        subst hb1 hid
        clear E1 E2 AN
        cases f <;> (go_wp2_with fail; go_roundw; (case rel => exact ⟨k + 1, by omega, by go_num, by rw [HF.out]; rfl, g6⟩); (case measure => simp [intOf]; omega))
      · have hb2 : (xi == ID) = false := by simpa using hid
        by_cases hgt : ID < xi
        · have hb1 : b = false := E2 hgt
          have hb3 : decide (xi > ID) = true := by simpa using hgt
          subst hb1
          clear E1 E2 AN hid
          cases f <;> (go_wp2_with fail; go_roundw; (case rel => exact ⟨k + 1, by omega, by go_num, by rw [HF.out]; rfl, g6⟩); (case measure => simp [intOf]; omega))
        · have hb3 : decide (xi > ID) = false := by simpa using hgt
          clear E1 E2 AN hid
          cases f <;> cases b <;> (go_wp2_with fail; go_roundw; (case rel => exact ⟨k + 1, by omega, by go_num, by rw [HF.out]; rfl, g6⟩); (case measure => simp [intOf]; omega))
    · obtain rfl : k = n1 := by omega
      have HA : Hid ((l.take k).any (curP at_) = TH) := Lib.hid (by rw [← ANY.out, HNL.out, List.take_length])
      rw [HA.out]
      have gf := gw.trans gr
      clear HA
      cases TH <;> (go_wp2_with fail; go_ret; exact ⟨rfl, gf⟩)
end Go.Proofs.YtecobgjkodmaiaaDoor
