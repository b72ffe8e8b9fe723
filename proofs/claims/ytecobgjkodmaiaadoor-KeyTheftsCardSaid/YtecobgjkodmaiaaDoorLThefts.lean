/-
  The law KeyThefts.
-/
import Derived.BigQuiet
import Derived.Deep.RegionHeld3
import Derived.Test.YtecobgjkodmaiaaDoorTheft
import Derived.Test.YtecobgjkodmaiaaDoorLRings
namespace Go.Proofs.YtecobgjkodmaiaaDoor
open Go.RowKit
attribute [local go_sem] get_mk extract_mk
theorem steal_ok {s : Int} {A : Option Addr} {n c : Nat} {l L : List K} {id day : Int} (h : stealR s l id day = (s, L, 0)) (hs : i64 s) (hid : i64 id) (hday : i64 day) (hn : n ≤ 900) (w : World) (hk : Keys w A n c l) :
    Calls Tryd.prog 15 #[.agg #[.int .i64 s, .slice A n c], .int .i64 id, .int .i64 day] w fun e w' => ∃ A' n' c', e = .returned (.tuple #[.agg #[.int .i64 s, .slice A' n' c'], .int .i64 0]) ∧ Keys w' A' n' c' L ∧ w.grownBy w' none := by
  have := stealring_k s A n c l id day hs hid hday hn w hk
  rw [h] at this
  exact this
theorem steal_no {s : Int} {A : Option Addr} {n c : Nat} {l : List K} {id day : Int} (h : stealR s l id day = (0, [], 23)) (hs : i64 s) (hid : i64 id) (hday : i64 day) (hn : n ≤ 900) (w : World) (hk : Keys w A n c l) :
    Calls Tryd.prog 15 #[.agg #[.int .i64 s, .slice A n c], .int .i64 id, .int .i64 day] w fun e w' => ∃ A' c', e = .returned (.tuple #[.agg #[.int .i64 0, .slice A' 0 c'], .int .i64 23]) ∧ w.grownBy w' none := by
  have := stealring_k s A n c l id day hs hid hday hn w hk
  rw [h] at this
  refine this.mono ?_
  rintro e w' ⟨A', n', c', rfl, hk', g⟩
  have := hk'.len
  have h0 : n' = 0 := this
  subst h0
  exact ⟨A', c', rfl, g⟩
set_option maxRecDepth 100000 in
set_option maxHeartbeats 8000000 in
theorem keythefts (sc q0 q1 q2 r0 r1 r2 : Int) (A : Option Addr) (n c : Nat) (il : List Int) (text : Str) (u0 u1 u2 : Int) (h0 : 0 ≤ sc ∧ sc < 256) (i0 : i64 q0) (i1 : i64 q1) (i2 : i64 q2) (i3 : i64 r0) (i4 : i64 r1) (i5 : i64 r2) (hu0 : 0 ≤ u0 ∧ u0 < 65536) (hu1 : 0 ≤ u1 ∧ u1 < 65536) (hu2 : 0 ≤ u2 ∧ u2 < 65536) (w : World) (hb : Base w) (hi : Ints w A n c il) :
    Calls Tryd.prog 7 #[.agg #[.int .u8 sc, .slice A n c, .int .i64 q0, .int .i64 q1, .int .i64 q2, .int .i64 r0, .int .i64 r1, .int .i64 r2], .string ⟨text.toArray⟩, .agg #[.int .u16 u0, .int .u16 u1, .int .u16 u2]] w fun e w' => e = .returned (.bool true) ∧ w.grownBy w' none := by
  have HBs := Lib.hid (fun W (g : w.grownBy W none) => hb.none_ g)
  have HIs := Lib.hid (fun W (g : w.grownBy W none) => hi.kept g)
  clear hb hi
  obtain ⟨w1, e1, HC, gw⟩ := row_of w 26 #[.int .u8 sc, .slice A n c, .int .i64 q0, .int .i64 q1, .int .i64 q2, .int .i64 r0, .int .i64 r1, .int .i64 r2]
  obtain ⟨wb, e2, HD, g2⟩ := row_of w1 59 #[.int .u16 u0, .int .u16 u1, .int .u16 u2]
  have hs1 : w1.heap.size = w.heap.size + 1 := by rw [e1]; simp
  have E1 := Lib.hid e1
  have E2 := Lib.hid e2
  rw [hs1] at HD
  replace HC := HC.kept g2
  replace gw := gw.trans g2
  clear e1 e2 g2
  go_enter Tryd.func7, Tryd.ntmps7
  go_upto_region 1 with fail
  rw [← E1.out, ← E2.out]
  clear E1 E2 hs1
  generalize w.heap.size = C at *
  go_wp2_with fail
  refine (sane_k _ (HBs.out _ gw)).mono ?_
  rintro e w2 ⟨rfl, g⟩
  replace gw := gw.trans g
  replace HC := HC.kept g
  replace HD := HD.kept g
  clear g
  have x0 : w2.cell? ⟨C, 0, none⟩ = some (.int .u8 sc) := HC.c 0 rfl
  have x1 : w2.cell? ⟨C, 1, none⟩ = some (.slice A n c) := HC.c 1 rfl
  have x2 : w2.cell? ⟨C, 2, none⟩ = some (.int .i64 q0) := HC.c 2 rfl
  have x3 : w2.cell? ⟨C, 3, none⟩ = some (.int .i64 q1) := HC.c 3 rfl
  have x4 : w2.cell? ⟨C, 4, none⟩ = some (.int .i64 q2) := HC.c 4 rfl
  have x5 : w2.cell? ⟨C, 5, none⟩ = some (.int .i64 r0) := HC.c 5 rfl
  have x6 : w2.cell? ⟨C, 6, none⟩ = some (.int .i64 r1) := HC.c 6 rfl
  have x7 : w2.cell? ⟨C, 7, none⟩ = some (.int .i64 r2) := HC.c 7 rfl
  clear HC
  go_wp2_with fail
  refine (rings_k sc q0 q1 q2 r0 r1 r2 A n c il h0 i0 i1 i2 i3 i4 i5 _ (HIs.out _ gw)).mono ?_
  rintro e w3 ⟨s, A1, n1, c1, l, s2, A2, n2, c2, l2, s3, A3, n3, c3, l3, rfl, hk1, HM, hl1, hl3, hss, hk2, hl24, hs2, hk3, hl45, hs3, g⟩
  replace gw := gw.trans g
  replace HD := HD.kept g
  clear g x0 x1 x2 x3 x4 x5 x6 x7 h0 i0 i1 i2 i3 i4 i5
  have hix : ∀ W, (Instr.index 35 (Value.agg #[.int .i64 s, .slice A1 n1 c1, .int .i64 s2, .slice A2 n2 c2, .int .i64 s3, .slice A3 n3 c3]) (.int .i64 0)).run Tryd.prog W = .ok (.agg #[.int .i64 s, .slice A1 n1 c1]) W := fun _ => by kernel_rfl
  go_upto_region 3 with fail
  clear hix
  obtain ⟨w4, e4, HP, g⟩ := row_of w3 34 #[.int .i64 s, .slice A1 n1 c1]
  rw [← e4]
  replace gw := gw.trans g
  replace hk1 := hk1.kept g
  replace HD := HD.kept g
  clear e4 g hk2 hk3 hl24 hs2 hl45 hs3
  have hs : i64 s := ⟨by omega, by omega⟩
  have HK := Lib.hid (fun W (g : w4.grownBy W none) => hk1.kept g)
  have HB4 := Lib.hid (fun W (g : w4.grownBy W none) => HBs.out _ (gw.trans g))
  have hn1 := hk1.len
  have hcc := hk1.cap
  have hnc := hk1.le
  clear hk1 HBs HIs
  generalize w3.heap.size = P at *
  have p0 : w4.cell? ⟨P, 0, none⟩ = some (.int .i64 s) := HP.c 0 rfl
  have p1 : w4.cell? ⟨P, 1, none⟩ = some (.slice A1 n1 c1) := HP.c 1 rfl
  have hPlt := HP.lt
  clear HP
  go_upto_region 3 with fail
  go_cut [1] (fun v wx => ∃ t : Str, v = .string ⟨t.toArray⟩ ∧ t.length ≤ 40 ∧ w4 = wx)
  case first =>
    go_wp2_with fail
    go_meet
    exact ⟨_, rfl, by rw [List.length_take]; omega, rfl⟩
  obtain ⟨t, rfl, ht, rfl⟩ := hcut
  have HMQ := Lib.hid HM.q
  clear HM
  obtain ⟨k0, hk0⟩ : ∃ k0 : Nat, u0 % (n1 : Int) = (k0 : Int) := ⟨(u0 % (n1 : Int)).toNat, by have := Int.emod_nonneg u0 (show (n1 : Int) ≠ 0 by omega); omega⟩
  have hk0n : k0 < n1 := by have := Int.emod_lt_of_pos u0 (show (0 : Int) < n1 by omega); omega
  obtain ⟨ad, kk, hkk, rfl, hbl, hok, y0, y1, y2, y3⟩ := (HK.out w4 (grown_refl _)).at k0 hk0n
  go_upto_region 4 with fail
  go_cut [9] (fun v wx => ∃ (Q : Nat) (w5 : World), v = .pointer (some ⟨Q, 0, none⟩) ∧ Row w5 Q 28 kk.cells ∧ w4.grownBy w5 none ∧ w5 = wx)
  case first =>
    as_aux_lemma =>
    obtain ⟨ki, ks, kf, kt⟩ := kk
    have hDlt := HD.lt
    have hbl2 : (ad.add (k0 * 4)).block < w4.heap.size := by rw [add_block]; exact hbl
    have v0 := HD.c 0 rfl
    have v1 := HD.c 1 rfl
    have v2 := HD.c 2 rfl
    have hu : IntKind.i64.wrap u0 = u0 := by rw [IntKind.wrap_i64]; omega
    have ht : u0.tmod (n1 : Int) = (k0 : Int) := by rw [Int.tmod_eq_emod_of_nonneg hu0.1]; exact hk0
    have hwk : IntKind.i64.wrap (k0 : Int) = (k0 : Int) := by rw [IntKind.wrap_i64]; omega
    simp only at y0 y1 y2 y3
    clear hkk HK HB4 HMQ hok gw HD hn1 hk0
    go_region
    go_wp2_with fail
    go_meet
    exact ⟨_, _, rfl, (Row.new w4 28 _).kept (grown_dr (grown_refl _)), grown_dr (World.grownBy_alloc _ _ none), rfl⟩
  obtain ⟨Q, w5, rfl, HQ, g45, rfl⟩ := hcut
  replace HD := HD.kept g45
  go_upto_region 5 with fail
  go_cut [10, 11] (fun x y wx => ∃ (a b : Int) (w6 : World), x = .int .i64 a ∧ y = .int .i64 b ∧ (1 ≤ a ∧ a ≤ 1000) ∧ (1 ≤ b ∧ b ≤ 1000) ∧ w5.grownBy w6 none ∧ w6 = wx)
  case first =>
    as_aux_lemma =>
    have v0 := HD.c 0 rfl
    have v1 := HD.c 1 rfl
    have v2 := HD.c 2 rfl
    have ha : IntKind.i64.wrap u1 = u1 := by rw [IntKind.wrap_i64]; omega
    have hb : IntKind.i64.wrap u2 = u2 := by rw [IntKind.wrap_i64]; omega
    have ta : u1.tmod 400 = u1 % 400 := Int.tmod_eq_emod_of_nonneg hu1.1
    have tb : u2.tmod 400 = u2 % 400 := Int.tmod_eq_emod_of_nonneg hu2.1
    clear hkk HK HB4 HMQ hok gw HD HQ y0 y1 y2 y3 hk0 hk0n hn1 p0 p1
    go_region
    go_wp2_with fail
    go_meet
    exact ⟨_, _, _, rfl, rfl, by omega, by omega, grown_dr (grown_refl _), rfl⟩
  obtain ⟨a, b, w6, rfl, rfl, ha, hb, g56, rfl⟩ := hcut
  have g46 := g45.trans g56
  replace HQ := HQ.kept g56
  replace gw := gw.trans g46
  replace p0 := gcell g46 p0
  replace p1 := gcell g46 p1
  clear HD y0 y1 y2 y3 hk0 hk0n g45 g56 hu0 hu1 hu2 hPlt
  have n0 : w6.cell? ⟨Q, 0, none⟩ = some (.int .i64 kk.id) := HQ.c 0 rfl
  have n2 : w6.cell? ⟨Q, 2, none⟩ = some (.int .i64 kk.frm) := HQ.c 2 rfl
  clear HQ
  have hki := hok.1
  have hia : i64 a := ⟨by omega, by omega⟩
  have hib : i64 b := ⟨by omega, by omega⟩
  have hn9 : n1 ≤ 900 := by omega
  have SA := steal_q (s := s) HMQ.out hss hl3 hkk ha
  by_cases c0 : a < kk.frm
  · as_aux_lemma =>
    rw [if_pos c0] at SA
    have ST := Lib.hid (fun (W : World) (h : Keys W (some ad) n1 c1 l) => steal_no SA hs hki hia hn9 W h)
    clear HMQ hkk SA hok hbl hn1
    go_wp2_with fail
    refine (ST.out _ (HK.out _ g46)).mono ?_
    rintro e w7 ⟨Ae, ce, rfl, g⟩
    replace n2 := gcell g n2
    replace gw := gw.trans g
    clear ST HK HB4 g g46 p0 p1
    go_upto_region 7 with fail
    obtain ⟨w8, e8, HO, g⟩ := row_of w7 34 #[.int .i64 0, .slice Ae 0 ce]
    rw [← e8]
    replace gw := gw.trans g
    replace n2 := gcell g n2
    clear e8 g
    generalize w7.heap.size = O at *
    have m1 := HO.c 1 rfl
    clear HO n0
    go_wp2_with fail
    go_ret
    exact ⟨rfl, gw⟩
  rw [if_neg c0] at SA
  have ST := Lib.hid (fun (W : World) (h : Keys W (some ad) n1 c1 l) => steal_ok SA hs hki hia hn9 W h)
  have hf : kk.frm ≤ a := by omega
  have TH := Lib.hid (fun (j : Nat) (x : K) (hx : l[j]? = some x) => theft_q (s := s) HMQ.out hkk hx ha hf t)
  have S2 := Lib.hid (steal_again (s := s) HMQ.out hss hl3 hkk ha hb hf)
  have S3 := Lib.hid (steal_q (s := s) HMQ.out hss hl3 hkk hb)
  have S4 : Hid (kk.frm ≤ b → stealR s (l.set k0 (sts kk b)) kk.id a = (s, l.set k0 (sts kk (min a b)), 0)) := Lib.hid (fun hfb => by
    have := steal_again (s := s) HMQ.out hss hl3 hkk hb ha hfb
    rw [if_neg c0, Int.min_comm] at this
    exact this)
  have S5 : Hid (kk.frm ≤ b → stealR s l kk.id (min a b) = (s, l.set k0 (sts kk (min a b)), 0)) := Lib.hid (fun hfb => by
    have := steal_q (s := s) HMQ.out hss hl3 hkk (a := min a b) (by omega)
    rw [if_neg (by omega)] at this
    exact this)
  have HLB := Lib.hid (show (l.set k0 (sts kk b)).length ≤ 3 by rw [List.length_set]; exact hl3)
  generalize l.set k0 (sts kk (min a b)) = lm at *
  generalize l.set k0 (sts kk b) = lb at *
  obtain ⟨mn, hmn, him⟩ : ∃ mn : Int, min a b = mn ∧ i64 mn := ⟨_, rfl, by omega, by omega⟩
  rw [hmn] at S5
  have HLEN := Lib.hid (show (l.set k0 (sts kk a)).length ≤ 3 by rw [List.length_set]; exact hl3)
  generalize l.set k0 (sts kk a) = la at *
  have HN1 := Lib.hid hn1
  clear SA HMQ hkk hok hbl hss hn1 hl1 hl3 hf
  generalize kk.id = ki at *
  generalize kk.frm = kf at *
  go_wp2_with fail
  refine (ST.out _ (HK.out _ g46)).mono ?_
  rintro e w7 ⟨Ao, no, co, rfl, hko, g⟩
  have g47 := g46.trans g
  replace gw := gw.trans g
  replace p0 := gcell g p0
  replace p1 := gcell g p1
  replace n0 := gcell g n0
  replace n2 := gcell g n2
  clear ST g g46
  go_upto_region 7 with fail
  obtain ⟨w8, e8, HO, g⟩ := row_of w7 34 #[.int .i64 s, .slice Ao no co]
  rw [← e8]
  replace g47 := g47.trans g
  replace gw := gw.trans g
  replace p0 := gcell g p0
  replace p1 := gcell g p1
  replace n0 := gcell g n0
  replace n2 := gcell g n2
  replace hko := hko.kept g
  clear e8 g
  generalize w7.heap.size = O at *
  have m0 := HO.c 0 rfl
  have m1 := HO.c 1 rfl
  have hno9 : no ≤ 900 := by have := hko.len; have := HLEN.out; omega
  have hnco := hko.le
  have hcco := hko.cap
  have HKO := Lib.hid (fun W (g : w8.grownBy W none) => hko.kept g)
  clear HO hko
  go_upto_region 10 with fail
  go_loopw [90] (fun iv wr => ∃ k : Nat, k ≤ n1 ∧ iv = .int .i64 (k : Int) ∧ w8.grownBy wr none) (fun iv _ => n1 - (intOf iv).toNat)
  case atStart => exact ⟨0, by omega, rfl, grown_refl _⟩
  case round =>
    obtain ⟨k, hk, rfl, gr⟩ := hrel
    have g4r := g47.trans gr
    by_cases hlt : k < n1
    · as_aux_lemma =>
      obtain ⟨ad', x, hx, eA, hbl, hok, x0, x1, x2, x3⟩ := (HK.out wr g4r).at k hlt
      obtain rfl := Option.some.inj eA
      clear eA
      obtain ⟨SG1, SG2, SV⟩ := TH.out k x hx
      have o0 := gcell gr p0
      have o1 := gcell gr p1
      have b0 := gcell gr m0
      have b1 := gcell gr m1
      have k0' := gcell gr n0
      have SK := Lib.hid (fun (W : World) (hb : Base W) (h : Keys W Ao no co la) => sign_k s Ao no co la x.id t hs hok.1 (by omega) W hb h)
      rw [SG1, SG2] at SK
      have VK1 := Lib.hid (fun (W : World) (hb : Base W) (h : Keys W (some ad) n1 c1 l) (seen : Int) (h2 : i64 seen) => valid_k s (some ad) n1 c1 l x.id t (mark x.sec (sgn s x.id t)) x.frm seen hs hok.1 hok.2.1 h2 (by omega) W hb h)
      have VK2 := Lib.hid (fun (W : World) (hb : Base W) (h : Keys W Ao no co la) (seen : Int) (h2 : i64 seen) => valid_k s Ao no co la x.id t (mark x.sec (sgn s x.id t)) x.frm seen hs hok.1 hok.2.1 h2 (by omega) W hb h)
      have SVH := Lib.hid SV
      clear SG1 SG2 SV TH S2 S3 S4 S5
      generalize mark x.sec (sgn s x.id t) = M at *
      generalize validV s l x.id t M x.frm = V1 at *
      generalize validV s la x.id t M x.frm = V2 at *
      have hi1 := hok.1
      clear hx hok
      obtain ⟨xi, xs, xf, xt⟩ := x
      simp only at x0 x1 x2 x3 SK VK1 VK2 SVH hi1
      go_upto_region 12 with fail
      obtain ⟨w9, e9, HX, g⟩ := row_of wr 28 #[.int .i64 xi, .string ⟨xs.toArray⟩, .int .i64 xf, .int .i64 xt]
      rw [← e9]
      replace gr := gr.trans g
      replace o0 := gcell g o0
      replace o1 := gcell g o1
      replace b0 := gcell g b0
      replace b1 := gcell g b1
      replace k0' := gcell g k0'
      clear e9 x0 x1 x2 x3 g hbl g4r
      generalize wr.heap.size = X at *
      have z0 : w9.cell? ⟨X, 0, none⟩ = some (.int .i64 xi) := HX.c 0 rfl
      have z2 : w9.cell? ⟨X, 2, none⟩ = some (.int .i64 xf) := HX.c 2 rfl
      clear HX
      go_wp2_with fail
      refine (SK.out _ (HB4.out _ (g47.trans gr)) (HKO.out _ gr)).mono ?_
      rintro e w10 ⟨rfl, g⟩
      replace gr := gr.trans g
      replace o0 := gcell g o0
      replace o1 := gcell g o1
      replace b0 := gcell g b0
      replace b1 := gcell g b1
      replace k0' := gcell g k0'
      replace z0 := gcell g z0
      replace z2 := gcell g z2
      clear g SK
      have hw1 : IntKind.i64.wrap (a - 1) = a - 1 := by rw [IntKind.wrap_i64]; omega
      have hw2 : IntKind.i64.wrap (a + 1) = a + 1 := by rw [IntKind.wrap_i64]; omega
      go_upto_region 16 with fail
      obtain ⟨w11, e11, HL5, g⟩ := row_of w10 3 #[.int .i64 0, .int .i64 (a - 1), .int .i64 a, .int .i64 (a + 1), .int .i64 b]
      rw [← e11]
      replace gr := gr.trans g
      replace o0 := gcell g o0
      replace o1 := gcell g o1
      replace b0 := gcell g b0
      replace b1 := gcell g b1
      replace k0' := gcell g k0'
      replace z0 := gcell g z0
      replace z2 := gcell g z2
      clear e11 g hw1 hw2
      generalize w10.heap.size = H at *
      have LS : Hid (∀ m : Nat, m < 5 → ∃ z : Int, 0 ≤ z ∧ i64 z ∧ w11.cell? ⟨H, m, none⟩ = some (.int .i64 z)) := Lib.hid (fun m hm => by
        match m, hm with
        | 0, _ => exact ⟨0, by omega, by unfold i64; omega, HL5.c 0 rfl⟩
        | 1, _ => exact ⟨a - 1, by omega, by unfold i64; omega, HL5.c 1 rfl⟩
        | 2, _ => exact ⟨a, by omega, by unfold i64; omega, HL5.c 2 rfl⟩
        | 3, _ => exact ⟨a + 1, by omega, by unfold i64; omega, HL5.c 3 rfl⟩
        | 4, _ => exact ⟨b, by omega, by unfold i64; omega, HL5.c 4 rfl⟩)
      clear HL5
      go_loopw [112] (fun iv wr => ∃ m : Nat, m ≤ 5 ∧ iv = .int .i64 (m : Int) ∧ w11.grownBy wr none) (fun iv _ => 5 - (intOf iv).toNat)
      case atStart => exact ⟨0, by omega, rfl, grown_refl _⟩
      case round =>
        obtain ⟨m, hm, rfl, gq⟩ := hrel
        by_cases hm5 : m < 5
        · obtain ⟨z, hz0, hz, zc⟩ := LS.out m hm5
          replace zc := gcell gq zc
          have q0 := gcell gq o0
          have q1 := gcell gq o1
          have q2 := gcell gq b0
          have q3 := gcell gq b1
          have y0 := gcell gq z0
          have y2 := gcell gq z2
          have yk := gcell gq k0'
          have gA := gr.trans gq
          have gB := g47.trans gA
          obtain ⟨p, q, e1, e2, hpq, h1, h2⟩ := SVH.out z hz0
          have VZ1 := Lib.hid (fun (W : World) (g : wr.grownBy W none) => VK1.out W (HB4.out _ (gB.trans g)) (HK.out _ (gB.trans g)) z hz)
          have VZ2 := Lib.hid (fun (W : World) (g : wr.grownBy W none) => VK2.out W (HB4.out _ (gB.trans g)) (HKO.out _ (gA.trans g)) z hz)
          rw [e1] at VZ1
          rw [e2] at VZ2
          have HPQ := Lib.hid hpq
          have H1 := Lib.hid h1
          have H2 := Lib.hid h2
          clear e1 e2 LS SVH VK1 VK2 hpq h1 h2
          go_upto_region 18 with fail
          clear zc
          have gz : wr.grownBy wr.drew none := grown_dr (grown_refl _)
          refine wp_region_noPanic ?_
          refine wp_region_held_drew (S := (fun w' => wr.grownBy w' none)) (by kernel_rfl) ?_ (fun hHeld => ?_)
          · (try dsimp only); (repeat (first | assumption | exact grown_refl _ | refine grown_dr ?_ | refine grown_dn ?_ | refine grown_al ?_))
          refine wpAnyH_take (i := 0) (oi := _) (v := .agg #[.int .i64 s, .slice (some ad) n1 c1]) rfl (by kernel_rfl) (by kernel_rfl) (by kernel_rfl) (fun _ _ _ h => h) (Or.inl ⟨by kernel_rfl, ?_⟩) (by assumption) ?_
          · (intro w hSw; (try dsimp only at hSw); go_simp; have y0 := gcell hSw q0; have y1 := gcell hSw q1; clear hSw; go_simp; first | done | with_reducible rfl)
          try go_simp
          refine wpAnyH_take (i := 1) (oi := _) (v := ?_) rfl (by kernel_rfl) (by kernel_rfl) (by kernel_rfl) (fun _ _ _ h => h) (Or.inl ⟨by rfl, ?_⟩) (by assumption) ?_
          rotate_left 1
          · (intro w hSw; (try dsimp only at hSw); go_simp; first | done | with_reducible rfl)
          try go_simp
          refine wpAnyH_take (i := 2) (oi := _) (v := .int .i64 xi) rfl (by kernel_rfl) (by kernel_rfl) (by kernel_rfl) (fun _ _ _ h => h) (Or.inl ⟨by kernel_rfl, ?_⟩) (by assumption) ?_
          · (intro w hSw; (try dsimp only at hSw); go_simp; have y0 := gcell hSw y0; clear hSw; go_simp; first | done | with_reducible rfl)
          try go_simp
          refine wpAnyH_take (i := 3) (oi := _) (v := ?_) rfl (by kernel_rfl) (by kernel_rfl) (by kernel_rfl) (fun _ _ _ h => h) (Or.inl ⟨by rfl, ?_⟩) (by assumption) ?_
          rotate_left 1
          · (intro w hSw; (try dsimp only at hSw); go_simp; first | done | with_reducible rfl)
          try go_simp
          refine wpAnyH_take (i := 4) (oi := _) (v := ?_) rfl (by kernel_rfl) (by kernel_rfl) (by kernel_rfl) (fun _ _ _ h => h) (Or.inl ⟨by rfl, ?_⟩) (by assumption) ?_
          rotate_left 1
          · (intro w hSw; (try dsimp only at hSw); go_simp; first | done | with_reducible rfl)
          try go_simp
          refine wpAnyH_take (i := 5) (oi := _) (v := ?_) rfl (by kernel_rfl) (by kernel_rfl) (by kernel_rfl) (fun _ _ _ h => h) (Or.inl ⟨by rfl, ?_⟩) (by assumption) ?_
          rotate_left 1
          · (intro w hSw; (try dsimp only at hSw); go_simp; first | done | with_reducible rfl)
          try go_simp
          refine wpAnyH_take (i := 6) (oi := _) (v := .int .i64 xf) rfl (by kernel_rfl) (by kernel_rfl) (by kernel_rfl) (fun _ _ _ h => h) (Or.inl ⟨by kernel_rfl, ?_⟩) (by assumption) ?_
          · (intro w hSw; (try dsimp only at hSw); go_simp; have y0 := gcell hSw y2; clear hSw; go_simp; first | done | with_reducible rfl)
          try go_simp
          refine wpAnyH_take (i := 7) (oi := _) (v := ?_) rfl (by kernel_rfl) (by kernel_rfl) (by kernel_rfl) (fun _ _ _ h => h) (Or.inl ⟨by rfl, ?_⟩) (by assumption) ?_
          rotate_left 1
          · (intro w hSw; (try dsimp only at hSw); go_simp; first | done | with_reducible rfl)
          try go_simp
          refine wpAnyH_take (i := 9) (oi := _) (v := .agg #[.int .i64 s, .slice Ao no co]) rfl (by kernel_rfl) (by kernel_rfl) (by kernel_rfl) (fun _ _ _ h => h) (Or.inl ⟨by kernel_rfl, ?_⟩) (by assumption) ?_
          · (intro w hSw; (try dsimp only at hSw); go_simp; have y0 := gcell hSw q2; have y1 := gcell hSw q3; clear hSw; go_simp; first | done | with_reducible rfl)
          try go_simp
          refine wpAnyH_take (i := 10) (oi := _) (v := ?_) rfl (by kernel_rfl) (by kernel_rfl) (by kernel_rfl) (fun _ _ _ h => h) (Or.inl ⟨by rfl, ?_⟩) (by assumption) ?_
          rotate_left 1
          · (intro w hSw; (try dsimp only at hSw); go_simp; first | done | with_reducible rfl)
          try go_simp
          refine wpAnyH_take (i := 11) (oi := _) (v := .int .i64 xi) rfl (by kernel_rfl) (by kernel_rfl) (by kernel_rfl) (fun _ _ _ h => h) (Or.inl ⟨by kernel_rfl, ?_⟩) (by assumption) ?_
          · (intro w hSw; (try dsimp only at hSw); go_simp; have y0 := gcell hSw y0; clear hSw; go_simp; first | done | with_reducible rfl)
          try go_simp
          refine wpAnyH_take (i := 12) (oi := _) (v := ?_) rfl (by kernel_rfl) (by kernel_rfl) (by kernel_rfl) (fun _ _ _ h => h) (Or.inl ⟨by rfl, ?_⟩) (by assumption) ?_
          rotate_left 1
          · (intro w hSw; (try dsimp only at hSw); go_simp; first | done | with_reducible rfl)
          try go_simp
          refine wpAnyH_take (i := 13) (oi := _) (v := ?_) rfl (by kernel_rfl) (by kernel_rfl) (by kernel_rfl) (fun _ _ _ h => h) (Or.inl ⟨by rfl, ?_⟩) (by assumption) ?_
          rotate_left 1
          · (intro w hSw; (try dsimp only at hSw); go_simp; first | done | with_reducible rfl)
          try go_simp
          refine wpAnyH_take (i := 14) (oi := _) (v := ?_) rfl (by kernel_rfl) (by kernel_rfl) (by kernel_rfl) (fun _ _ _ h => h) (Or.inl ⟨by rfl, ?_⟩) (by assumption) ?_
          rotate_left 1
          · (intro w hSw; (try dsimp only at hSw); go_simp; first | done | with_reducible rfl)
          try go_simp
          refine wpAnyH_take (i := 15) (oi := _) (v := .int .i64 xf) rfl (by kernel_rfl) (by kernel_rfl) (by kernel_rfl) (fun _ _ _ h => h) (Or.inl ⟨by kernel_rfl, ?_⟩) (by assumption) ?_
          · (intro w hSw; (try dsimp only at hSw); go_simp; have y0 := gcell hSw y2; clear hSw; go_simp; first | done | with_reducible rfl)
          try go_simp
          refine wpAnyH_take (i := 16) (oi := _) (v := ?_) rfl (by kernel_rfl) (by kernel_rfl) (by kernel_rfl) (fun _ _ _ h => h) (Or.inl ⟨by rfl, ?_⟩) (by assumption) ?_
          rotate_left 1
          · (intro w hSw; (try dsimp only at hSw); go_simp; first | done | with_reducible rfl)
          try go_simp
          refine wpAnyH_ready (rs := [8]) (by kernel_rfl) (by simp) ?_
          refine AllReadyH.cons (o := _) rfl (fun K hK => ?_) AllReadyH.nil
          go_simp
          refine (VZ1.out _ gz).mono ?_
          rintro e w2 ⟨rfl, g⟩
          replace gz := gz.trans g
          clear g
          first | (refine hK.out _ _ ?_ (fun hHeld => ?_)) | (go_wp2_with fail; refine hK.out _ _ ?_ (fun hHeld => ?_))
          · (try dsimp only); (repeat (first | assumption | exact grown_refl _ | refine grown_dr ?_ | refine grown_dn ?_ | refine grown_al ?_))
          clear hK K
          refine wpAnyH_ready (rs := [17]) (by kernel_rfl) (by simp) ?_
          refine AllReadyH.cons (o := _) rfl (fun K hK => ?_) AllReadyH.nil
          go_simp
          refine (VZ2.out _ gz).mono ?_
          rintro e w2 ⟨rfl, g⟩
          replace gz := gz.trans g
          clear g
          first | (refine hK.out _ _ ?_ (fun hHeld => ?_)) | (go_wp2_with fail; refine hK.out _ _ ?_ (fun hHeld => ?_))
          · (try dsimp only); (repeat (first | assumption | exact grown_refl _ | refine grown_dr ?_ | refine grown_dn ?_ | refine grown_al ?_))
          clear hK K
          refine wpAnyH_take (i := 18) (oi := _) (v := ?_) rfl (by kernel_rfl) (by kernel_rfl) (by kernel_rfl) (fun _ _ _ h => h) (Or.inl ⟨by rfl, ?_⟩) (by assumption) ?_
          rotate_left 1
          · (intro w hSw; (try dsimp only at hSw); go_simp; first | done | with_reducible rfl)
          try go_simp
          refine wpAnyH_take (i := 19) (oi := _) (v := ?_) rfl (by kernel_rfl) (by kernel_rfl) (by kernel_rfl) (fun _ _ _ h => h) (Or.inl ⟨by rfl, ?_⟩) (by assumption) ?_
          rotate_left 1
          · (intro w hSw; (try dsimp only at hSw); go_simp; first | done | with_reducible rfl)
          try go_simp
          refine wpAnyH_done (by kernel_rfl) ?_ _
          refine NoPanic.normal ?_
          go_simp
          as_aux_lemma =>
          replace y0 := gcell gz y0
          replace yk := gcell gz yk
          replace gq := gq.trans gz
          clear q0 q1 q2 q3 y2 VZ1 VZ2 gz gA gB HB4 HK HKO o0 o1 b0 b1 k0' z0 z2
          by_cases c1 : z < a
          · obtain rfl : p = q := H1.out (.inl c1)
            have hp : p = 0 ∨ p = 11 := by have := HPQ.out; omega
            clear H1 H2 HPQ
            rcases hp with rfl | rfl
            · go_wp2_with fail
              go_roundw
              case rel => exact ⟨m + 1, by omega, by go_num, gq⟩
              case measure => simp [intOf]; omega
            · go_wp2_with fail
              go_roundw
              case rel => exact ⟨m + 1, by omega, by go_num, gq⟩
              case measure => simp [intOf]; omega
          · by_cases c2 : xi = ki
            · obtain rfl : q = 11 := H2.out ⟨by omega, c2⟩
              have hp : p = 0 ∨ p = 11 := by have := HPQ.out; omega
              subst c2
              clear H1 H2 HPQ
              rcases hp with rfl | rfl
              · go_wp2_with fail
                go_roundw
                case rel => exact ⟨m + 1, by omega, by go_num, gq⟩
                case measure => simp [intOf]; omega
              · go_wp2_with fail
                go_roundw
                case rel => exact ⟨m + 1, by omega, by go_num, gq⟩
                case measure => simp [intOf]; omega
            · obtain rfl : p = q := H1.out (.inr c2)
              have hp : p = 0 ∨ p = 11 := by have := HPQ.out; omega
              have c3 : (xi == ki) = false := by simpa using c2
              clear H1 H2 HPQ
              rcases hp with rfl | rfl
              · go_wp2_with fail
                go_roundw
                case rel => exact ⟨m + 1, by omega, by go_num, gq⟩
                case measure => simp [intOf]; omega
              · go_wp2_with fail
                go_roundw
                case rel => exact ⟨m + 1, by omega, by go_num, gq⟩
                case measure => simp [intOf]; omega
        · obtain rfl : m = 5 := by omega
          clear LS SVH VK1 VK2
          go_wp2_with fail
          go_roundw
          case rel => exact ⟨k + 1, by omega, by go_num, gr.trans gq⟩
          case measure => simp [intOf]; omega
    · as_aux_lemma =>
      have hd3 : decide ((k : Int) < n1) = false := decide_eq_false (by omega)
      have o0 := gcell gr p0
      have o1 := gcell gr p1
      have b0 := gcell gr m0
      have b1 := gcell gr m1
      have k0' := gcell gr n0
      have k2' := gcell gr n2
      clear TH
      by_cases c9 : b < kf
      · as_aux_lemma =>
        have SB := S2.out
        rw [if_pos c9] at SB
        have SC := S3.out
        rw [if_pos c9] at SC
        have T2 := Lib.hid (fun (W : World) (h : Keys W Ao no co la) => steal_no SB hs hki hib hno9 W h)
        have T3 := Lib.hid (fun (W : World) (h : Keys W (some ad) n1 c1 l) => steal_no SC hs hki hib hn9 W h)
        clear SB SC S2 S3 S4 S5
        go_wp2_with fail
        refine (T2.out _ (HKO.out _ gr)).mono ?_
        rintro e w20 ⟨A2', c2', rfl, g⟩
        replace gr := gr.trans g
        replace o0 := gcell g o0
        replace o1 := gcell g o1
        replace k0' := gcell g k0'
        replace k2' := gcell g k2'
        go_upto_region 24 with fail
        obtain ⟨w20b, ew, HR, g9⟩ := row_of w20 34 #[.int .i64 0, .slice A2' 0 c2']
        rw [← ew]
        replace gr := gr.trans g9
        replace o0 := gcell g9 o0
        replace o1 := gcell g9 o1
        replace k0' := gcell g9 k0'
        replace k2' := gcell g9 k2'
        clear ew g g9 T2 HR b0 b1
        generalize w20.heap.size = U2 at *
        go_wp2_with fail
        refine (T3.out _ (HK.out _ (g47.trans gr))).mono ?_
        rintro e w21 ⟨A3', c3', rfl, g⟩
        replace gr := gr.trans g
        replace k2' := gcell g k2'
        go_upto_region 25 with fail
        obtain ⟨w21b, ew, HR, g9⟩ := row_of w21 34 #[.int .i64 0, .slice A3' 0 c3']
        rw [← ew]
        replace gr := gr.trans g9
        replace k2' := gcell g9 k2'
        clear ew g g9 T3 HR o0 o1 k0'
        generalize w21.heap.size = U3 at *
        have gf := gw.trans gr
        go_wp2_with fail
        go_ret
        exact ⟨rfl, gf⟩
      · as_aux_lemma =>
        have SB := S2.out
        rw [if_neg c9] at SB
        have SC := S3.out
        rw [if_neg c9] at SC
        have SD := S4.out (by omega)
        have SE := S5.out (by omega)
        have T2 := Lib.hid (fun (W : World) (h : Keys W Ao no co la) => steal_ok SB hs hki hib hno9 W h)
        have T3 := Lib.hid (fun (W : World) (h : Keys W (some ad) n1 c1 l) => steal_ok SC hs hki hib hn9 W h)
        have T4 := Lib.hid (fun (W : World) (A : Option Addr) (n c : Nat) (hn : n ≤ 900) (h : Keys W A n c lb) => steal_ok SD hs hki hia hn W h)
        have T5 := Lib.hid (fun (W : World) (h : Keys W (some ad) n1 c1 l) => steal_ok SE hs hki him hn9 W h)
        clear SB SC SD SE S2 S3 S4 S5
        go_wp2_with fail
        refine (T2.out _ (HKO.out _ gr)).mono ?_
        rintro e w20 ⟨Am, nm, cm, rfl, hkm, g⟩
        replace gr := gr.trans g
        replace o0 := gcell g o0
        replace o1 := gcell g o1
        replace k0' := gcell g k0'
        replace k2' := gcell g k2'
        go_upto_region 24 with fail
        obtain ⟨w20b, ew, HR, g9⟩ := row_of w20 34 #[.int .i64 s, .slice Am nm cm]
        rw [← ew]
        replace gr := gr.trans g9
        replace o0 := gcell g9 o0
        replace o1 := gcell g9 o1
        replace k0' := gcell g9 k0'
        replace k2' := gcell g9 k2'
        replace hkm := hkm.kept g9
        have u0 := HR.c 0 rfl
        have u1 := HR.c 1 rfl
        clear ew g g9 T2 HR b0 b1
        generalize w20.heap.size = U2 at *
        go_wp2_with fail
        refine (T3.out _ (HK.out _ (g47.trans gr))).mono ?_
        rintro e w21 ⟨Ab, nb, cb, rfl, hkb, g⟩
        replace gr := gr.trans g
        replace o0 := gcell g o0
        replace o1 := gcell g o1
        replace k0' := gcell g k0'
        replace k2' := gcell g k2'
        replace u0 := gcell g u0
        replace u1 := gcell g u1
        replace hkm := hkm.kept g
        go_upto_region 25 with fail
        obtain ⟨w21b, ew, HR, g9⟩ := row_of w21 34 #[.int .i64 s, .slice Ab nb cb]
        rw [← ew]
        replace gr := gr.trans g9
        replace o0 := gcell g9 o0
        replace o1 := gcell g9 o1
        replace k0' := gcell g9 k0'
        replace k2' := gcell g9 k2'
        replace u0 := gcell g9 u0
        replace u1 := gcell g9 u1
        replace hkm := hkm.kept g9
        replace hkb := hkb.kept g9
        have v0 := HR.c 0 rfl
        have v1 := HR.c 1 rfl
        have hnb : nb ≤ 900 := by have := hkb.len; have := HLB.out; omega
        clear ew g g9 T3 HR
        generalize w21.heap.size = U3 at *
        go_wp2_with fail
        refine (T4.out _ _ _ _ hnb hkb).mono ?_
        rintro e w22 ⟨Ac, nc, cc, rfl, hkc, g⟩
        replace gr := gr.trans g
        replace o0 := gcell g o0
        replace o1 := gcell g o1
        replace k0' := gcell g k0'
        replace u0 := gcell g u0
        replace u1 := gcell g u1
        replace hkm := hkm.kept g
        go_upto_region 30 with fail
        obtain ⟨w22b, ew, HR, g9⟩ := row_of w22 34 #[.int .i64 s, .slice Ac nc cc]
        rw [← ew]
        replace gr := gr.trans g9
        replace o0 := gcell g9 o0
        replace o1 := gcell g9 o1
        replace k0' := gcell g9 k0'
        replace u0 := gcell g9 u0
        replace u1 := gcell g9 u1
        replace hkm := hkm.kept g9
        replace hkc := hkc.kept g9
        have x0 := HR.c 0 rfl
        have x1 := HR.c 1 rfl
        clear ew g g9 T4 HR hkb v0 v1 k2'
        generalize w22.heap.size = U4 at *
        go_wp2_with fail
        refine (T5.out _ (HK.out _ (g47.trans gr))).mono ?_
        rintro e w23 ⟨Ad, nd, cd, rfl, hkd, g⟩
        replace gr := gr.trans g
        replace u0 := gcell g u0
        replace u1 := gcell g u1
        replace x0 := gcell g x0
        replace x1 := gcell g x1
        replace hkm := hkm.kept g
        replace hkc := hkc.kept g
        go_upto_region 31 with fail
        obtain ⟨w23b, ew, HR, g9⟩ := row_of w23 34 #[.int .i64 s, .slice Ad nd cd]
        rw [← ew]
        replace gr := gr.trans g9
        replace u0 := gcell g9 u0
        replace u1 := gcell g9 u1
        replace x0 := gcell g9 x0
        replace x1 := gcell g9 x1
        replace hkm := hkm.kept g9
        replace hkc := hkc.kept g9
        replace hkd := hkd.kept g9
        have y0 := HR.c 0 rfl
        have y1 := HR.c 1 rfl
        clear ew g g9 T5 HR o0 o1 k0'
        generalize w23.heap.size = U5 at *
        have DA := Lib.hid (fun (W : World) (g : w23b.grownBy W none) => same_self s Am Ac nm cm nc cc lm hs W (hkm.kept g) (hkc.kept g))
        have DB := Lib.hid (fun (W : World) (g : w23b.grownBy W none) => same_self s Am Ad nm cm nd cd lm hs W (hkm.kept g) (hkd.kept g))
        clear hkm hkc hkd HK HKO HB4
        go_wp2_with fail
        refine (DA.out _ (grown_refl _)).mono ?_
        rintro e w24 ⟨rfl, g⟩
        have gy := g
        replace u0 := gcell g u0
        replace u1 := gcell g u1
        replace y0 := gcell g y0
        replace y1 := gcell g y1
        clear g DA x0 x1
        go_wp2_with fail
        refine (DB.out _ gy).mono ?_
        rintro e w25 ⟨rfl, g⟩
        have gf := ((gw.trans gr).trans gy).trans g
        clear g DB u0 u1 y0 y1
        go_wp2_with fail
        go_ret
        exact ⟨rfl, gf⟩
end Go.Proofs.YtecobgjkodmaiaaDoor
