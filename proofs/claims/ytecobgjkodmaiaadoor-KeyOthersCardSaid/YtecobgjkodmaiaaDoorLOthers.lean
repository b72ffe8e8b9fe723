/-
  The law KeyOthers.
-/
import Derived.BigQuiet
import Derived.Deep.RegionHeld3
import Derived.Test.YtecobgjkodmaiaaDoorLDig
namespace Go.Proofs.YtecobgjkodmaiaaDoor
open Go.RowKit
attribute [local go_sem] get_mk extract_mk
set_option maxRecDepth 100000 in
set_option maxHeartbeats 8000000 in
theorem keyothers (sc q0 q1 q2 r0 r1 r2 : Int) (A : Option Addr) (n c : Nat) (il : List Int) (ta tb : Str) (h0 : 0 ≤ sc ∧ sc < 256) (i0 : i64 q0) (i1 : i64 q1) (i2 : i64 q2) (i3 : i64 r0) (i4 : i64 r1) (i5 : i64 r2) (w : World) (hb : Base w) (hi : Ints w A n c il) :
    Calls Tryd.prog 6 #[.agg #[.int .u8 sc, .slice A n c, .int .i64 q0, .int .i64 q1, .int .i64 q2, .int .i64 r0, .int .i64 r1, .int .i64 r2], .string ⟨ta.toArray⟩, .string ⟨tb.toArray⟩] w fun e w' => e = .returned (.bool true) ∧ w.grownBy w' none := by
  have HBs := Lib.hid (fun W (g : w.grownBy W none) => hb.none_ g)
  have HIs := Lib.hid (fun W (g : w.grownBy W none) => hi.kept g)
  clear hb hi
  obtain ⟨w1, e1, HC, gw⟩ := row_of w 26 #[.int .u8 sc, .slice A n c, .int .i64 q0, .int .i64 q1, .int .i64 q2, .int .i64 r0, .int .i64 r1, .int .i64 r2]
  have E1 := Lib.hid e1
  clear e1
  go_enter Tryd.func6, Tryd.ntmps6
  go_upto_region 1 with fail
  rw [← E1.out]
  clear E1
  generalize w.heap.size = C at *
  go_wp2_with fail
  refine (sane_k _ (HBs.out _ gw)).mono ?_
  rintro e w2 ⟨rfl, g⟩
  replace gw := gw.trans g
  replace HC := HC.kept g
  clear g
  have x0 : w2.cell? ⟨C, 0, none⟩ = some (.int .u8 sc) := HC.c 0 rfl
  have x1 : w2.cell? ⟨C, 1, none⟩ = some (.slice A n c) := HC.c 1 rfl
  have x2 : w2.cell? ⟨C, 2, none⟩ = some (.int .i64 q0) := HC.c 2 rfl
  have x3 : w2.cell? ⟨C, 3, none⟩ = some (.int .i64 q1) := HC.c 3 rfl
  have x4 : w2.cell? ⟨C, 4, none⟩ = some (.int .i64 q2) := HC.c 4 rfl
  have x5 : w2.cell? ⟨C, 5, none⟩ = some (.int .i64 r0) := HC.c 5 rfl
  have x6 : w2.cell? ⟨C, 6, none⟩ = some (.int .i64 r1) := HC.c 6 rfl
  have x7 : w2.cell? ⟨C, 7, none⟩ = some (.int .i64 r2) := HC.c 7 rfl
  clear HC
  go_wp2_with fail
  refine (rings_k sc q0 q1 q2 r0 r1 r2 A n c il h0 i0 i1 i2 i3 i4 i5 _ (HIs.out _ gw)).mono ?_
  rintro e w3 ⟨s, A1, n1, c1, l, s2, A2, n2, c2, l2, s3, A3, n3, c3, l3, rfl, hk1, HM, hl1, hl3, hss, hk2, hl24, hs2, hk3, hl45, hs3, g⟩
  replace gw := gw.trans g
  clear g x0 x1 x2 x3 x4 x5 x6 x7 h0 i0 i1 i2 i3 i4 i5
  have hix : ∀ W, (Instr.index 35 (Value.agg #[.int .i64 s, .slice A1 n1 c1, .int .i64 s2, .slice A2 n2 c2, .int .i64 s3, .slice A3 n3 c3]) (.int .i64 0)).run Tryd.prog W = .ok (.agg #[.int .i64 s, .slice A1 n1 c1]) W := fun _ => by kernel_rfl
  go_upto_region 3 with fail
  obtain ⟨w4, e4, HP, g⟩ := row_of w3 34 #[.int .i64 s, .slice A1 n1 c1]
  rw [← e4]
  replace gw := gw.trans g
  replace hk1 := hk1.kept g
  clear e4 g hk2 hk3 hl24 hs2 hl45 hs3 hix
  have hs : i64 s := ⟨by omega, by omega⟩
  have HK := Lib.hid (fun W (g : w4.grownBy W none) => hk1.kept g)
  have HB4 := Lib.hid (fun W (g : w4.grownBy W none) => HBs.out _ (gw.trans g))
  have hn1 := hk1.len
  have hcc := hk1.cap
  have hnc := hk1.le
  clear hk1 HBs HIs
  generalize w3.heap.size = P at *
  have p0 : w4.cell? ⟨P, 0, none⟩ = some (.int .i64 s) := HP.c 0 rfl
  have p1 : w4.cell? ⟨P, 1, none⟩ = some (.slice A1 n1 c1) := HP.c 1 rfl
  clear HP
  have HMH := Lib.hid HM
  have HL3 := Lib.hid hl3
  clear HM hn1 hl1 hl3
  go_cut [1, 2] (fun x y wx => ∃ (a b : Str) (w5 : World), x = .string ⟨a.toArray⟩ ∧ y = .string ⟨b.toArray⟩ ∧ a.length ≤ 40 ∧ b.length ≤ 40 ∧ w4.grownBy w5 none ∧ w5 = wx)
  case first =>
    go_quiet (fail)
    go_wp2_with fail
    go_meet
    exact ⟨_, _, _, rfl, rfl, by rw [List.length_take]; omega, by rw [List.length_take]; omega, grown_dn (grown_refl _), rfl⟩
  obtain ⟨a, b, w5, rfl, rfl, ha, hb, g4, rfl⟩ := hcut
  replace gw := gw.trans g4
  replace p0 := gcell g4 p0
  replace p1 := gcell g4 p1
  have m8 : s.tmod 8 = s % 8 := Int.tmod_eq_emod_of_nonneg (by omega)
  have hw8 : IntKind.i64.wrap (s % 8) = s % 8 := by rw [IntKind.wrap_i64]; omega
  have hw9 : IntKind.i64.wrap (1 + s % 8) = 1 + s % 8 := by rw [IntKind.wrap_i64]; omega
  have hso : 1 ≤ 1 + s % 8 ∧ 1 + s % 8 ≤ 8 := by omega
  go_upto_region 5 with fail
  generalize 1 + s % 8 = so at *
  clear m8 hw8 hw9
  obtain ⟨w6, e6, HO, g⟩ := row_of w5 34 #[.int .i64 so, .slice A1 n1 c1]
  rw [← e6]
  replace gw := gw.trans g
  replace g4 := g4.trans g
  replace p0 := gcell g p0
  replace p1 := gcell g p1
  clear e6 g
  generalize w5.heap.size = O at *
  have s0 : w6.cell? ⟨O, 0, none⟩ = some (.int .i64 so) := HO.c 0 rfl
  have s1 : w6.cell? ⟨O, 1, none⟩ = some (.slice A1 n1 c1) := HO.c 1 rfl
  clear HO
  have hos : i64 so := ⟨by omega, by omega⟩
  go_wp2_with fail
  go_loopw [44] (fun iv wr => ∃ k : Nat, k ≤ n1 ∧ iv = .int .i64 (k : Int) ∧ w6.grownBy wr none) (fun iv _ => n1 - (intOf iv).toNat)
  case atStart => exact ⟨0, by omega, rfl, grown_refl _⟩
  case round =>
    obtain ⟨k, hk, rfl, gr⟩ := hrel
    have a0 := gcell gr p0
    have a1 := gcell gr p1
    have b0 := gcell gr s0
    have b1 := gcell gr s1
    have g4r := g4.trans gr
    by_cases hlt : k < n1
    · obtain ⟨ad, x, hx, rfl, hbl, hok, x0, x1, x2, x3⟩ := (HK.out wr g4r).at k hlt
      have SG1 := sign_made (s := s) HMH.out hx a
      have SG2 := sign_made (s := s) HMH.out hx b
      have SG3 := sign_made (s := so) HMH.out hx a
      have hst : 0 ≤ x.stl := by
        have h1 := HMH.out.stl x (List.mem_of_getElem? hx)
        have h2 := HMH.out.frm x (List.mem_of_getElem? hx)
        omega
      have hsec := HMH.out.sec x (List.mem_of_getElem? hx)
      have hid := HMH.out.id k x hx
      have hl := HL3.out
      have hkl : k < l.length := (List.getElem?_eq_some_iff.1 hx).1
      have hi9 : 0 ≤ x.id ∧ x.id < 10 := by omega
      have hi1 := hok.1
      have hi3 := hok.2.1
      have V1 : validV s l x.id b (mark x.sec (sgn s x.id a)) x.frm 0 = if (mark x.sec (sgn s x.id a) == mark x.sec (sgn s x.id b)) = false then 11 else 0 := by
        rw [valid_made HMH.out hx, if_neg (by omega)]
        have : stolenB x 0 = false := by unfold stolenB; by_cases h : x.stl = 0 <;> simp [h] <;> omega
        rw [this]
        simp
      have V2 : validV so l x.id a (mark x.sec (sgn s x.id a)) x.frm 0 = if (mark x.sec (sgn s x.id a) == mark x.sec (sgn so x.id a)) = false then 11 else 0 := by
        rw [valid_made HMH.out hx, if_neg (by omega)]
        have : stolenB x 0 = false := by unfold stolenB; by_cases h : x.stl = 0 <;> simp [h] <;> omega
        rw [this]
        simp
      have hmk : (mark x.sec (sgn s x.id a)).length = 8 := dg_len _
      have SK1 := Lib.hid (fun (W : World) (hb : Base W) (h : Keys W (some ad) n1 c1 l) => sign_k s (some ad) n1 c1 l x.id a hs hi1 (by omega) W hb h)
      have SK2 := Lib.hid (fun (W : World) (hb : Base W) (h : Keys W (some ad) n1 c1 l) => sign_k s (some ad) n1 c1 l x.id b hs hi1 (by omega) W hb h)
      have SK3 := Lib.hid (fun (W : World) (hb : Base W) (h : Keys W (some ad) n1 c1 l) => sign_k so (some ad) n1 c1 l x.id a hos hi1 (by omega) W hb h)
      rw [SG1.1, SG1.2] at SK1
      rw [SG2.1, SG2.2] at SK2
      rw [SG3.1, SG3.2] at SK3
      have VK1 := Lib.hid (fun (W : World) (hb : Base W) (h : Keys W (some ad) n1 c1 l) => valid_k s (some ad) n1 c1 l x.id b (mark x.sec (sgn s x.id a)) x.frm 0 hs hi1 hi3 (by unfold i64; omega) (by omega) W hb h)
      have VK2 := Lib.hid (fun (W : World) (hb : Base W) (h : Keys W (some ad) n1 c1 l) => valid_k so (some ad) n1 c1 l x.id a (mark x.sec (sgn s x.id a)) x.frm 0 hos hi1 hi3 (by unfold i64; omega) (by omega) W hb h)
      generalize validV s l x.id b (mark x.sec (sgn s x.id a)) x.frm 0 = E1 at *
      generalize validV so l x.id a (mark x.sec (sgn s x.id a)) x.frm 0 = E2 at *
      have HV1 := Lib.hid V1
      have HV2 := Lib.hid V2
      clear V1 V2
      have CH := Lib.hid (fun (W : World) => check_k x.sec (sgn s x.id a) (mark x.sec (sgn s x.id a)) (by omega) (by have := sgn_len (text := a) hs hi1; omega) W)
      have hcb : (x.sec != [] && mark x.sec (sgn s x.id a) == mark x.sec (sgn s x.id a)) = true := by simp [hsec.1]
      rw [hcb] at CH
      have DS := Lib.hid (fun (W : World) => digits_c s (by omega) W)
      have DI := Lib.hid (fun (W : World) => digits_c x.id hi9 W)
      have HS1 := itoa_len hs
      have HS2 := itoa_len hi1
      generalize mark x.sec (sgn s x.id a) = MA at *
      generalize mark x.sec (sgn s x.id b) = MB at *
      generalize mark x.sec (sgn so x.id a) = MC at *
      unfold sgn at CH
      generalize Lib.itoa s = SS at *
      generalize Lib.itoa x.id = SI at *
      clear SG1 SG2 SG3 hcb hid hl hkl hsec hst hx hok
      obtain ⟨xi, xs, xf, xt⟩ := x
      simp only at x0 x1 x2 x3 SK1 SK2 SK3 VK1 VK2 CH DI hi9 hi1 hi3
      go_upto_region 8 with fail
      obtain ⟨w7, e7, HX, g⟩ := row_of wr 28 #[.int .i64 xi, .string ⟨xs.toArray⟩, .int .i64 xf, .int .i64 xt]
      rw [← e7]
      have g6 := gr.trans g
      have gk := g4r.trans g
      replace a0 := gcell g a0
      replace a1 := gcell g a1
      replace b0 := gcell g b0
      replace b1 := gcell g b1
      clear e7 x0 x1 x2 x3 g hbl
      generalize wr.heap.size = X at *
      have z0 : w7.cell? ⟨X, 0, none⟩ = some (.int .i64 xi) := HX.c 0 rfl
      have z1 : w7.cell? ⟨X, 1, none⟩ = some (.string ⟨xs.toArray⟩) := HX.c 1 rfl
      have z2 : w7.cell? ⟨X, 2, none⟩ = some (.int .i64 xf) := HX.c 2 rfl
      clear HX
      go_wp2_with fail
      refine (SK1.out _ (HB4.out _ gk) (HK.out _ gk)).mono ?_
      rintro e w8 ⟨rfl, g⟩
      replace g6 := g6.trans g
      replace gk := gk.trans g
      replace a0 := gcell g a0
      replace a1 := gcell g a1
      replace b0 := gcell g b0
      replace b1 := gcell g b1
      replace z0 := gcell g z0
      replace z1 := gcell g z1
      replace z2 := gcell g z2
      clear g SK1
      go_wp2_with fail
      refine (SK2.out _ (HB4.out _ gk) (HK.out _ gk)).mono ?_
      rintro e w9 ⟨rfl, g⟩
      replace g6 := g6.trans g
      replace gk := gk.trans g
      replace a0 := gcell g a0
      replace a1 := gcell g a1
      replace b0 := gcell g b0
      replace b1 := gcell g b1
      replace z0 := gcell g z0
      replace z1 := gcell g z1
      replace z2 := gcell g z2
      clear g SK2
      go_wp2_with fail
      refine (SK3.out _ (HB4.out _ gk) (HK.out _ gk)).mono ?_
      rintro e w10 ⟨rfl, g⟩
      replace g6 := g6.trans g
      replace gk := gk.trans g
      replace a0 := gcell g a0
      replace a1 := gcell g a1
      replace b0 := gcell g b0
      replace b1 := gcell g b1
      replace z0 := gcell g z0
      replace z1 := gcell g z1
      replace z2 := gcell g z2
      clear g SK3
      go_wp2_with fail
      refine (VK1.out _ (HB4.out _ gk) (HK.out _ gk)).mono ?_
      rintro e w11 ⟨rfl, g⟩
      replace g6 := g6.trans g
      replace gk := gk.trans g
      replace a0 := gcell g a0
      replace a1 := gcell g a1
      replace b0 := gcell g b0
      replace b1 := gcell g b1
      replace z0 := gcell g z0
      replace z1 := gcell g z1
      replace z2 := gcell g z2
      clear g VK1
      go_wp2_with fail
      refine (VK2.out _ (HB4.out _ gk) (HK.out _ gk)).mono ?_
      rintro e w13 ⟨rfl, g⟩
      replace g6 := g6.trans g
      replace gk := gk.trans g
      replace a0 := gcell g a0
      replace a1 := gcell g a1
      replace b0 := gcell g b0
      replace b1 := gcell g b1
      replace z0 := gcell g z0
      replace z1 := gcell g z1
      replace z2 := gcell g z2
      clear g VK2
      go_upto_region 15 with fail
      have m1 : ¬ 9223372036854775807 < SS.length + 1 := by omega
      have m2 : ¬ 9223372036854775807 < SS.length + 1 + SI.length := by omega
      have m3 : ¬ 9223372036854775807 < SS.length + 1 + SI.length + 1 := by omega
      have m4 : ¬ 9223372036854775807 < SS.length + 1 + SI.length + 1 + a.length := by omega
      clear HB4 HK b0 a1 b1 gk z2 hos p0 p1 s0 s1 hi9 hi3 HMH HL3 HS1 HS2 hmk
      by_cases d1 : MA = MB
      · have q1 : E1 = 0 := by rw [HV1.out, d1]; simp
        subst q1 d1
        by_cases d2 : MA = MC
        · have q2 : E2 = 0 := by rw [HV2.out, d2]; simp
          subst q2 d2
          have gz : w13.grownBy w13.drew none := grown_dr (grown_refl _)
          refine wp_region_noPanic ?_
          refine wp_region_held_drew (S := (fun w' => w13.grownBy w' none)) (by kernel_rfl) ?_ (fun hHeld => ?_)
          · (try dsimp only); (repeat (first | assumption | exact grown_refl _ | refine grown_dr ?_ | refine grown_dn ?_ | refine grown_al ?_))
          refine wpAnyH_take (i := 0) (oi := _) (v := ?_) rfl (by kernel_rfl) (by kernel_rfl) (by kernel_rfl) (fun _ _ _ h => h) (Or.inl ⟨by rfl, ?_⟩) (by assumption) ?_
          rotate_left 1
          · (intro w hSw; (try dsimp only at hSw); go_simp; first | done | with_reducible rfl)
          try go_simp
          refine wpAnyH_take (i := 1) (oi := _) (v := ?_) rfl (by kernel_rfl) (by kernel_rfl) (by kernel_rfl) (fun _ _ _ h => h) (Or.inl ⟨by rfl, ?_⟩) (by assumption) ?_
          rotate_left 1
          · (intro w hSw; (try dsimp only at hSw); go_simp; first | done | with_reducible rfl)
          try go_simp
          refine wpAnyH_take (i := 2) (oi := _) (v := ?_) rfl (by kernel_rfl) (by kernel_rfl) (by kernel_rfl) (fun _ _ _ h => h) (Or.inl ⟨by rfl, ?_⟩) (by assumption) ?_
          rotate_left 1
          · (intro w hSw; (try dsimp only at hSw); go_simp; first | done | with_reducible rfl)
          try go_simp
          refine wpAnyH_take (i := 3) (oi := _) (v := ?_) rfl (by kernel_rfl) (by kernel_rfl) (by kernel_rfl) (fun _ _ _ h => h) (Or.inl ⟨by rfl, ?_⟩) (by assumption) ?_
          rotate_left 1
          · (intro w hSw; (try dsimp only at hSw); go_simp; first | done | with_reducible rfl)
          try go_simp
          refine wpAnyH_take (i := 4) (oi := _) (v := .bool true) rfl (by kernel_rfl) (by kernel_rfl) (by kernel_rfl) (fun _ _ _ h => h) (Or.inl ⟨by kernel_rfl, ?_⟩) (by assumption) ?_
          · (intro w hSw; (try dsimp only at hSw); go_simp; first | done | with_reducible rfl)
          try go_simp
          refine wpAnyH_take (i := 5) (oi := _) (v := ?_) rfl (by kernel_rfl) (by kernel_rfl) (by kernel_rfl) (fun _ _ _ h => h) (Or.inl ⟨by rfl, ?_⟩) (by assumption) ?_
          rotate_left 1
          · (intro w hSw; (try dsimp only at hSw); go_simp; first | done | with_reducible rfl)
          try go_simp
          refine wpAnyH_take (i := 6) (oi := _) (v := ?_) rfl (by kernel_rfl) (by kernel_rfl) (by kernel_rfl) (fun _ _ _ h => h) (Or.inl ⟨by rfl, ?_⟩) (by assumption) ?_
          rotate_left 1
          · (intro w hSw; (try dsimp only at hSw); go_simp; first | done | with_reducible rfl)
          try go_simp
          refine wpAnyH_take (i := 7) (oi := _) (v := ?_) rfl (by kernel_rfl) (by kernel_rfl) (by kernel_rfl) (fun _ _ _ h => h) (Or.inl ⟨by kernel_rfl, ?_⟩) (by assumption) ?_
          rotate_left 1
          · (intro w hSw; (try dsimp only at hSw); go_simp; first | done | with_reducible rfl)
          try go_simp
          refine wpAnyH_take (i := 8) (oi := _) (v := ?_) rfl (by kernel_rfl) (by kernel_rfl) (by kernel_rfl) (fun _ _ _ h => h) (Or.inl ⟨by kernel_rfl, ?_⟩) (by assumption) ?_
          rotate_left 1
          · (intro w hSw; (try dsimp only at hSw); go_simp; first | done | with_reducible rfl)
          try go_simp
          refine wpAnyH_take (i := 9) (oi := _) (v := ?_) rfl (by kernel_rfl) (by kernel_rfl) (by kernel_rfl) (fun _ _ _ h => h) (Or.inl ⟨by kernel_rfl, ?_⟩) (by assumption) ?_
          rotate_left 1
          · (intro w hSw; (try dsimp only at hSw); go_simp; first | done | with_reducible rfl)
          try go_simp
          refine wpAnyH_take (i := 10) (oi := _) (v := ?_) rfl (by kernel_rfl) (by kernel_rfl) (by kernel_rfl) (fun _ _ _ h => h) (Or.inl ⟨by kernel_rfl, ?_⟩) (by assumption) ?_
          rotate_left 1
          · (intro w hSw; (try dsimp only at hSw); go_simp; first | done | with_reducible rfl)
          try go_simp
          refine wpAnyH_take (i := 11) (oi := _) (v := .bool true) rfl (by kernel_rfl) (by kernel_rfl) (by kernel_rfl) (fun _ _ _ h => h) (Or.inl ⟨by kernel_rfl, ?_⟩) (by assumption) ?_
          · (intro w hSw; (try dsimp only at hSw); go_simp; first | done | with_reducible rfl)
          try go_simp
          refine wpAnyH_take (i := 12) (oi := _) (v := ?_) rfl (by kernel_rfl) (by kernel_rfl) (by kernel_rfl) (fun _ _ _ h => h) (Or.inl ⟨by kernel_rfl, ?_⟩) (by assumption) ?_
          rotate_left 1
          · (intro w hSw; (try dsimp only at hSw); go_simp; first | done | with_reducible rfl)
          try go_simp
          refine wpAnyH_take (i := 13) (oi := _) (v := ?_) rfl (by kernel_rfl) (by kernel_rfl) (by kernel_rfl) (fun _ _ _ h => h) (Or.inl ⟨by rfl, ?_⟩) (by assumption) ?_
          rotate_left 1
          · (intro w hSw; (try dsimp only at hSw); go_simp; first | done | with_reducible rfl)
          try go_simp
          refine wpAnyH_take (i := 14) (oi := _) (v := ?_) rfl (by kernel_rfl) (by kernel_rfl) (by kernel_rfl) (fun _ _ _ h => h) (Or.inl ⟨by rfl, ?_⟩) (by assumption) ?_
          rotate_left 1
          · (intro w hSw; (try dsimp only at hSw); go_simp; first | done | with_reducible rfl)
          try go_simp
          refine wpAnyH_take (i := 15) (oi := _) (v := ?_) rfl (by kernel_rfl) (by kernel_rfl) (by kernel_rfl) (fun _ _ _ h => h) (Or.inl ⟨by kernel_rfl, ?_⟩) (by assumption) ?_
          rotate_left 1
          · (intro w hSw; (try dsimp only at hSw); go_simp; first | done | with_reducible rfl)
          try go_simp
          refine wpAnyH_take (i := 16) (oi := _) (v := .string ⟨xs.toArray⟩) rfl (by kernel_rfl) (by kernel_rfl) (by kernel_rfl) (fun _ _ _ h => h) (Or.inl ⟨by kernel_rfl, ?_⟩) (by assumption) ?_
          · (intro w hSw; (try dsimp only at hSw); go_simp; have y0 := gcell hSw z1; clear hSw; go_simp; first | done | with_reducible rfl)
          try go_simp
          refine wpAnyH_take (i := 17) (oi := _) (v := ?_) rfl (by kernel_rfl) (by kernel_rfl) (by kernel_rfl) (fun _ _ _ h => h) (Or.inl ⟨by kernel_rfl, ?_⟩) (by assumption) ?_
          rotate_left 1
          · (intro w hSw; (try dsimp only at hSw); go_simp; first | done | with_reducible rfl)
          try go_simp
          refine wpAnyH_take (i := 18) (oi := _) (v := .int .i64 s) rfl (by kernel_rfl) (by kernel_rfl) (by kernel_rfl) (fun _ _ _ h => h) (Or.inl ⟨by kernel_rfl, ?_⟩) (by assumption) ?_
          · (intro w hSw; (try dsimp only at hSw); go_simp; have y0 := gcell hSw a0; clear hSw; go_simp; first | done | with_reducible rfl)
          try go_simp
          refine wpAnyH_take (i := 21) (oi := _) (v := ?_) rfl (by kernel_rfl) (by kernel_rfl) (by kernel_rfl) (fun _ _ _ h => h) (Or.inl ⟨by kernel_rfl, ?_⟩) (by assumption) ?_
          rotate_left 1
          · (intro w hSw; (try dsimp only at hSw); go_simp; first | done | with_reducible rfl)
          try go_simp
          refine wpAnyH_take (i := 22) (oi := _) (v := .int .i64 xi) rfl (by kernel_rfl) (by kernel_rfl) (by kernel_rfl) (fun _ _ _ h => h) (Or.inl ⟨by kernel_rfl, ?_⟩) (by assumption) ?_
          · (intro w hSw; (try dsimp only at hSw); go_simp; have y0 := gcell hSw z0; clear hSw; go_simp; first | done | with_reducible rfl)
          try go_simp
          refine wpAnyH_take (i := 26) (oi := _) (v := ?_) rfl (by kernel_rfl) (by kernel_rfl) (by kernel_rfl) (fun _ _ _ h => h) (Or.inl ⟨by kernel_rfl, ?_⟩) (by assumption) ?_
          rotate_left 1
          · (intro w hSw; (try dsimp only at hSw); go_simp; first | done | with_reducible rfl)
          try go_simp
          refine wpAnyH_take (i := 28) (oi := _) (v := ?_) rfl (by kernel_rfl) (by kernel_rfl) (by kernel_rfl) (fun _ _ _ h => h) (Or.inl ⟨by kernel_rfl, ?_⟩) (by assumption) ?_
          rotate_left 1
          · (intro w hSw; (try dsimp only at hSw); go_simp; first | done | with_reducible rfl)
          try go_simp
          refine wpAnyH_ready (rs := [19]) (by kernel_rfl) (by simp) ?_
          refine AllReadyH.cons (o := _) rfl (fun K hK => ?_) AllReadyH.nil
          go_simp
          refine (DS.out _).mono ?_
          rintro e w2 ⟨rfl, g⟩
          replace gz := gz.trans g
          clear g
          first | (refine hK.out _ _ ?_ (fun hHeld => ?_)) | (go_wp2_with fail; refine hK.out _ _ ?_ (fun hHeld => ?_))
          · (try dsimp only); (repeat (first | assumption | exact grown_refl _ | refine grown_dr ?_ | refine grown_dn ?_ | refine grown_al ?_))
          clear hK K
          refine wpAnyH_take (i := 20) (oi := _) (v := .string ⟨(SS ++ [32]).toArray⟩) rfl (by kernel_rfl) (by kernel_rfl) (by kernel_rfl) (fun _ _ _ h => h) (Or.inl ⟨by kernel_rfl, ?_⟩) (by assumption) ?_
          · (intro w hSw; (try dsimp only at hSw); go_simp; first | done | with_reducible rfl | ((try rw [if_neg (by omega)]); congr 2; done) | ((try rw [if_neg (by omega)]); congr 3; apply ByteArray.ext; simp; done) | ((try rw [if_neg (by omega)]); congr 2; apply ByteArray.ext; simp; done))
          try go_simp
          refine wpAnyH_ready (rs := [23]) (by kernel_rfl) (by simp) ?_
          refine AllReadyH.cons (o := _) rfl (fun K hK => ?_) AllReadyH.nil
          go_simp
          refine (DI.out _).mono ?_
          rintro e w2 ⟨rfl, g⟩
          replace gz := gz.trans g
          clear g
          first | (refine hK.out _ _ ?_ (fun hHeld => ?_)) | (go_wp2_with fail; refine hK.out _ _ ?_ (fun hHeld => ?_))
          · (try dsimp only); (repeat (first | assumption | exact grown_refl _ | refine grown_dr ?_ | refine grown_dn ?_ | refine grown_al ?_))
          clear hK K
          refine wpAnyH_take (i := 24) (oi := _) (v := .string ⟨(SS ++ 32 :: SI).toArray⟩) rfl (by kernel_rfl) (by kernel_rfl) (by kernel_rfl) (fun _ _ _ h => h) (Or.inl ⟨by kernel_rfl, ?_⟩) (by assumption) ?_
          · (intro w hSw; (try dsimp only at hSw); go_simp; first | done | with_reducible rfl | ((try rw [if_neg (by omega)]); congr 2; done) | ((try rw [if_neg (by omega)]); congr 3; apply ByteArray.ext; simp; done) | ((try rw [if_neg (by omega)]); congr 2; apply ByteArray.ext; simp; done))
          try go_simp
          refine wpAnyH_take (i := 25) (oi := _) (v := .string ⟨(SS ++ 32 :: (SI ++ [32])).toArray⟩) rfl (by kernel_rfl) (by kernel_rfl) (by kernel_rfl) (fun _ _ _ h => h) (Or.inl ⟨by kernel_rfl, ?_⟩) (by assumption) ?_
          · (intro w hSw; (try dsimp only at hSw); go_simp; first | done | with_reducible rfl | ((try rw [if_neg (by omega)]); congr 2; done) | ((try rw [if_neg (by omega)]); congr 3; apply ByteArray.ext; simp; done) | ((try rw [if_neg (by omega)]); congr 2; apply ByteArray.ext; simp; done))
          try go_simp
          refine wpAnyH_take (i := 27) (oi := _) (v := .string ⟨(SS ++ 32 :: (SI ++ 32 :: a)).toArray⟩) rfl (by kernel_rfl) (by kernel_rfl) (by kernel_rfl) (fun _ _ _ h => h) (Or.inl ⟨by kernel_rfl, ?_⟩) (by assumption) ?_
          · (intro w hSw; (try dsimp only at hSw); go_simp; first | done | with_reducible rfl | ((try rw [if_neg (by omega)]); congr 2; done) | ((try rw [if_neg (by omega)]); congr 3; apply ByteArray.ext; simp; done) | ((try rw [if_neg (by omega)]); congr 2; apply ByteArray.ext; simp; done))
          try go_simp
          refine wpAnyH_ready (rs := [29]) (by kernel_rfl) (by simp) ?_
          refine AllReadyH.cons (o := _) rfl (fun K hK => ?_) AllReadyH.nil
          go_simp
          refine (CH.out _).mono ?_
          rintro e w2 ⟨rfl, g⟩
          replace gz := gz.trans g
          clear g
          first | (refine hK.out _ _ ?_ (fun hHeld => ?_)) | (go_wp2_with fail; refine hK.out _ _ ?_ (fun hHeld => ?_))
          · (try dsimp only); (repeat (first | assumption | exact grown_refl _ | refine grown_dr ?_ | refine grown_dn ?_ | refine grown_al ?_))
          clear hK K
          refine wpAnyH_take (i := 30) (oi := _) (v := ?_) rfl (by kernel_rfl) (by kernel_rfl) (by kernel_rfl) (fun _ _ _ h => h) (Or.inl ⟨by kernel_rfl, ?_⟩) (by assumption) ?_
          rotate_left 1
          · (intro w hSw; (try dsimp only at hSw); go_simp; first | done | with_reducible rfl)
          try go_simp
          refine wpAnyH_take (i := 31) (oi := _) (v := ?_) rfl (by kernel_rfl) (by kernel_rfl) (by kernel_rfl) (fun _ _ _ h => h) (Or.inl ⟨by rfl, ?_⟩) (by assumption) ?_
          rotate_left 1
          · (intro w hSw; (try dsimp only at hSw); go_simp; first | done | with_reducible rfl)
          try go_simp
          refine wpAnyH_done (by kernel_rfl) ?_ _
          refine NoPanic.normal ?_
          go_simp
          go_wp2_with fail
          go_roundw
          case rel => exact ⟨k + 1, by omega, by go_num, g6.trans gz⟩
          case measure => simp [intOf]; omega
        · have q2 : E2 = 11 := by rw [HV2.out, if_pos (by simpa using d2)]
          subst q2
          have gz : w13.grownBy w13.drew none := grown_dr (grown_refl _)
          refine wp_region_noPanic ?_
          refine wp_region_held_drew (S := (fun w' => w13.grownBy w' none)) (by kernel_rfl) ?_ (fun hHeld => ?_)
          · (try dsimp only); (repeat (first | assumption | exact grown_refl _ | refine grown_dr ?_ | refine grown_dn ?_ | refine grown_al ?_))
          refine wpAnyH_take (i := 0) (oi := _) (v := ?_) rfl (by kernel_rfl) (by kernel_rfl) (by kernel_rfl) (fun _ _ _ h => h) (Or.inl ⟨by rfl, ?_⟩) (by assumption) ?_
          rotate_left 1
          · (intro w hSw; (try dsimp only at hSw); go_simp; first | done | with_reducible rfl)
          try go_simp
          refine wpAnyH_take (i := 1) (oi := _) (v := ?_) rfl (by kernel_rfl) (by kernel_rfl) (by kernel_rfl) (fun _ _ _ h => h) (Or.inl ⟨by rfl, ?_⟩) (by assumption) ?_
          rotate_left 1
          · (intro w hSw; (try dsimp only at hSw); go_simp; first | done | with_reducible rfl)
          try go_simp
          refine wpAnyH_take (i := 2) (oi := _) (v := ?_) rfl (by kernel_rfl) (by kernel_rfl) (by kernel_rfl) (fun _ _ _ h => h) (Or.inl ⟨by rfl, ?_⟩) (by assumption) ?_
          rotate_left 1
          · (intro w hSw; (try dsimp only at hSw); go_simp; first | done | with_reducible rfl)
          try go_simp
          refine wpAnyH_take (i := 3) (oi := _) (v := ?_) rfl (by kernel_rfl) (by kernel_rfl) (by kernel_rfl) (fun _ _ _ h => h) (Or.inl ⟨by rfl, ?_⟩) (by assumption) ?_
          rotate_left 1
          · (intro w hSw; (try dsimp only at hSw); go_simp; first | done | with_reducible rfl)
          try go_simp
          refine wpAnyH_take (i := 4) (oi := _) (v := .bool true) rfl (by kernel_rfl) (by kernel_rfl) (by kernel_rfl) (fun _ _ _ h => h) (Or.inl ⟨by kernel_rfl, ?_⟩) (by assumption) ?_
          · (intro w hSw; (try dsimp only at hSw); go_simp; first | done | with_reducible rfl)
          try go_simp
          refine wpAnyH_take (i := 5) (oi := _) (v := ?_) rfl (by kernel_rfl) (by kernel_rfl) (by kernel_rfl) (fun _ _ _ h => h) (Or.inl ⟨by rfl, ?_⟩) (by assumption) ?_
          rotate_left 1
          · (intro w hSw; (try dsimp only at hSw); go_simp; first | done | with_reducible rfl)
          try go_simp
          refine wpAnyH_take (i := 6) (oi := _) (v := ?_) rfl (by kernel_rfl) (by kernel_rfl) (by kernel_rfl) (fun _ _ _ h => h) (Or.inl ⟨by rfl, ?_⟩) (by assumption) ?_
          rotate_left 1
          · (intro w hSw; (try dsimp only at hSw); go_simp; first | done | with_reducible rfl)
          try go_simp
          refine wpAnyH_take (i := 7) (oi := _) (v := ?_) rfl (by kernel_rfl) (by kernel_rfl) (by kernel_rfl) (fun _ _ _ h => h) (Or.inl ⟨by kernel_rfl, ?_⟩) (by assumption) ?_
          rotate_left 1
          · (intro w hSw; (try dsimp only at hSw); go_simp; first | done | with_reducible rfl)
          try go_simp
          refine wpAnyH_take (i := 8) (oi := _) (v := ?_) rfl (by kernel_rfl) (by kernel_rfl) (by kernel_rfl) (fun _ _ _ h => h) (Or.inl ⟨by kernel_rfl, ?_⟩) (by assumption) ?_
          rotate_left 1
          · (intro w hSw; (try dsimp only at hSw); go_simp; first | done | with_reducible rfl)
          try go_simp
          refine wpAnyH_take (i := 9) (oi := _) (v := ?_) rfl (by kernel_rfl) (by kernel_rfl) (by kernel_rfl) (fun _ _ _ h => h) (Or.inl ⟨by kernel_rfl, ?_⟩) (by assumption) ?_
          rotate_left 1
          · (intro w hSw; (try dsimp only at hSw); go_simp; first | done | with_reducible rfl)
          try go_simp
          refine wpAnyH_take (i := 10) (oi := _) (v := ?_) rfl (by kernel_rfl) (by kernel_rfl) (by kernel_rfl) (fun _ _ _ h => h) (Or.inl ⟨by kernel_rfl, ?_⟩) (by assumption) ?_
          rotate_left 1
          · (intro w hSw; (try dsimp only at hSw); go_simp; first | done | with_reducible rfl)
          try go_simp
          refine wpAnyH_take (i := 11) (oi := _) (v := .bool false) rfl (by kernel_rfl) (by kernel_rfl) (by kernel_rfl) (fun _ _ _ h => h) (Or.inl ⟨by kernel_rfl, ?_⟩) (by assumption) ?_
          · (intro w hSw; (try dsimp only at hSw); go_simp; (first | done | (simp [d2]; done) | (simpa using d2)))
          try go_simp
          refine wpAnyH_take (i := 12) (oi := _) (v := ?_) rfl (by kernel_rfl) (by kernel_rfl) (by kernel_rfl) (fun _ _ _ h => h) (Or.inl ⟨by kernel_rfl, ?_⟩) (by assumption) ?_
          rotate_left 1
          · (intro w hSw; (try dsimp only at hSw); go_simp; first | done | with_reducible rfl)
          try go_simp
          refine wpAnyH_take (i := 13) (oi := _) (v := ?_) rfl (by kernel_rfl) (by kernel_rfl) (by kernel_rfl) (fun _ _ _ h => h) (Or.inl ⟨by rfl, ?_⟩) (by assumption) ?_
          rotate_left 1
          · (intro w hSw; (try dsimp only at hSw); go_simp; first | done | with_reducible rfl)
          try go_simp
          refine wpAnyH_take (i := 14) (oi := _) (v := ?_) rfl (by kernel_rfl) (by kernel_rfl) (by kernel_rfl) (fun _ _ _ h => h) (Or.inl ⟨by rfl, ?_⟩) (by assumption) ?_
          rotate_left 1
          · (intro w hSw; (try dsimp only at hSw); go_simp; first | done | with_reducible rfl)
          try go_simp
          refine wpAnyH_take (i := 15) (oi := _) (v := ?_) rfl (by kernel_rfl) (by kernel_rfl) (by kernel_rfl) (fun _ _ _ h => h) (Or.inl ⟨by kernel_rfl, ?_⟩) (by assumption) ?_
          rotate_left 1
          · (intro w hSw; (try dsimp only at hSw); go_simp; first | done | with_reducible rfl)
          try go_simp
          refine wpAnyH_take (i := 16) (oi := _) (v := .string ⟨xs.toArray⟩) rfl (by kernel_rfl) (by kernel_rfl) (by kernel_rfl) (fun _ _ _ h => h) (Or.inl ⟨by kernel_rfl, ?_⟩) (by assumption) ?_
          · (intro w hSw; (try dsimp only at hSw); go_simp; have y0 := gcell hSw z1; clear hSw; go_simp; first | done | with_reducible rfl)
          try go_simp
          refine wpAnyH_take (i := 17) (oi := _) (v := ?_) rfl (by kernel_rfl) (by kernel_rfl) (by kernel_rfl) (fun _ _ _ h => h) (Or.inl ⟨by kernel_rfl, ?_⟩) (by assumption) ?_
          rotate_left 1
          · (intro w hSw; (try dsimp only at hSw); go_simp; first | done | with_reducible rfl)
          try go_simp
          refine wpAnyH_take (i := 18) (oi := _) (v := .int .i64 s) rfl (by kernel_rfl) (by kernel_rfl) (by kernel_rfl) (fun _ _ _ h => h) (Or.inl ⟨by kernel_rfl, ?_⟩) (by assumption) ?_
          · (intro w hSw; (try dsimp only at hSw); go_simp; have y0 := gcell hSw a0; clear hSw; go_simp; first | done | with_reducible rfl)
          try go_simp
          refine wpAnyH_take (i := 21) (oi := _) (v := ?_) rfl (by kernel_rfl) (by kernel_rfl) (by kernel_rfl) (fun _ _ _ h => h) (Or.inl ⟨by kernel_rfl, ?_⟩) (by assumption) ?_
          rotate_left 1
          · (intro w hSw; (try dsimp only at hSw); go_simp; first | done | with_reducible rfl)
          try go_simp
          refine wpAnyH_take (i := 22) (oi := _) (v := .int .i64 xi) rfl (by kernel_rfl) (by kernel_rfl) (by kernel_rfl) (fun _ _ _ h => h) (Or.inl ⟨by kernel_rfl, ?_⟩) (by assumption) ?_
          · (intro w hSw; (try dsimp only at hSw); go_simp; have y0 := gcell hSw z0; clear hSw; go_simp; first | done | with_reducible rfl)
          try go_simp
          refine wpAnyH_take (i := 26) (oi := _) (v := ?_) rfl (by kernel_rfl) (by kernel_rfl) (by kernel_rfl) (fun _ _ _ h => h) (Or.inl ⟨by kernel_rfl, ?_⟩) (by assumption) ?_
          rotate_left 1
          · (intro w hSw; (try dsimp only at hSw); go_simp; first | done | with_reducible rfl)
          try go_simp
          refine wpAnyH_take (i := 28) (oi := _) (v := ?_) rfl (by kernel_rfl) (by kernel_rfl) (by kernel_rfl) (fun _ _ _ h => h) (Or.inl ⟨by kernel_rfl, ?_⟩) (by assumption) ?_
          rotate_left 1
          · (intro w hSw; (try dsimp only at hSw); go_simp; first | done | with_reducible rfl)
          try go_simp
          refine wpAnyH_ready (rs := [19]) (by kernel_rfl) (by simp) ?_
          refine AllReadyH.cons (o := _) rfl (fun K hK => ?_) AllReadyH.nil
          go_simp
          refine (DS.out _).mono ?_
          rintro e w2 ⟨rfl, g⟩
          replace gz := gz.trans g
          clear g
          first | (refine hK.out _ _ ?_ (fun hHeld => ?_)) | (go_wp2_with fail; refine hK.out _ _ ?_ (fun hHeld => ?_))
          · (try dsimp only); (repeat (first | assumption | exact grown_refl _ | refine grown_dr ?_ | refine grown_dn ?_ | refine grown_al ?_))
          clear hK K
          refine wpAnyH_take (i := 20) (oi := _) (v := .string ⟨(SS ++ [32]).toArray⟩) rfl (by kernel_rfl) (by kernel_rfl) (by kernel_rfl) (fun _ _ _ h => h) (Or.inl ⟨by kernel_rfl, ?_⟩) (by assumption) ?_
          · (intro w hSw; (try dsimp only at hSw); go_simp; first | done | with_reducible rfl | ((try rw [if_neg (by omega)]); congr 2; done) | ((try rw [if_neg (by omega)]); congr 3; apply ByteArray.ext; simp; done) | ((try rw [if_neg (by omega)]); congr 2; apply ByteArray.ext; simp; done))
          try go_simp
          refine wpAnyH_ready (rs := [23]) (by kernel_rfl) (by simp) ?_
          refine AllReadyH.cons (o := _) rfl (fun K hK => ?_) AllReadyH.nil
          go_simp
          refine (DI.out _).mono ?_
          rintro e w2 ⟨rfl, g⟩
          replace gz := gz.trans g
          clear g
          first | (refine hK.out _ _ ?_ (fun hHeld => ?_)) | (go_wp2_with fail; refine hK.out _ _ ?_ (fun hHeld => ?_))
          · (try dsimp only); (repeat (first | assumption | exact grown_refl _ | refine grown_dr ?_ | refine grown_dn ?_ | refine grown_al ?_))
          clear hK K
          refine wpAnyH_take (i := 24) (oi := _) (v := .string ⟨(SS ++ 32 :: SI).toArray⟩) rfl (by kernel_rfl) (by kernel_rfl) (by kernel_rfl) (fun _ _ _ h => h) (Or.inl ⟨by kernel_rfl, ?_⟩) (by assumption) ?_
          · (intro w hSw; (try dsimp only at hSw); go_simp; first | done | with_reducible rfl | ((try rw [if_neg (by omega)]); congr 2; done) | ((try rw [if_neg (by omega)]); congr 3; apply ByteArray.ext; simp; done) | ((try rw [if_neg (by omega)]); congr 2; apply ByteArray.ext; simp; done))
          try go_simp
          refine wpAnyH_take (i := 25) (oi := _) (v := .string ⟨(SS ++ 32 :: (SI ++ [32])).toArray⟩) rfl (by kernel_rfl) (by kernel_rfl) (by kernel_rfl) (fun _ _ _ h => h) (Or.inl ⟨by kernel_rfl, ?_⟩) (by assumption) ?_
          · (intro w hSw; (try dsimp only at hSw); go_simp; first | done | with_reducible rfl | ((try rw [if_neg (by omega)]); congr 2; done) | ((try rw [if_neg (by omega)]); congr 3; apply ByteArray.ext; simp; done) | ((try rw [if_neg (by omega)]); congr 2; apply ByteArray.ext; simp; done))
          try go_simp
          refine wpAnyH_take (i := 27) (oi := _) (v := .string ⟨(SS ++ 32 :: (SI ++ 32 :: a)).toArray⟩) rfl (by kernel_rfl) (by kernel_rfl) (by kernel_rfl) (fun _ _ _ h => h) (Or.inl ⟨by kernel_rfl, ?_⟩) (by assumption) ?_
          · (intro w hSw; (try dsimp only at hSw); go_simp; first | done | with_reducible rfl | ((try rw [if_neg (by omega)]); congr 2; done) | ((try rw [if_neg (by omega)]); congr 3; apply ByteArray.ext; simp; done) | ((try rw [if_neg (by omega)]); congr 2; apply ByteArray.ext; simp; done))
          try go_simp
          refine wpAnyH_ready (rs := [29]) (by kernel_rfl) (by simp) ?_
          refine AllReadyH.cons (o := _) rfl (fun K hK => ?_) AllReadyH.nil
          go_simp
          refine (CH.out _).mono ?_
          rintro e w2 ⟨rfl, g⟩
          replace gz := gz.trans g
          clear g
          first | (refine hK.out _ _ ?_ (fun hHeld => ?_)) | (go_wp2_with fail; refine hK.out _ _ ?_ (fun hHeld => ?_))
          · (try dsimp only); (repeat (first | assumption | exact grown_refl _ | refine grown_dr ?_ | refine grown_dn ?_ | refine grown_al ?_))
          clear hK K
          refine wpAnyH_take (i := 30) (oi := _) (v := ?_) rfl (by kernel_rfl) (by kernel_rfl) (by kernel_rfl) (fun _ _ _ h => h) (Or.inl ⟨by kernel_rfl, ?_⟩) (by assumption) ?_
          rotate_left 1
          · (intro w hSw; (try dsimp only at hSw); go_simp; first | done | with_reducible rfl)
          try go_simp
          refine wpAnyH_take (i := 31) (oi := _) (v := ?_) rfl (by kernel_rfl) (by kernel_rfl) (by kernel_rfl) (fun _ _ _ h => h) (Or.inl ⟨by rfl, ?_⟩) (by assumption) ?_
          rotate_left 1
          · (intro w hSw; (try dsimp only at hSw); go_simp; first | done | with_reducible rfl)
          try go_simp
          refine wpAnyH_done (by kernel_rfl) ?_ _
          refine NoPanic.normal ?_
          go_simp
          go_wp2_with fail
          go_roundw
          case rel => exact ⟨k + 1, by omega, by go_num, g6.trans gz⟩
          case measure => simp [intOf]; omega
      · have q1 : E1 = 11 := by rw [HV1.out, if_pos (by simpa using d1)]
        subst q1
        by_cases d2 : MA = MC
        · have q2 : E2 = 0 := by rw [HV2.out, d2]; simp
          subst q2 d2
          have gz : w13.grownBy w13.drew none := grown_dr (grown_refl _)
          refine wp_region_noPanic ?_
          refine wp_region_held_drew (S := (fun w' => w13.grownBy w' none)) (by kernel_rfl) ?_ (fun hHeld => ?_)
          · (try dsimp only); (repeat (first | assumption | exact grown_refl _ | refine grown_dr ?_ | refine grown_dn ?_ | refine grown_al ?_))
          refine wpAnyH_take (i := 0) (oi := _) (v := ?_) rfl (by kernel_rfl) (by kernel_rfl) (by kernel_rfl) (fun _ _ _ h => h) (Or.inl ⟨by rfl, ?_⟩) (by assumption) ?_
          rotate_left 1
          · (intro w hSw; (try dsimp only at hSw); go_simp; first | done | with_reducible rfl)
          try go_simp
          refine wpAnyH_take (i := 1) (oi := _) (v := ?_) rfl (by kernel_rfl) (by kernel_rfl) (by kernel_rfl) (fun _ _ _ h => h) (Or.inl ⟨by rfl, ?_⟩) (by assumption) ?_
          rotate_left 1
          · (intro w hSw; (try dsimp only at hSw); go_simp; first | done | with_reducible rfl)
          try go_simp
          refine wpAnyH_take (i := 2) (oi := _) (v := ?_) rfl (by kernel_rfl) (by kernel_rfl) (by kernel_rfl) (fun _ _ _ h => h) (Or.inl ⟨by rfl, ?_⟩) (by assumption) ?_
          rotate_left 1
          · (intro w hSw; (try dsimp only at hSw); go_simp; first | done | with_reducible rfl)
          try go_simp
          refine wpAnyH_take (i := 3) (oi := _) (v := ?_) rfl (by kernel_rfl) (by kernel_rfl) (by kernel_rfl) (fun _ _ _ h => h) (Or.inl ⟨by rfl, ?_⟩) (by assumption) ?_
          rotate_left 1
          · (intro w hSw; (try dsimp only at hSw); go_simp; first | done | with_reducible rfl)
          try go_simp
          refine wpAnyH_take (i := 4) (oi := _) (v := .bool false) rfl (by kernel_rfl) (by kernel_rfl) (by kernel_rfl) (fun _ _ _ h => h) (Or.inl ⟨by kernel_rfl, ?_⟩) (by assumption) ?_
          · (intro w hSw; (try dsimp only at hSw); go_simp; (first | done | (simp [d1]; done) | (simpa using d1)))
          try go_simp
          refine wpAnyH_take (i := 5) (oi := _) (v := ?_) rfl (by kernel_rfl) (by kernel_rfl) (by kernel_rfl) (fun _ _ _ h => h) (Or.inl ⟨by rfl, ?_⟩) (by assumption) ?_
          rotate_left 1
          · (intro w hSw; (try dsimp only at hSw); go_simp; first | done | with_reducible rfl)
          try go_simp
          refine wpAnyH_take (i := 6) (oi := _) (v := ?_) rfl (by kernel_rfl) (by kernel_rfl) (by kernel_rfl) (fun _ _ _ h => h) (Or.inl ⟨by rfl, ?_⟩) (by assumption) ?_
          rotate_left 1
          · (intro w hSw; (try dsimp only at hSw); go_simp; first | done | with_reducible rfl)
          try go_simp
          refine wpAnyH_take (i := 7) (oi := _) (v := ?_) rfl (by kernel_rfl) (by kernel_rfl) (by kernel_rfl) (fun _ _ _ h => h) (Or.inl ⟨by kernel_rfl, ?_⟩) (by assumption) ?_
          rotate_left 1
          · (intro w hSw; (try dsimp only at hSw); go_simp; first | done | with_reducible rfl)
          try go_simp
          refine wpAnyH_take (i := 8) (oi := _) (v := ?_) rfl (by kernel_rfl) (by kernel_rfl) (by kernel_rfl) (fun _ _ _ h => h) (Or.inl ⟨by kernel_rfl, ?_⟩) (by assumption) ?_
          rotate_left 1
          · (intro w hSw; (try dsimp only at hSw); go_simp; first | done | with_reducible rfl)
          try go_simp
          refine wpAnyH_take (i := 9) (oi := _) (v := ?_) rfl (by kernel_rfl) (by kernel_rfl) (by kernel_rfl) (fun _ _ _ h => h) (Or.inl ⟨by kernel_rfl, ?_⟩) (by assumption) ?_
          rotate_left 1
          · (intro w hSw; (try dsimp only at hSw); go_simp; first | done | with_reducible rfl)
          try go_simp
          refine wpAnyH_take (i := 10) (oi := _) (v := ?_) rfl (by kernel_rfl) (by kernel_rfl) (by kernel_rfl) (fun _ _ _ h => h) (Or.inl ⟨by kernel_rfl, ?_⟩) (by assumption) ?_
          rotate_left 1
          · (intro w hSw; (try dsimp only at hSw); go_simp; first | done | with_reducible rfl)
          try go_simp
          refine wpAnyH_take (i := 11) (oi := _) (v := .bool true) rfl (by kernel_rfl) (by kernel_rfl) (by kernel_rfl) (fun _ _ _ h => h) (Or.inl ⟨by kernel_rfl, ?_⟩) (by assumption) ?_
          · (intro w hSw; (try dsimp only at hSw); go_simp; first | done | with_reducible rfl)
          try go_simp
          refine wpAnyH_take (i := 12) (oi := _) (v := ?_) rfl (by kernel_rfl) (by kernel_rfl) (by kernel_rfl) (fun _ _ _ h => h) (Or.inl ⟨by kernel_rfl, ?_⟩) (by assumption) ?_
          rotate_left 1
          · (intro w hSw; (try dsimp only at hSw); go_simp; first | done | with_reducible rfl)
          try go_simp
          refine wpAnyH_take (i := 13) (oi := _) (v := ?_) rfl (by kernel_rfl) (by kernel_rfl) (by kernel_rfl) (fun _ _ _ h => h) (Or.inl ⟨by rfl, ?_⟩) (by assumption) ?_
          rotate_left 1
          · (intro w hSw; (try dsimp only at hSw); go_simp; first | done | with_reducible rfl)
          try go_simp
          refine wpAnyH_take (i := 14) (oi := _) (v := ?_) rfl (by kernel_rfl) (by kernel_rfl) (by kernel_rfl) (fun _ _ _ h => h) (Or.inl ⟨by rfl, ?_⟩) (by assumption) ?_
          rotate_left 1
          · (intro w hSw; (try dsimp only at hSw); go_simp; first | done | with_reducible rfl)
          try go_simp
          refine wpAnyH_take (i := 15) (oi := _) (v := ?_) rfl (by kernel_rfl) (by kernel_rfl) (by kernel_rfl) (fun _ _ _ h => h) (Or.inl ⟨by kernel_rfl, ?_⟩) (by assumption) ?_
          rotate_left 1
          · (intro w hSw; (try dsimp only at hSw); go_simp; first | done | with_reducible rfl)
          try go_simp
          refine wpAnyH_take (i := 16) (oi := _) (v := .string ⟨xs.toArray⟩) rfl (by kernel_rfl) (by kernel_rfl) (by kernel_rfl) (fun _ _ _ h => h) (Or.inl ⟨by kernel_rfl, ?_⟩) (by assumption) ?_
          · (intro w hSw; (try dsimp only at hSw); go_simp; have y0 := gcell hSw z1; clear hSw; go_simp; first | done | with_reducible rfl)
          try go_simp
          refine wpAnyH_take (i := 17) (oi := _) (v := ?_) rfl (by kernel_rfl) (by kernel_rfl) (by kernel_rfl) (fun _ _ _ h => h) (Or.inl ⟨by kernel_rfl, ?_⟩) (by assumption) ?_
          rotate_left 1
          · (intro w hSw; (try dsimp only at hSw); go_simp; first | done | with_reducible rfl)
          try go_simp
          refine wpAnyH_take (i := 18) (oi := _) (v := .int .i64 s) rfl (by kernel_rfl) (by kernel_rfl) (by kernel_rfl) (fun _ _ _ h => h) (Or.inl ⟨by kernel_rfl, ?_⟩) (by assumption) ?_
          · (intro w hSw; (try dsimp only at hSw); go_simp; have y0 := gcell hSw a0; clear hSw; go_simp; first | done | with_reducible rfl)
          try go_simp
          refine wpAnyH_take (i := 21) (oi := _) (v := ?_) rfl (by kernel_rfl) (by kernel_rfl) (by kernel_rfl) (fun _ _ _ h => h) (Or.inl ⟨by kernel_rfl, ?_⟩) (by assumption) ?_
          rotate_left 1
          · (intro w hSw; (try dsimp only at hSw); go_simp; first | done | with_reducible rfl)
          try go_simp
          refine wpAnyH_take (i := 22) (oi := _) (v := .int .i64 xi) rfl (by kernel_rfl) (by kernel_rfl) (by kernel_rfl) (fun _ _ _ h => h) (Or.inl ⟨by kernel_rfl, ?_⟩) (by assumption) ?_
          · (intro w hSw; (try dsimp only at hSw); go_simp; have y0 := gcell hSw z0; clear hSw; go_simp; first | done | with_reducible rfl)
          try go_simp
          refine wpAnyH_take (i := 26) (oi := _) (v := ?_) rfl (by kernel_rfl) (by kernel_rfl) (by kernel_rfl) (fun _ _ _ h => h) (Or.inl ⟨by kernel_rfl, ?_⟩) (by assumption) ?_
          rotate_left 1
          · (intro w hSw; (try dsimp only at hSw); go_simp; first | done | with_reducible rfl)
          try go_simp
          refine wpAnyH_take (i := 28) (oi := _) (v := ?_) rfl (by kernel_rfl) (by kernel_rfl) (by kernel_rfl) (fun _ _ _ h => h) (Or.inl ⟨by kernel_rfl, ?_⟩) (by assumption) ?_
          rotate_left 1
          · (intro w hSw; (try dsimp only at hSw); go_simp; first | done | with_reducible rfl)
          try go_simp
          refine wpAnyH_ready (rs := [19]) (by kernel_rfl) (by simp) ?_
          refine AllReadyH.cons (o := _) rfl (fun K hK => ?_) AllReadyH.nil
          go_simp
          refine (DS.out _).mono ?_
          rintro e w2 ⟨rfl, g⟩
          replace gz := gz.trans g
          clear g
          first | (refine hK.out _ _ ?_ (fun hHeld => ?_)) | (go_wp2_with fail; refine hK.out _ _ ?_ (fun hHeld => ?_))
          · (try dsimp only); (repeat (first | assumption | exact grown_refl _ | refine grown_dr ?_ | refine grown_dn ?_ | refine grown_al ?_))
          clear hK K
          refine wpAnyH_take (i := 20) (oi := _) (v := .string ⟨(SS ++ [32]).toArray⟩) rfl (by kernel_rfl) (by kernel_rfl) (by kernel_rfl) (fun _ _ _ h => h) (Or.inl ⟨by kernel_rfl, ?_⟩) (by assumption) ?_
          · (intro w hSw; (try dsimp only at hSw); go_simp; first | done | with_reducible rfl | ((try rw [if_neg (by omega)]); congr 2; done) | ((try rw [if_neg (by omega)]); congr 3; apply ByteArray.ext; simp; done) | ((try rw [if_neg (by omega)]); congr 2; apply ByteArray.ext; simp; done))
          try go_simp
          refine wpAnyH_ready (rs := [23]) (by kernel_rfl) (by simp) ?_
          refine AllReadyH.cons (o := _) rfl (fun K hK => ?_) AllReadyH.nil
          go_simp
          refine (DI.out _).mono ?_
          rintro e w2 ⟨rfl, g⟩
          replace gz := gz.trans g
          clear g
          first | (refine hK.out _ _ ?_ (fun hHeld => ?_)) | (go_wp2_with fail; refine hK.out _ _ ?_ (fun hHeld => ?_))
          · (try dsimp only); (repeat (first | assumption | exact grown_refl _ | refine grown_dr ?_ | refine grown_dn ?_ | refine grown_al ?_))
          clear hK K
          refine wpAnyH_take (i := 24) (oi := _) (v := .string ⟨(SS ++ 32 :: SI).toArray⟩) rfl (by kernel_rfl) (by kernel_rfl) (by kernel_rfl) (fun _ _ _ h => h) (Or.inl ⟨by kernel_rfl, ?_⟩) (by assumption) ?_
          · (intro w hSw; (try dsimp only at hSw); go_simp; first | done | with_reducible rfl | ((try rw [if_neg (by omega)]); congr 2; done) | ((try rw [if_neg (by omega)]); congr 3; apply ByteArray.ext; simp; done) | ((try rw [if_neg (by omega)]); congr 2; apply ByteArray.ext; simp; done))
          try go_simp
          refine wpAnyH_take (i := 25) (oi := _) (v := .string ⟨(SS ++ 32 :: (SI ++ [32])).toArray⟩) rfl (by kernel_rfl) (by kernel_rfl) (by kernel_rfl) (fun _ _ _ h => h) (Or.inl ⟨by kernel_rfl, ?_⟩) (by assumption) ?_
          · (intro w hSw; (try dsimp only at hSw); go_simp; first | done | with_reducible rfl | ((try rw [if_neg (by omega)]); congr 2; done) | ((try rw [if_neg (by omega)]); congr 3; apply ByteArray.ext; simp; done) | ((try rw [if_neg (by omega)]); congr 2; apply ByteArray.ext; simp; done))
          try go_simp
          refine wpAnyH_take (i := 27) (oi := _) (v := .string ⟨(SS ++ 32 :: (SI ++ 32 :: a)).toArray⟩) rfl (by kernel_rfl) (by kernel_rfl) (by kernel_rfl) (fun _ _ _ h => h) (Or.inl ⟨by kernel_rfl, ?_⟩) (by assumption) ?_
          · (intro w hSw; (try dsimp only at hSw); go_simp; first | done | with_reducible rfl | ((try rw [if_neg (by omega)]); congr 2; done) | ((try rw [if_neg (by omega)]); congr 3; apply ByteArray.ext; simp; done) | ((try rw [if_neg (by omega)]); congr 2; apply ByteArray.ext; simp; done))
          try go_simp
          refine wpAnyH_ready (rs := [29]) (by kernel_rfl) (by simp) ?_
          refine AllReadyH.cons (o := _) rfl (fun K hK => ?_) AllReadyH.nil
          go_simp
          refine (CH.out _).mono ?_
          rintro e w2 ⟨rfl, g⟩
          replace gz := gz.trans g
          clear g
          first | (refine hK.out _ _ ?_ (fun hHeld => ?_)) | (go_wp2_with fail; refine hK.out _ _ ?_ (fun hHeld => ?_))
          · (try dsimp only); (repeat (first | assumption | exact grown_refl _ | refine grown_dr ?_ | refine grown_dn ?_ | refine grown_al ?_))
          clear hK K
          refine wpAnyH_take (i := 30) (oi := _) (v := ?_) rfl (by kernel_rfl) (by kernel_rfl) (by kernel_rfl) (fun _ _ _ h => h) (Or.inl ⟨by kernel_rfl, ?_⟩) (by assumption) ?_
          rotate_left 1
          · (intro w hSw; (try dsimp only at hSw); go_simp; first | done | with_reducible rfl)
          try go_simp
          refine wpAnyH_take (i := 31) (oi := _) (v := ?_) rfl (by kernel_rfl) (by kernel_rfl) (by kernel_rfl) (fun _ _ _ h => h) (Or.inl ⟨by rfl, ?_⟩) (by assumption) ?_
          rotate_left 1
          · (intro w hSw; (try dsimp only at hSw); go_simp; first | done | with_reducible rfl)
          try go_simp
          refine wpAnyH_done (by kernel_rfl) ?_ _
          refine NoPanic.normal ?_
          go_simp
          go_wp2_with fail
          go_roundw
          case rel => exact ⟨k + 1, by omega, by go_num, g6.trans gz⟩
          case measure => simp [intOf]; omega
        · have q2 : E2 = 11 := by rw [HV2.out, if_pos (by simpa using d2)]
          subst q2
          have gz : w13.grownBy w13.drew none := grown_dr (grown_refl _)
          refine wp_region_noPanic ?_
          refine wp_region_held_drew (S := (fun w' => w13.grownBy w' none)) (by kernel_rfl) ?_ (fun hHeld => ?_)
          · (try dsimp only); (repeat (first | assumption | exact grown_refl _ | refine grown_dr ?_ | refine grown_dn ?_ | refine grown_al ?_))
          refine wpAnyH_take (i := 0) (oi := _) (v := ?_) rfl (by kernel_rfl) (by kernel_rfl) (by kernel_rfl) (fun _ _ _ h => h) (Or.inl ⟨by rfl, ?_⟩) (by assumption) ?_
          rotate_left 1
          · (intro w hSw; (try dsimp only at hSw); go_simp; first | done | with_reducible rfl)
          try go_simp
          refine wpAnyH_take (i := 1) (oi := _) (v := ?_) rfl (by kernel_rfl) (by kernel_rfl) (by kernel_rfl) (fun _ _ _ h => h) (Or.inl ⟨by rfl, ?_⟩) (by assumption) ?_
          rotate_left 1
          · (intro w hSw; (try dsimp only at hSw); go_simp; first | done | with_reducible rfl)
          try go_simp
          refine wpAnyH_take (i := 2) (oi := _) (v := ?_) rfl (by kernel_rfl) (by kernel_rfl) (by kernel_rfl) (fun _ _ _ h => h) (Or.inl ⟨by rfl, ?_⟩) (by assumption) ?_
          rotate_left 1
          · (intro w hSw; (try dsimp only at hSw); go_simp; first | done | with_reducible rfl)
          try go_simp
          refine wpAnyH_take (i := 3) (oi := _) (v := ?_) rfl (by kernel_rfl) (by kernel_rfl) (by kernel_rfl) (fun _ _ _ h => h) (Or.inl ⟨by rfl, ?_⟩) (by assumption) ?_
          rotate_left 1
          · (intro w hSw; (try dsimp only at hSw); go_simp; first | done | with_reducible rfl)
          try go_simp
          refine wpAnyH_take (i := 4) (oi := _) (v := .bool false) rfl (by kernel_rfl) (by kernel_rfl) (by kernel_rfl) (fun _ _ _ h => h) (Or.inl ⟨by kernel_rfl, ?_⟩) (by assumption) ?_
          · (intro w hSw; (try dsimp only at hSw); go_simp; (first | done | (simp [d1]; done) | (simpa using d1)))
          try go_simp
          refine wpAnyH_take (i := 5) (oi := _) (v := ?_) rfl (by kernel_rfl) (by kernel_rfl) (by kernel_rfl) (fun _ _ _ h => h) (Or.inl ⟨by rfl, ?_⟩) (by assumption) ?_
          rotate_left 1
          · (intro w hSw; (try dsimp only at hSw); go_simp; first | done | with_reducible rfl)
          try go_simp
          refine wpAnyH_take (i := 6) (oi := _) (v := ?_) rfl (by kernel_rfl) (by kernel_rfl) (by kernel_rfl) (fun _ _ _ h => h) (Or.inl ⟨by rfl, ?_⟩) (by assumption) ?_
          rotate_left 1
          · (intro w hSw; (try dsimp only at hSw); go_simp; first | done | with_reducible rfl)
          try go_simp
          refine wpAnyH_take (i := 7) (oi := _) (v := ?_) rfl (by kernel_rfl) (by kernel_rfl) (by kernel_rfl) (fun _ _ _ h => h) (Or.inl ⟨by kernel_rfl, ?_⟩) (by assumption) ?_
          rotate_left 1
          · (intro w hSw; (try dsimp only at hSw); go_simp; first | done | with_reducible rfl)
          try go_simp
          refine wpAnyH_take (i := 8) (oi := _) (v := ?_) rfl (by kernel_rfl) (by kernel_rfl) (by kernel_rfl) (fun _ _ _ h => h) (Or.inl ⟨by kernel_rfl, ?_⟩) (by assumption) ?_
          rotate_left 1
          · (intro w hSw; (try dsimp only at hSw); go_simp; first | done | with_reducible rfl)
          try go_simp
          refine wpAnyH_take (i := 9) (oi := _) (v := ?_) rfl (by kernel_rfl) (by kernel_rfl) (by kernel_rfl) (fun _ _ _ h => h) (Or.inl ⟨by kernel_rfl, ?_⟩) (by assumption) ?_
          rotate_left 1
          · (intro w hSw; (try dsimp only at hSw); go_simp; first | done | with_reducible rfl)
          try go_simp
          refine wpAnyH_take (i := 10) (oi := _) (v := ?_) rfl (by kernel_rfl) (by kernel_rfl) (by kernel_rfl) (fun _ _ _ h => h) (Or.inl ⟨by kernel_rfl, ?_⟩) (by assumption) ?_
          rotate_left 1
          · (intro w hSw; (try dsimp only at hSw); go_simp; first | done | with_reducible rfl)
          try go_simp
          refine wpAnyH_take (i := 11) (oi := _) (v := .bool false) rfl (by kernel_rfl) (by kernel_rfl) (by kernel_rfl) (fun _ _ _ h => h) (Or.inl ⟨by kernel_rfl, ?_⟩) (by assumption) ?_
          · (intro w hSw; (try dsimp only at hSw); go_simp; (first | done | (simp [d2]; done) | (simpa using d2)))
          try go_simp
          refine wpAnyH_take (i := 12) (oi := _) (v := ?_) rfl (by kernel_rfl) (by kernel_rfl) (by kernel_rfl) (fun _ _ _ h => h) (Or.inl ⟨by kernel_rfl, ?_⟩) (by assumption) ?_
          rotate_left 1
          · (intro w hSw; (try dsimp only at hSw); go_simp; first | done | with_reducible rfl)
          try go_simp
          refine wpAnyH_take (i := 13) (oi := _) (v := ?_) rfl (by kernel_rfl) (by kernel_rfl) (by kernel_rfl) (fun _ _ _ h => h) (Or.inl ⟨by rfl, ?_⟩) (by assumption) ?_
          rotate_left 1
          · (intro w hSw; (try dsimp only at hSw); go_simp; first | done | with_reducible rfl)
          try go_simp
          refine wpAnyH_take (i := 14) (oi := _) (v := ?_) rfl (by kernel_rfl) (by kernel_rfl) (by kernel_rfl) (fun _ _ _ h => h) (Or.inl ⟨by rfl, ?_⟩) (by assumption) ?_
          rotate_left 1
          · (intro w hSw; (try dsimp only at hSw); go_simp; first | done | with_reducible rfl)
          try go_simp
          refine wpAnyH_take (i := 15) (oi := _) (v := ?_) rfl (by kernel_rfl) (by kernel_rfl) (by kernel_rfl) (fun _ _ _ h => h) (Or.inl ⟨by kernel_rfl, ?_⟩) (by assumption) ?_
          rotate_left 1
          · (intro w hSw; (try dsimp only at hSw); go_simp; first | done | with_reducible rfl)
          try go_simp
          refine wpAnyH_take (i := 16) (oi := _) (v := .string ⟨xs.toArray⟩) rfl (by kernel_rfl) (by kernel_rfl) (by kernel_rfl) (fun _ _ _ h => h) (Or.inl ⟨by kernel_rfl, ?_⟩) (by assumption) ?_
          · (intro w hSw; (try dsimp only at hSw); go_simp; have y0 := gcell hSw z1; clear hSw; go_simp; first | done | with_reducible rfl)
          try go_simp
          refine wpAnyH_take (i := 17) (oi := _) (v := ?_) rfl (by kernel_rfl) (by kernel_rfl) (by kernel_rfl) (fun _ _ _ h => h) (Or.inl ⟨by kernel_rfl, ?_⟩) (by assumption) ?_
          rotate_left 1
          · (intro w hSw; (try dsimp only at hSw); go_simp; first | done | with_reducible rfl)
          try go_simp
          refine wpAnyH_take (i := 18) (oi := _) (v := .int .i64 s) rfl (by kernel_rfl) (by kernel_rfl) (by kernel_rfl) (fun _ _ _ h => h) (Or.inl ⟨by kernel_rfl, ?_⟩) (by assumption) ?_
          · (intro w hSw; (try dsimp only at hSw); go_simp; have y0 := gcell hSw a0; clear hSw; go_simp; first | done | with_reducible rfl)
          try go_simp
          refine wpAnyH_take (i := 21) (oi := _) (v := ?_) rfl (by kernel_rfl) (by kernel_rfl) (by kernel_rfl) (fun _ _ _ h => h) (Or.inl ⟨by kernel_rfl, ?_⟩) (by assumption) ?_
          rotate_left 1
          · (intro w hSw; (try dsimp only at hSw); go_simp; first | done | with_reducible rfl)
          try go_simp
          refine wpAnyH_take (i := 22) (oi := _) (v := .int .i64 xi) rfl (by kernel_rfl) (by kernel_rfl) (by kernel_rfl) (fun _ _ _ h => h) (Or.inl ⟨by kernel_rfl, ?_⟩) (by assumption) ?_
          · (intro w hSw; (try dsimp only at hSw); go_simp; have y0 := gcell hSw z0; clear hSw; go_simp; first | done | with_reducible rfl)
          try go_simp
          refine wpAnyH_take (i := 26) (oi := _) (v := ?_) rfl (by kernel_rfl) (by kernel_rfl) (by kernel_rfl) (fun _ _ _ h => h) (Or.inl ⟨by kernel_rfl, ?_⟩) (by assumption) ?_
          rotate_left 1
          · (intro w hSw; (try dsimp only at hSw); go_simp; first | done | with_reducible rfl)
          try go_simp
          refine wpAnyH_take (i := 28) (oi := _) (v := ?_) rfl (by kernel_rfl) (by kernel_rfl) (by kernel_rfl) (fun _ _ _ h => h) (Or.inl ⟨by kernel_rfl, ?_⟩) (by assumption) ?_
          rotate_left 1
          · (intro w hSw; (try dsimp only at hSw); go_simp; first | done | with_reducible rfl)
          try go_simp
          refine wpAnyH_ready (rs := [19]) (by kernel_rfl) (by simp) ?_
          refine AllReadyH.cons (o := _) rfl (fun K hK => ?_) AllReadyH.nil
          go_simp
          refine (DS.out _).mono ?_
          rintro e w2 ⟨rfl, g⟩
          replace gz := gz.trans g
          clear g
          first | (refine hK.out _ _ ?_ (fun hHeld => ?_)) | (go_wp2_with fail; refine hK.out _ _ ?_ (fun hHeld => ?_))
          · (try dsimp only); (repeat (first | assumption | exact grown_refl _ | refine grown_dr ?_ | refine grown_dn ?_ | refine grown_al ?_))
          clear hK K
          refine wpAnyH_take (i := 20) (oi := _) (v := .string ⟨(SS ++ [32]).toArray⟩) rfl (by kernel_rfl) (by kernel_rfl) (by kernel_rfl) (fun _ _ _ h => h) (Or.inl ⟨by kernel_rfl, ?_⟩) (by assumption) ?_
          · (intro w hSw; (try dsimp only at hSw); go_simp; first | done | with_reducible rfl | ((try rw [if_neg (by omega)]); congr 2; done) | ((try rw [if_neg (by omega)]); congr 3; apply ByteArray.ext; simp; done) | ((try rw [if_neg (by omega)]); congr 2; apply ByteArray.ext; simp; done))
          try go_simp
          refine wpAnyH_ready (rs := [23]) (by kernel_rfl) (by simp) ?_
          refine AllReadyH.cons (o := _) rfl (fun K hK => ?_) AllReadyH.nil
          go_simp
          refine (DI.out _).mono ?_
          rintro e w2 ⟨rfl, g⟩
          replace gz := gz.trans g
          clear g
          first | (refine hK.out _ _ ?_ (fun hHeld => ?_)) | (go_wp2_with fail; refine hK.out _ _ ?_ (fun hHeld => ?_))
          · (try dsimp only); (repeat (first | assumption | exact grown_refl _ | refine grown_dr ?_ | refine grown_dn ?_ | refine grown_al ?_))
          clear hK K
          refine wpAnyH_take (i := 24) (oi := _) (v := .string ⟨(SS ++ 32 :: SI).toArray⟩) rfl (by kernel_rfl) (by kernel_rfl) (by kernel_rfl) (fun _ _ _ h => h) (Or.inl ⟨by kernel_rfl, ?_⟩) (by assumption) ?_
          · (intro w hSw; (try dsimp only at hSw); go_simp; first | done | with_reducible rfl | ((try rw [if_neg (by omega)]); congr 2; done) | ((try rw [if_neg (by omega)]); congr 3; apply ByteArray.ext; simp; done) | ((try rw [if_neg (by omega)]); congr 2; apply ByteArray.ext; simp; done))
          try go_simp
          refine wpAnyH_take (i := 25) (oi := _) (v := .string ⟨(SS ++ 32 :: (SI ++ [32])).toArray⟩) rfl (by kernel_rfl) (by kernel_rfl) (by kernel_rfl) (fun _ _ _ h => h) (Or.inl ⟨by kernel_rfl, ?_⟩) (by assumption) ?_
          · (intro w hSw; (try dsimp only at hSw); go_simp; first | done | with_reducible rfl | ((try rw [if_neg (by omega)]); congr 2; done) | ((try rw [if_neg (by omega)]); congr 3; apply ByteArray.ext; simp; done) | ((try rw [if_neg (by omega)]); congr 2; apply ByteArray.ext; simp; done))
          try go_simp
          refine wpAnyH_take (i := 27) (oi := _) (v := .string ⟨(SS ++ 32 :: (SI ++ 32 :: a)).toArray⟩) rfl (by kernel_rfl) (by kernel_rfl) (by kernel_rfl) (fun _ _ _ h => h) (Or.inl ⟨by kernel_rfl, ?_⟩) (by assumption) ?_
          · (intro w hSw; (try dsimp only at hSw); go_simp; first | done | with_reducible rfl | ((try rw [if_neg (by omega)]); congr 2; done) | ((try rw [if_neg (by omega)]); congr 3; apply ByteArray.ext; simp; done) | ((try rw [if_neg (by omega)]); congr 2; apply ByteArray.ext; simp; done))
          try go_simp
          refine wpAnyH_ready (rs := [29]) (by kernel_rfl) (by simp) ?_
          refine AllReadyH.cons (o := _) rfl (fun K hK => ?_) AllReadyH.nil
          go_simp
          refine (CH.out _).mono ?_
          rintro e w2 ⟨rfl, g⟩
          replace gz := gz.trans g
          clear g
          first | (refine hK.out _ _ ?_ (fun hHeld => ?_)) | (go_wp2_with fail; refine hK.out _ _ ?_ (fun hHeld => ?_))
          · (try dsimp only); (repeat (first | assumption | exact grown_refl _ | refine grown_dr ?_ | refine grown_dn ?_ | refine grown_al ?_))
          clear hK K
          refine wpAnyH_take (i := 30) (oi := _) (v := ?_) rfl (by kernel_rfl) (by kernel_rfl) (by kernel_rfl) (fun _ _ _ h => h) (Or.inl ⟨by kernel_rfl, ?_⟩) (by assumption) ?_
          rotate_left 1
          · (intro w hSw; (try dsimp only at hSw); go_simp; first | done | with_reducible rfl)
          try go_simp
          refine wpAnyH_take (i := 31) (oi := _) (v := ?_) rfl (by kernel_rfl) (by kernel_rfl) (by kernel_rfl) (fun _ _ _ h => h) (Or.inl ⟨by rfl, ?_⟩) (by assumption) ?_
          rotate_left 1
          · (intro w hSw; (try dsimp only at hSw); go_simp; first | done | with_reducible rfl)
          try go_simp
          refine wpAnyH_done (by kernel_rfl) ?_ _
          refine NoPanic.normal ?_
          go_simp
          go_wp2_with fail
          go_roundw
          case rel => exact ⟨k + 1, by omega, by go_num, g6.trans gz⟩
          case measure => simp [intOf]; omega
    · obtain rfl : k = n1 := by omega
      have gf := gw.trans gr
      go_wp2_with fail
      go_ret
      exact ⟨rfl, gf⟩
end Go.Proofs.YtecobgjkodmaiaaDoor
