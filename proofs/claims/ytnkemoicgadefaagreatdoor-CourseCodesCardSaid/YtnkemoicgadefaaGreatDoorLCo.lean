/-
  The law CourseCodes.
-/
import Derived.Test.YtnkemoicgadefaaGreatDoorCtn
import Derived.Test.YtnkemoicgadefaaGreatDoorCdr
import Derived.Test.YtnkemoicgadefaaGreatDoorRen
import Derived.Test.YtnkemoicgadefaaGreatDoorSal
import Derived.Test.YtnkemoicgadefaaGreatDoorSan
import Derived.Test.YtnkemoicgadefaaGreatDoorMde
namespace Go.Proofs.YtnkemoicgadefaaGreatDoor
open Go.RowKit
attribute [local go_sem] get_mk extract_mk
def outL : Option (List O) → List O
  | none => []
  | some l => l
def outE : Option (List O) → Int
  | none => 4
  | some _ => 0
theorem DecOut.one {r : Option (List O)} {e : Ending} {w : World} (h : DecOut r e w) : ∃ (B : Option Addr) (d : Nat) (us : List V), e = .returned (.tuple #[.slice B (outL r).length d, .int .i64 (outE r)]) ∧ Offs w B (outL r).length d us (outL r) := by
  cases r with
  | none => exact ⟨none, 0, [], h, Offs.nil_ w⟩
  | some l => exact h
set_option maxRecDepth 100000 in
set_option maxHeartbeats 8000000 in
theorem codes_law (A : Option Addr) (n c : Nat) (L : List Int) (B : Option Addr) (m d : Nat) (vs : List V) (raw : List O) (a x : Int) (t : Str) (ha : 0 ≤ a) (ha2 : a < 65536) (hx : 0 ≤ x) (hx2 : x < 256) (ht : t.length ≤ 9223372036854775807)
    (w : World) (hb : Wire.Base w) (hL : Ints w A n c L) (hR : Raws w B m d vs raw) :
    Calls Tryz.prog 3 #[.slice A n c, .slice B m d, .agg #[.int .u16 a, .int .u8 x, .string ⟨t.toArray⟩]] w fun e w' => e = .returned (.bool true) ∧ w.grownBy w' none := by
  obtain ⟨w1, e1, HP, g1⟩ := row_of w 26 #[.int .u16 a, .int .u8 x, .string ⟨t.toArray⟩]
  have E1 := Lib.hid e1
  have G1 := Lib.hid g1
  have HP1 := Lib.hid HP
  have HL := Lib.hid (fun W (g : w.grownBy W none) => hL.kept g)
  have HR := Lib.hid (fun W (g : w.grownBy W none) => hR.kept g)
  have HB := Lib.hid (fun W (g : w.grownBy W none) => hb.none_ g)
  have HAP := Lib.hid (fun (s : Str) (hs : s.length ≤ 100000) W => apply_r a x t s ha ha2 hx hx2 ht hs W)
  clear e1 g1 HP hL hR hb ha ha2 hx hx2 ht
  go_enter Tryz.func3, Tryz.ntmps3
  go_upto_region 1 with fail
  rw [← E1.out]
  clear E1
  go_upto_region 3 with (first
    | (go_at_call 4; refine (sane_k _).mono ?_; rintro e w2 ⟨rfl, g2⟩; have G2 := Lib.hid (G1.out.trans g2); have GA := Lib.hid g2; clear g2)
    | (go_at_call 5; refine (made_r _ _ _ _ _ (HL.out _ G2.out)).mono ?_; rintro e w3 ⟨X, xc, xs, l1, rfl, hO1, hM1, g3⟩; have G3 := Lib.hid (G2.out.trans g3); have gc_ := Lib.hid g3; have HO1 := Lib.hid hO1; have HT1 := Lib.hid (tiny_made hM1 hO1); clear g3 hO1 hM1)
    | (go_at_call 6; refine (cut_r _ _ _ _ _ _ (HR.out _ G3.out)).mono ?_; rintro e w4 ⟨Y, yc, ys, rfl, hO2, g4⟩; have G4 := Lib.hid (G3.out.trans g4); have GP := Lib.hid (GA.out.trans (gc_.out.trans g4)); have HO3 := Lib.hid (HO1.out.kept g4); have HO2 := Lib.hid hO2; have HT2 := Lib.hid (tiny_cut hO2); clear g4 hO2))
  obtain ⟨w5, e5, HQ, g5⟩ := row_of w4 23 #[.slice X l1.length xc, .slice Y (cutV raw).length yc]
  rw [← e5]
  have G5 := Lib.hid (G4.out.trans g5)
  have HX : Hid (∀ k : Nat, k < 2 → ∃ (Z : Option Addr) (zc : Nat) (us : List V) (l : List O), w5.cell? ⟨w4.heap.size, k, none⟩ = some (.slice Z l.length zc) ∧ Offs w5 Z l.length zc us l ∧ Tiny l) := Lib.hid (by
    intro k hk
    rcases k with _ | _ | k
    · exact ⟨X, xc, xs, l1, HQ.c 0 rfl, HO3.out.kept g5, HT1.out⟩
    · exact ⟨Y, yc, ys, cutV raw, HQ.c 1 rfl, HO2.out.kept g5, HT2.out⟩
    · omega)
  have HP5 := Lib.hid (HP1.out.kept (show w1.grownBy w5 none from GP.out.trans g5))
  clear e5 HQ g5 HO1 HO2 HO3 HT1 HT2 HL HR G2 G3 G4 HP1 GP
  generalize w4.heap.size = Q at *
  go_loopw [26] (fun z wr => ∃ k : Nat, k ≤ 2 ∧ z = .int .i64 (k : Int) ∧ Hid (w5.grownBy wr none)) (fun z _ => 2 - (intOf z).toNat)
  case atStart => exact ⟨0, Nat.zero_le _, rfl, Lib.hid (grown_refl _)⟩
  case round =>
    obtain ⟨k, hk, rfl, HG⟩ := hrel
    by_cases hlt : k < 2
    · obtain ⟨Z, zc, us, l, hcz, hO, hT⟩ := HX.out k hlt
      have hc := gcell HG.out hcz
      have HO := Lib.hid (fun W (g : w5.grownBy W none) => hO.kept g)
      obtain ⟨t1, t2, t3⟩ := tiny_ser hT
      have HT := Lib.hid t1
      have HV : Hid (decV (serC l) = some l) := Lib.hid (decV_ser t2 t3)
      clear hcz hO hT t1 t2 t3
      have k1 : (0 : Int) ≤ (k : Int) := by omega
      have k2 : (k : Int) < 2 := by omega
      have k3 : decide ((k : Int) < 2) = true := decide_eq_true k2
      go_upto_region 7 with (first
        | (go_at_call 7; refine (encode_k _ _ _ us l _ (HO.out _ HG.out) (HB.out _ (G5.out.trans HG.out)) (by have := HT.out; omega)).mono ?_; rintro e w6 ⟨rfl, g6⟩; have G6 := Lib.hid (HG.out.trans g6); clear g6)
        | (go_at_call 8; refine (decode_k (serC l) (by have := HT.out; omega) _ (HB.out _ (G5.out.trans G6.out))).mono ?_; rintro e w7 ⟨g7, hD⟩; rw [HV.out] at hD; obtain ⟨D, dc, ds, rfl, hOD⟩ := hD; have G7 := Lib.hid (G6.out.trans g7); have HOD := Lib.hid hOD; clear g7 hOD))
      clear hc k1 k2
      go_upto_region 9 with (first
        | (go_at_call 9; refine (encode_r _ _ _ us l _ (HO.out _ G7.out) (by have := HT.out; omega)).mono ?_; rintro e w8 ⟨rfl, g8⟩; have G8 := Lib.hid (G7.out.trans g8); have HOE := Lib.hid (HOD.out.kept g8); clear g8)
        | (go_at_call 10; refine (same_all_r _ _ _ ds _ _ _ us l _ HOE.out (HO.out _ G8.out)).mono ?_; rintro e w9 ⟨rfl, g9⟩; have G9 := Lib.hid (G8.out.trans g9); clear g9))
      obtain ⟨s, hs⟩ : ∃ s, s = serC l := ⟨_, rfl⟩
      have hsl : s.length ≤ 1800 := by rw [hs]; exact HT.out
      rw [← hs]
      have HRW := Lib.hid (HP5.out.kept G9.out)
      have c0 := HRW.out.c 0 rfl
      have c1 := HRW.out.c 1 rfl
      have c2 := HRW.out.c 2 rfl
      have q1 : ¬ 9223372036854775807 < s.length + 2 := by omega
      have q2 : ¬ 9223372036854775807 < 11 + s.length := by omega
      have HSS := Lib.hid hsl
      clear hs hsl
      go_upto_region 10 with (go_at_call 11; refine (HAP.out s (by have := HSS.out; omega) _).mono ?_; rintro e wa ⟨r, rfl, hr, ga⟩; have GA1 := Lib.hid (G9.out.trans ga); have HRL := Lib.hid hr; clear ga hr)
      obtain ⟨wb, eb, HS4, gb⟩ := row_of wa 9 #[.string ⟨r.toArray⟩, .string ((⟨s.toArray⟩ : ByteArray) ++ ⟨#[49, 59]⟩), .string ⟨#[45, 49, 59]⟩, .string ((⟨#[50, 48, 48, 48, 48, 48, 48, 48, 48, 48, 59]⟩ : ByteArray) ++ ⟨s.toArray⟩)]
      rw [← eb]
      have GB := Lib.hid (GA1.out.trans gb)
      have HY : Hid (∀ j : Nat, j < 4 → ∃ tt : Str, wb.cell? ⟨wa.heap.size, j, none⟩ = some (.string ⟨tt.toArray⟩) ∧ tt.length ≤ 2000) := Lib.hid (by
        have hl := HSS.out
        have hr := HRL.out
        intro j hj
        rcases j with _ | _ | _ | _ | j
        · exact ⟨r, HS4.c 0 rfl, by omega⟩
        · exact ⟨s ++ [49, 59], by rw [HS4.c 1 rfl, ← Wire.str_app]; rfl, by simp only [List.length_append, List.length_cons, List.length_nil]; omega⟩
        · exact ⟨[45, 49, 59], HS4.c 2 rfl, by simp⟩
        · exact ⟨[50, 48, 48, 48, 48, 48, 48, 48, 48, 48, 59] ++ s, by rw [HS4.c 3 rfl, ← Wire.str_app]; rfl, by simp only [List.length_append, List.length_cons, List.length_nil]; omega⟩
        · omega)
      clear eb HS4 gb c0 c1 c2 q1 q2
      generalize wa.heap.size = Q2 at *
      go_loopw [60] (fun z wr2 => ∃ j : Nat, j ≤ 4 ∧ z = .int .i64 (j : Int) ∧ Hid (w5.grownBy wr2 none) ∧ Hid (wb.grownBy wr2 none)) (fun z _ => 4 - (intOf z).toNat)
      case atStart => exact ⟨0, Nat.zero_le _, rfl, GB, Lib.hid (grown_refl _)⟩
      case round =>
        obtain ⟨j, hj, rfl, HH, HI⟩ := hrel
        by_cases hl4 : j < 4
        · obtain ⟨tt, hct, htt⟩ := HY.out j hl4
          have hc := gcell HI.out hct
          have HTT := Lib.hid htt
          clear hct htt
          have j1 : (0 : Int) ≤ (j : Int) := by omega
          have j2 : (j : Int) < 4 := by omega
          have j3 : decide ((j : Int) < 4) = true := decide_eq_true j2
          go_upto_region 14 with (first
            | (go_at_call 8; refine (decode_k tt HTT.out _ (HB.out _ (G5.out.trans HH.out))).mono ?_; rintro e wc ⟨gc, hD⟩; obtain ⟨D1, d1, ds1, rfl, hO1⟩ := hD.one; have GC := Lib.hid gc; have HO1 := Lib.hid hO1; clear gc hO1 hD)
            | (go_at_call 12; refine (decode_r tt HTT.out _).mono ?_; rintro e wd ⟨gd, hD⟩; obtain ⟨D2, d2, ds2, rfl, hO2⟩ := hD.one; have GD := Lib.hid (GC.out.trans gd); have HO1b := Lib.hid (HO1.out.kept gd); have HO2 := Lib.hid hO2; clear gd hO2 hD))
          clear hc j1 j2
          generalize outE (decV tt) = E at *
          go_wp2_with (go_at_call 10; refine (same_all_r _ _ _ ds1 _ _ _ ds2 _ _ HO1b.out HO2.out).mono ?_; rintro e we ⟨rfl, ge⟩; have GE := Lib.hid (GD.out.trans ge); clear ge)
          exact ⟨⟨j + 1, by omega, by go_num, Lib.hid (HH.out.trans GE.out), Lib.hid (HI.out.trans GE.out)⟩, by simp [intOf]; omega⟩
        · obtain rfl : j = 4 := by omega
          go_wp2_with fail
          exact ⟨⟨k + 1, by omega, by go_num, HH⟩, by simp [intOf]; omega⟩
    · obtain rfl : k = 2 := by omega
      go_wp2_with fail
      go_ret
      exact ⟨rfl, G5.out.trans HG.out⟩
end Go.Proofs.YtnkemoicgadefaaGreatDoor
