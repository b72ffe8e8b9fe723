/-
  The reference's Met.
-/
import Derived.Test.YtnkemoicgadefaaRfd
namespace Go.Proofs.Ytnkemoicgadefaa
open Go.RowKit
attribute [local go_sem] get_mk extract_mk
set_option maxRecDepth 100000 in
set_option maxHeartbeats 2000000 in
theorem met_r (A : Option Addr) (n c : Nat) (vs : List V) (l : List O) (code : Str) (B : Option Addr) (m d : Nat) (has : List Str) (w : World) (h : Offs w A n c vs l) (hh : Strs w B m d has) :
    Calls Try.prog 26 #[.slice A n c, .string ⟨code.toArray⟩, .slice B m d] w fun e w' => e = .returned (.bool (metV l code has)) ∧ w.grownBy w' none := by
  have HH := Lib.hid (fun W (g : w.grownBy W none) => hh.kept g)
  have HF := Lib.hid (find_r A n c vs l code w h)
  clear h hh
  go_enter Try.func26, Try.ntmps26
  go_wp2_with fail
  refine HF.out.mono ?_
  rintro e w2 ⟨v, b, rfl, g, hv⟩
  obtain ⟨nd, hnd, hmet⟩ : ∃ nd : List Str, Strs w2 v.nA v.nn v.nc nd ∧ metV l code has = (b && nd.all fun s => decide (s ∈ has)) := by
    rcases hv with ⟨rfl, hf, rfl⟩ | ⟨o, rfl, hf, hvi, _⟩
    · exact ⟨[], Strs.nil_ _, by unfold metV; rw [hf]; rfl⟩
    · exact ⟨o.needs, hvi.needs, by unfold metV; rw [hf]; rfl⟩
  have HM := Lib.hid hmet
  have G2 := Lib.hid g
  clear hv hmet g HF
  obtain ⟨yc, yr, yp, yA, yn, yd, zA, zn, zd⟩ := v
  dsimp only at hnd
  simp only [V.cells]
  have hle := hnd.v.le
  have hcap := hnd.v.cap
  have HLN := Lib.hid hnd.len
  obtain ⟨w3, e3, HP, g3⟩ := row_of w2 35 #[.string ⟨yc.toArray⟩, .int .i64 yr, .int .i64 yp, .slice yA yn yd, .slice zA zn zd]
  have HND := Lib.hid (hnd.kept g3)
  have HHH := Lib.hid (HH.out _ (G2.out.trans g3))
  have G3 := Lib.hid (G2.out.trans g3)
  have E3 := Lib.hid e3
  clear e3 g3 hnd
  have c4 := HP.c 4 rfl
  have HP2 := Lib.hid HP
  clear HP
  go_upto_region 2 with fail
  rw [← E3.out]
  clear E3
  generalize w2.heap.size = P at *
  go_wp2_with fail
  go_loopw [8, 9] (fun y z wr => ∃ k : Nat, k ≤ zn ∧ z = .int .i64 (k : Int) ∧ y = .bool (b && (nd.take k).all fun s => decide (s ∈ has)) ∧ wr = w3) (fun _ z _ => zn - (intOf z).toNat)
  case atStart => exact ⟨0, Nat.zero_le _, rfl, by simp, rfl⟩
  case round =>
    obtain ⟨k, hk, rfl, rfl, rfl⟩ := hrel
    generalize hb : (b && (nd.take k).all fun s => decide (s ∈ has)) = r at *
    have HB := Lib.hid hb
    clear hb
    by_cases hlt : k < zn
    · obtain ⟨ad, x, hx, _, rfl, _, cx⟩ := HND.out.at k hlt
      have HX := Lib.hid (take_snoc hx)
      have k1 : (0 : Int) ≤ (k : Int) := by omega
      have k2 : (k : Int) < (zn : Int) := by omega
      have k5 : IntKind.i64.wrap (k : Int) = (k : Int) := by rw [IntKind.wrap_i64]; omega
      have k6 : IntKind.i64.wrap ((k : Int) + 1) = (k : Int) + 1 := by rw [IntKind.wrap_i64]; omega
      clear hx
      cases r with
      | false =>
        have HQ : Hid ((b && (nd.take (k + 1)).all fun s => decide (s ∈ has)) = false) := Lib.hid (by
          rw [HX.out, List.all_append, ← Bool.and_assoc, HB.out]
          simp)
        clear HB HX
        go_wp2_with fail
        go_roundw
        case rel => exact ⟨k + 1, by omega, by go_num, by rw [HQ.out], trivial⟩
        case measure => simp [intOf]; omega
      | true =>
        have HQ : Hid ((b && (nd.take (k + 1)).all fun s => decide (s ∈ has)) = decide (x ∈ has)) := Lib.hid (by
          rw [HX.out, List.all_append, ← Bool.and_assoc, HB.out]
          simp)
        clear HB HX
        go_wp2_with fail
        refine (has_r B m d has x _ HHH.out).mono ?_
        rintro e w4 ⟨rfl, rfl⟩
        generalize decide (x ∈ has) = q at *
        go_wp2_with fail
        go_roundw
        case rel => exact ⟨k + 1, by omega, by go_num, by rw [HQ.out], trivial⟩
        case measure => simp [intOf]; omega
    · obtain rfl : zn = k := by omega
      have HQ : Hid (metV l code has = r) := Lib.hid (by rw [HM.out, ← HB.out, HLN.out, List.take_length])
      clear HB HM HLN
      go_wp2_with fail
      go_ret
      exact ⟨by rw [HQ.out]; rfl, G3.out⟩
end Go.Proofs.Ytnkemoicgadefaa
