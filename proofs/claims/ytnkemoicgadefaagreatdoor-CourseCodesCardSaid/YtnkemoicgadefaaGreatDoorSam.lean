/-
  The reference's SameTexts and SameInts.
-/
import Derived.Test.YtnkemoicgadefaaGreatDoorOrd
namespace Go.Proofs.YtnkemoicgadefaaGreatDoor
open Go.RowKit
attribute [local go_sem] get_mk extract_mk
theorem take_two {α : Type} {a b : List α} {k : Nat} {x : α} (h : a.take k = b.take k) (hx : a[k]? = some x) (hy : b[k]? = some x) : a.take (k + 1) = b.take (k + 1) := by
  rw [take_snoc hx, take_snoc hy, h]
set_option maxRecDepth 100000 in
set_option maxHeartbeats 1000000 in
theorem sameT_r (A : Option Addr) (n c : Nat) (a : List Str) (B : Option Addr) (m d : Nat) (b : List Str) (w : World) (ha : Strs w A n c a) (hb : Strs w B m d b) :
    Calls Tryz.prog 15 #[.slice A n c, .slice B m d] w fun e w' => e = .returned (.bool (decide (a = b))) ∧ w.grownBy w' none := by
  have HA := Lib.hid (fun W (g : w.grownBy W none) => ha.kept g)
  have HB := Lib.hid (fun W (g : w.grownBy W none) => hb.kept g)
  have HN := Lib.hid ha.len
  have HM := Lib.hid hb.len
  have hle := ha.v.le
  have hcap := ha.v.cap
  have hle2 := hb.v.le
  have hcap2 := hb.v.cap
  clear ha hb
  by_cases hnm : n = m
  · subst hnm
    go_enter Tryz.func15, Tryz.ntmps15
    go_wp2_with fail
    go_loopw [5] (fun z wr => ∃ k : Nat, k ≤ n ∧ z = .int .i64 (k : Int) ∧ Hid (a.take k = b.take k) ∧ w.grownBy wr none) (fun z _ => n - (intOf z).toNat)
    case atStart => exact ⟨0, Nat.zero_le _, rfl, Lib.hid rfl, grown_refl _⟩
    case round =>
      obtain ⟨k, hk, rfl, HT, hg⟩ := hrel
      by_cases hlt : k < n
      · obtain ⟨ad, x, hx, _, rfl, _, cx⟩ := (HA.out _ hg).at k hlt
        obtain ⟨bd, y, hy, _, rfl, _, cy⟩ := (HB.out _ hg).at k hlt
        have HX := Lib.hid hx
        have HY := Lib.hid hy
        have k1 : (0 : Int) ≤ (k : Int) := by omega
        have k2 : (k : Int) < (n : Int) := by omega
        have k5 : IntKind.i64.wrap (k : Int) = (k : Int) := by rw [IntKind.wrap_i64]; omega
        have k6 : IntKind.i64.wrap ((k : Int) + 1) = (k : Int) + 1 := by rw [IntKind.wrap_i64]; omega
        clear hx hy
        by_cases hxy : x = y
        · subst hxy
          have HT2 : Hid (a.take (k + 1) = b.take (k + 1)) := Lib.hid (take_two HT.out HX.out HY.out)
          clear HT HX HY HN HM
          go_wp2_with fail
          go_region
          go_wp2_with fail
          go_roundw
          case rel => exact ⟨k + 1, by omega, by go_num, HT2, grown_dr hg⟩
          case measure => simp [intOf]; omega
        · have HE : Hid (decide (a = b) = false) := Lib.hid (by
            rw [decide_eq_false_iff_not]
            intro e
            have h1 := HX.out
            rw [e, HY.out] at h1
            exact hxy (Option.some.inj h1).symm)
          have q1 : (x == y) = false := by simpa using hxy
          clear HT HX HY HN HM hxy
          go_wp2_with fail
          go_region
          go_wp2_with fail
          go_ret
          exact ⟨by rw [HE.out]; rfl, grown_dr hg⟩
      · obtain rfl : n = k := by omega
        have HE : Hid (decide (a = b) = true) := Lib.hid (by
          rw [decide_eq_true_eq]
          have := HT.out
          rw [List.take_of_length_le (by have := HN.out; omega), List.take_of_length_le (by have := HM.out; omega)] at this
          exact this)
        clear HT HN HM
        go_wp2_with fail
        go_ret
        exact ⟨by rw [HE.out]; rfl, hg⟩
  · have HE : Hid (decide (a = b) = false) := Lib.hid (by
      rw [decide_eq_false_iff_not]
      intro e
      exact hnm (by rw [HN.out, HM.out, e]))
    have q1 : ((n : Int) == (m : Int)) = false := by simp; omega
    clear HN HM
    go_enter Tryz.func15, Tryz.ntmps15
    go_wp2_with fail
    go_ret
    exact ⟨by rw [HE.out]; rfl, grown_refl _⟩
set_option maxRecDepth 100000 in
set_option maxHeartbeats 1000000 in
theorem sameI_r (A : Option Addr) (n c : Nat) (a : List Int) (B : Option Addr) (m d : Nat) (b : List Int) (w : World) (ha : Ints w A n c a) (hb : Ints w B m d b) :
    Calls Tryz.prog 72 #[.slice A n c, .slice B m d] w fun e w' => e = .returned (.bool (decide (a = b))) ∧ w.grownBy w' none := by
  have HA := Lib.hid (fun W (g : w.grownBy W none) => ha.kept g)
  have HB := Lib.hid (fun W (g : w.grownBy W none) => hb.kept g)
  have HN := Lib.hid ha.len
  have HM := Lib.hid hb.len
  have hle := ha.v.le
  have hcap := ha.v.cap
  have hle2 := hb.v.le
  have hcap2 := hb.v.cap
  clear ha hb
  by_cases hnm : n = m
  · subst hnm
    go_enter Tryz.func72, Tryz.ntmps72
    go_wp2_with fail
    go_loopw [5] (fun z wr => ∃ k : Nat, k ≤ n ∧ z = .int .i64 (k : Int) ∧ Hid (a.take k = b.take k) ∧ w.grownBy wr none) (fun z _ => n - (intOf z).toNat)
    case atStart => exact ⟨0, Nat.zero_le _, rfl, Lib.hid rfl, grown_refl _⟩
    case round =>
      obtain ⟨k, hk, rfl, HT, hg⟩ := hrel
      by_cases hlt : k < n
      · obtain ⟨ad, x, hx, _, rfl, _, cx⟩ := (HA.out _ hg).at k hlt
        obtain ⟨bd, y, hy, _, rfl, _, cy⟩ := (HB.out _ hg).at k hlt
        have HX := Lib.hid hx
        have HY := Lib.hid hy
        have k1 : (0 : Int) ≤ (k : Int) := by omega
        have k2 : (k : Int) < (n : Int) := by omega
        have k5 : IntKind.i64.wrap (k : Int) = (k : Int) := by rw [IntKind.wrap_i64]; omega
        have k6 : IntKind.i64.wrap ((k : Int) + 1) = (k : Int) + 1 := by rw [IntKind.wrap_i64]; omega
        clear hx hy
        by_cases hxy : x = y
        · subst hxy
          have HT2 : Hid (a.take (k + 1) = b.take (k + 1)) := Lib.hid (take_two HT.out HX.out HY.out)
          clear HT HX HY HN HM
          go_wp2_with fail
          go_region
          go_wp2_with fail
          go_roundw
          case rel => exact ⟨k + 1, by omega, by go_num, HT2, grown_dr hg⟩
          case measure => simp [intOf]; omega
        · have HE : Hid (decide (a = b) = false) := Lib.hid (by
            rw [decide_eq_false_iff_not]
            intro e
            have h1 := HX.out
            rw [e, HY.out] at h1
            exact hxy (Option.some.inj h1).symm)
          have q1 : (x == y) = false := by simpa using hxy
          clear HT HX HY HN HM hxy
          go_wp2_with fail
          go_region
          go_wp2_with fail
          go_ret
          exact ⟨by rw [HE.out]; rfl, grown_dr hg⟩
      · obtain rfl : n = k := by omega
        have HE : Hid (decide (a = b) = true) := Lib.hid (by
          rw [decide_eq_true_eq]
          have := HT.out
          rw [List.take_of_length_le (by have := HN.out; omega), List.take_of_length_le (by have := HM.out; omega)] at this
          exact this)
        clear HT HN HM
        go_wp2_with fail
        go_ret
        exact ⟨by rw [HE.out]; rfl, hg⟩
  · have HE : Hid (decide (a = b) = false) := Lib.hid (by
      rw [decide_eq_false_iff_not]
      intro e
      exact hnm (by rw [HN.out, HM.out, e]))
    have q1 : ((n : Int) == (m : Int)) = false := by simp; omega
    clear HN HM
    go_enter Tryz.func72, Tryz.ntmps72
    go_wp2_with fail
    go_ret
    exact ⟨by rw [HE.out]; rfl, grown_refl _⟩
end Go.Proofs.YtnkemoicgadefaaGreatDoor
