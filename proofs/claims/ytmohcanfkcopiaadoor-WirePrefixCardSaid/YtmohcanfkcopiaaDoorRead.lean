/-
  (*wire.Reader).Int and Text, by their contracts.
-/
import Derived.Test.YtmohcanfkcopiaaDoorNum
namespace Go.Proofs.YtmohcanfkcopiaaDoor
open Go.RowKit
attribute [local go_sem] get_mk extract_mk

set_option maxHeartbeats 400000 in
theorem int_nil (w : World) : Calls Tryd.prog 22 #[.pointer none] w fun e w' => e = .returned (.int .i64 0) ∧ w = w' := by
  go_enter Tryd.func22, Tryd.ntmps22
  go_wp2_with (go_at_call 42; refine (number_nil w _).mono ?_; rintro e w' ⟨rfl, rfl⟩)
  go_ret
  exact ⟨rfl, rfl⟩
set_option maxHeartbeats 400000 in
theorem int_k (w : World) (hb : Base w) (b : Nat) (st : Option (List UInt8)) (h : Rd w b st) (hl : ∀ l, st = some l → l.length ≤ 4611686018427387904) :
    Calls Tryd.prog 22 #[.pointer (some ⟨b, 0, none⟩)] w fun e w' => e = .returned (.int .i64 (valOf intP st)) ∧ Rd w' b (restOf intP st) ∧ w.grownBy w' (some b) := by
  have hk := Lib.hid (number_k w hb b 59 (by decide) st h hl)
  clear hl
  go_enter Tryd.func22, Tryd.ntmps22
  go_wp2_with (go_at_call 42; refine hk.out.mono ?_; rintro e w' ⟨rfl, hr, hg⟩)
  go_ret
  exact ⟨rfl, hr, hg⟩

set_option maxHeartbeats 400000 in
theorem text_nil (w : World) : Calls Tryd.prog 24 #[.pointer none] w fun e w' => e = .returned (.string ⟨#[]⟩) ∧ w = w' := by
  go_enter Tryd.func24, Tryd.ntmps24
  go_wp2
  refine wp_scope_forward 0 rfl ?_
  go_wp2_with (go_at_call 42; refine (number_nil w _).mono ?_; rintro e w' ⟨rfl, rfl⟩)
  refine wp_goto (And.intro rfl ?_)
  unfold After
  go_wp2_with (go_at_call 45; refine (fail_nil w).mono ?_; rintro e w' ⟨rfl, rfl⟩)
  rw [Exit.noGoto_ret]
  go_ret
  exact ⟨rfl, rfl⟩

set_option maxHeartbeats 400000 in
theorem text_bad (w : World) (b : Nat) (n : Int) (hk : Calls Tryd.prog 42 #[.pointer (some ⟨b, 0, none⟩), .int .u8 58] w fun e w' => e = .returned (.tuple #[.int .i64 n, .bool false]) ∧ Rd w' b none ∧ w.grownBy w' (some b)) :
    Calls Tryd.prog 24 #[.pointer (some ⟨b, 0, none⟩)] w fun e w' => e = .returned (.string ⟨#[]⟩) ∧ Rd w' b none ∧ w.grownBy w' (some b) := by
  have hk' := Lib.hid hk
  clear hk
  go_enter Tryd.func24, Tryd.ntmps24
  go_wp2
  refine wp_scope_forward 0 rfl ?_
  go_wp2_with (go_at_call 42; refine hk'.out.mono ?_; rintro e w' ⟨rfl, hr, hg⟩)
  refine wp_goto (And.intro rfl ?_)
  unfold After
  go_wp2_with (go_at_call 45; refine (fail_at _ b _ hr).mono ?_; rintro e w'' ⟨rfl, hr, hg'⟩)
  rw [Exit.noGoto_ret]
  go_ret
  exact ⟨rfl, hr, hg.trans hg'⟩

set_option maxHeartbeats 400000 in
theorem text_neg (w : World) (b : Nat) (n : Int) (t : List UInt8) (hn : n < 0) (hk : Calls Tryd.prog 42 #[.pointer (some ⟨b, 0, none⟩), .int .u8 58] w fun e w' => e = .returned (.tuple #[.int .i64 n, .bool true]) ∧ Rd w' b (some t) ∧ w.grownBy w' (some b)) :
    Calls Tryd.prog 24 #[.pointer (some ⟨b, 0, none⟩)] w fun e w' => e = .returned (.string ⟨#[]⟩) ∧ Rd w' b none ∧ w.grownBy w' (some b) := by
  have hk' := Lib.hid hk
  clear hk
  have hd : decide (n < 0) = true := by simpa using hn
  go_enter Tryd.func24, Tryd.ntmps24
  go_wp2
  refine wp_scope_forward 0 rfl ?_
  go_wp2_with (go_at_call 42; refine hk'.out.mono ?_; rintro e w' ⟨rfl, hr, hg⟩)
  refine wp_goto (And.intro rfl ?_)
  unfold After
  go_wp2_with (go_at_call 45; refine (fail_at _ b _ hr).mono ?_; rintro e w'' ⟨rfl, hr, hg'⟩)
  rw [Exit.noGoto_ret]
  go_ret
  exact ⟨rfl, hr, hg.trans hg'⟩

set_option maxHeartbeats 400000 in
theorem text_long (w : World) (b : Nat) (n : Nat) (t : List UInt8) (hn : t.length < n) (hk : Calls Tryd.prog 42 #[.pointer (some ⟨b, 0, none⟩), .int .u8 58] w fun e w' => e = .returned (.tuple #[.int .i64 n, .bool true]) ∧ Rd w' b (some t) ∧ w.grownBy w' (some b)) :
    Calls Tryd.prog 24 #[.pointer (some ⟨b, 0, none⟩)] w fun e w' => e = .returned (.string ⟨#[]⟩) ∧ Rd w' b none ∧ w.grownBy w' (some b) := by
  have hk' := Lib.hid hk
  clear hk
  have hd : decide ((n : Int) < 0) = false := by simp
  have hd2 : decide (t.length < n) = true := by simpa using hn
  go_enter Tryd.func24, Tryd.ntmps24
  go_wp2
  refine wp_scope_forward 0 rfl ?_
  go_wp2_with (go_at_call 42; refine hk'.out.mono ?_; rintro e w' ⟨rfl, hr, hg⟩; have h02 := hr.c0; simp only [Option.getD_some] at h02)
  refine wp_goto (And.intro rfl ?_)
  unfold After
  go_wp2_with (go_at_call 45; refine (fail_at _ b _ hr).mono ?_; rintro e w'' ⟨rfl, hr, hg'⟩)
  rw [Exit.noGoto_ret]
  go_ret
  exact ⟨rfl, hr, hg.trans hg'⟩

set_option maxHeartbeats 400000 in
theorem text_ok (w : World) (b : Nat) (n : Nat) (t : List UInt8) (hn : n ≤ t.length) (hk : Calls Tryd.prog 42 #[.pointer (some ⟨b, 0, none⟩), .int .u8 58] w fun e w' => e = .returned (.tuple #[.int .i64 n, .bool true]) ∧ Rd w' b (some t) ∧ w.grownBy w' (some b)) :
    Calls Tryd.prog 24 #[.pointer (some ⟨b, 0, none⟩)] w fun e w' => e = .returned (.string ⟨(t.take n).toArray⟩) ∧ Rd w' b (some (t.drop n)) ∧ w.grownBy w' (some b) := by
  have hk' := Lib.hid hk
  clear hk
  have hd : decide ((n : Int) < 0) = false := by simp
  have hd2 : decide (t.length < n) = false := by simpa using hn
  go_enter Tryd.func24, Tryd.ntmps24
  go_wp2
  refine wp_scope_forward 0 rfl ?_
  go_wp2_with (go_at_call 42; refine hk'.out.mono ?_; rintro e w' ⟨rfl, hr, hg⟩; have h02 := hr.c0; have f02 := hr.fz 0; simp only [Option.getD_some] at h02)
  go_region
  go_wp2
  simp only [Exit.jump]
  go_ret
  exact ⟨rfl, hr.set0 _, hg.trans ((grown_setCell _ _ _ _).trans (grown_drewN _ 1 _))⟩

theorem dflt : (default : List UInt8) = [] := rfl
theorem text_k (w : World) (hb : Base w) (b : Nat) (st : Option (List UInt8)) (h : Rd w b st) (hl : ∀ l, st = some l → l.length ≤ 4611686018427387904) :
    Calls Tryd.prog 24 #[.pointer (some ⟨b, 0, none⟩)] w fun e w' => e = .returned (.string ⟨(valOf textP st).toArray⟩) ∧ Rd w' b (restOf textP st) ∧ w.grownBy w' (some b) := by
  have hk := number_k w hb b 58 (by decide) st h hl
  cases hn : st.bind (numP 58) with
  | none =>
    have h1 : restOf (numP 58) st = none := by simp [restOf, hn]
    rw [h1] at hk
    have h2 : st.bind textP = none := by
      cases st with
      | none => rfl
      | some l => simp only [Option.bind_some] at hn ⊢; simp [textP, hn]
    simpa [valOf, restOf, h2, dflt] using text_bad w b _ hk
  | some r =>
    obtain ⟨n, t⟩ := r
    have h1 : restOf (numP 58) st = some t := by simp [restOf, hn]
    have h0 : valOf (numP 58) st = n := by simp [valOf, hn]
    rw [h1, h0] at hk
    have h2 : st.bind textP = if 0 ≤ n ∧ n ≤ t.length then some (t.take n.toNat, t.drop n.toNat) else none := by
      cases st with
      | none => simp at hn
      | some l => simp only [Option.bind_some] at hn ⊢; simp [textP, hn]
    by_cases hneg : n < 0
    · rw [if_neg (by omega)] at h2
      simpa [valOf, restOf, h2, dflt] using text_neg w b n t hneg hk
    · obtain ⟨m, rfl⟩ := Int.eq_ofNat_of_zero_le (Int.not_lt.1 hneg)
      by_cases hlong : t.length < m
      · rw [if_neg (by omega)] at h2
        simpa [valOf, restOf, h2, dflt] using text_long w b m t hlong hk
      · rw [if_pos (by omega)] at h2
        simpa [valOf, restOf, h2, dflt] using text_ok w b m t (by omega) hk

end Go.Proofs.YtmohcanfkcopiaaDoor
