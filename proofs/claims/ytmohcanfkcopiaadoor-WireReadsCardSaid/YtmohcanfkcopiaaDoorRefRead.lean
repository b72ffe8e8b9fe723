/-
  The reference's readers of an integer and of a string, by their contracts.
-/
import Derived.Test.YtmohcanfkcopiaaDoorRefNum
import Derived.Test.YtmohcanfkcopiaaDoorRead
namespace Go.Proofs.YtmohcanfkcopiaaDoor
open Go.RowKit
attribute [local go_sem] get_mk extract_mk

theorem rnum_some (w : World) (b : Nat) (s : List UInt8) (hs : s.length ≤ 1000000) (c : UInt8) (hc : 58 ≤ c.toNat) (st : Option (List UInt8)) (h : Rr w b s st) {n : Int} {t : List UInt8} (hn : st.bind (numP c) = some (n, t)) :
    Calls Tryd.prog 43 #[.pointer (some ⟨b, 0, none⟩), .int .u8 c.toNat] w fun e w' => e = .returned (.tuple #[.int .i64 n, .bool true]) ∧ Rr w' b s (some t) ∧ w.grownBy w' (some b) := by
  obtain ⟨p, d, h, hp, h1, h2⟩ := h
  cases d with
  | true => rw [h1 rfl] at hn; cases hn
  | false =>
    rw [h2 rfl] at hn
    refine (rnum_go w b s hs c hc p hp h).mono fun e w' hr => ?_
    unfold RN at hr
    rw [show numP c (s.drop p) = some (n, t) from hn] at hr
    exact hr
theorem rnum_none (w : World) (b : Nat) (s : List UInt8) (hs : s.length ≤ 1000000) (c : UInt8) (hc : 58 ≤ c.toNat) (st : Option (List UInt8)) (h : Rr w b s st) (hn : st.bind (numP c) = none) :
    Calls Tryd.prog 43 #[.pointer (some ⟨b, 0, none⟩), .int .u8 c.toNat] w fun e w' => e = .returned (.tuple #[.int .i64 0, .bool false]) ∧ Rr w' b s st ∧ w.grownBy w' (some b) := by
  have h0 := h
  obtain ⟨p, d, h, hp, h1, h2⟩ := h
  cases d with
  | true =>
    obtain rfl := h1 rfl
    refine (rnum_bad w b s c.toNat h0).mono fun e w' hr => ?_
    obtain ⟨rfl, rfl⟩ := hr
    exact ⟨rfl, h0, World.grownBy.refl _ _⟩
  | false =>
    obtain rfl := h2 rfl
    refine (rnum_go w b s hs c hc p hp h).mono fun e w' hr => ?_
    unfold RN at hr
    rw [show numP c (s.drop p) = none from hn] at hr
    exact hr

set_option maxHeartbeats 400000 in
theorem rint_k (w : World) (b : Nat) (s : List UInt8) (hs : s.length ≤ 1000000) (st : Option (List UInt8)) (h : Rr w b s st) :
    Calls Tryd.prog 23 #[.pointer (some ⟨b, 0, none⟩)] w fun e w' => e = .returned (.int .i64 (valOf intP st)) ∧ Rr w' b s (restOf intP st) ∧ w.grownBy w' (some b) := by
  cases hn : st.bind (numP 59) with
  | none =>
    have hk := Lib.hid (rnum_none w b s hs 59 (by decide) st h hn)
    have e1 : valOf intP st = 0 := by unfold valOf intP; rw [hn]; rfl
    have e2 : restOf intP st = none := by unfold restOf intP; rw [hn]
    rw [e1, e2]
    clear hn h e1 e2
    go_enter Tryd.func23, Tryd.ntmps23
    go_wp2_with (first
      | (go_at_call 43; refine hk.out.mono ?_; rintro e w1 ⟨rfl, h1, g1⟩)
      | (go_at_call 44; refine (rFail _ _ _ _ h1).mono ?_; rintro e w2 ⟨rfl, h2, g2⟩))
    go_ret
    exact ⟨rfl, h2, g1.trans g2⟩
  | some r =>
    obtain ⟨n, t⟩ := r
    have hk := Lib.hid (rnum_some w b s hs 59 (by decide) st h hn)
    have e1 : valOf intP st = n := by unfold valOf intP; rw [hn]
    have e2 : restOf intP st = some t := by unfold restOf intP; rw [hn]
    rw [e1, e2]
    clear hn h e1 e2
    go_enter Tryd.func23, Tryd.ntmps23
    go_wp2_with (go_at_call 43; refine hk.out.mono ?_; rintro e w1 ⟨rfl, h1, g1⟩)
    go_ret
    exact ⟨rfl, h1, g1⟩

set_option maxHeartbeats 400000 in
theorem rtext_bad (w : World) (b : Nat) (s : List UInt8) (st : Option (List UInt8))
    (hk : Calls Tryd.prog 43 #[.pointer (some ⟨b, 0, none⟩), .int .u8 58] w fun e w' => e = .returned (.tuple #[.int .i64 0, .bool false]) ∧ Rr w' b s st ∧ w.grownBy w' (some b)) :
    Calls Tryd.prog 25 #[.pointer (some ⟨b, 0, none⟩)] w fun e w' => e = .returned (.string ⟨#[]⟩) ∧ Rr w' b s none ∧ w.grownBy w' (some b) := by
  have hk := Lib.hid hk
  go_enter Tryd.func25, Tryd.ntmps25
  go_wp2_with (first
    | (go_at_call 43; refine hk.out.mono ?_; rintro e w1 ⟨rfl, h1, g1⟩)
    | (go_at_call 44; refine (rFail _ _ _ _ h1).mono ?_; rintro e w2 ⟨rfl, h2, g2⟩))
  go_ret
  exact ⟨rfl, h2, g1.trans g2⟩
set_option maxHeartbeats 400000 in
theorem rtext_neg (w : World) (b : Nat) (s : List UInt8) (n : Int) (hneg : n < 0) (t : List UInt8)
    (hk : Calls Tryd.prog 43 #[.pointer (some ⟨b, 0, none⟩), .int .u8 58] w fun e w' => e = .returned (.tuple #[.int .i64 n, .bool true]) ∧ Rr w' b s (some t) ∧ w.grownBy w' (some b)) :
    Calls Tryd.prog 25 #[.pointer (some ⟨b, 0, none⟩)] w fun e w' => e = .returned (.string ⟨#[]⟩) ∧ Rr w' b s none ∧ w.grownBy w' (some b) := by
  have hk := Lib.hid hk
  have hd : decide (n < 0) = true := by simpa using hneg
  go_enter Tryd.func25, Tryd.ntmps25
  go_wp2_with (first
    | (go_at_call 43; refine hk.out.mono ?_; rintro e w1 ⟨rfl, h1, g1⟩)
    | (go_at_call 44; refine (rFail _ _ _ _ h1).mono ?_; rintro e w2 ⟨rfl, h2, g2⟩))
  go_ret
  exact ⟨rfl, h2, g1.trans g2⟩
set_option maxHeartbeats 400000 in
theorem rtext_long (w : World) (b : Nat) (s : List UInt8) (hs : s.length ≤ 1000000) (n : Nat) (t : List UInt8) (hn : t.length < n)
    (hk : Calls Tryd.prog 43 #[.pointer (some ⟨b, 0, none⟩), .int .u8 58] w fun e w' => e = .returned (.tuple #[.int .i64 n, .bool true]) ∧ Rr w' b s (some t) ∧ w.grownBy w' (some b)) :
    Calls Tryd.prog 25 #[.pointer (some ⟨b, 0, none⟩)] w fun e w' => e = .returned (.string ⟨#[]⟩) ∧ Rr w' b s none ∧ w.grownBy w' (some b) := by
  have hk := Lib.hid hk
  have hd : decide ((n : Int) < 0) = false := by simp
  have hd2 : (t.length : Int) < (n : Int) := by omega
  go_enter Tryd.func25, Tryd.ntmps25
  go_wp2_with (first
    | (go_at_call 43; refine hk.out.mono ?_; rintro e w1 ⟨rfl, h1, g1⟩)
    | (go_at_call 33; refine (rLeft _ _ _ hs _ h1).mono ?_; rintro e w3 ⟨rfl, g3⟩; have h3 := Rr.grown h1 g3 (by simp))
    | (go_at_call 44; refine (rFail _ _ _ _ h3).mono ?_; rintro e w2 ⟨rfl, h2, g2⟩))
  go_ret
  exact ⟨rfl, h2, g1.trans ((grown_any g3 _).trans g2)⟩
set_option maxHeartbeats 400000 in
theorem rtext_ok (w : World) (b : Nat) (s : List UInt8) (hs : s.length ≤ 1000000) (n : Nat) (t : List UInt8) (hn : n ≤ t.length)
    (hk : Calls Tryd.prog 43 #[.pointer (some ⟨b, 0, none⟩), .int .u8 58] w fun e w' => e = .returned (.tuple #[.int .i64 n, .bool true]) ∧ Rr w' b s (some t) ∧ w.grownBy w' (some b)) :
    Calls Tryd.prog 25 #[.pointer (some ⟨b, 0, none⟩)] w fun e w' => e = .returned (.string ⟨(t.take n).toArray⟩) ∧ Rr w' b s (some (t.drop n)) ∧ w.grownBy w' (some b) := by
  have hk := Lib.hid hk
  have hd : decide ((n : Int) < 0) = false := by simp
  have hd2 : ¬ (t.length : Int) < (n : Int) := by omega
  go_enter Tryd.func25, Tryd.ntmps25
  go_wp2_with (first
    | (go_at_call 43; refine hk.out.mono ?_; rintro e w1 ⟨rfl, h1, g1⟩)
    | (go_at_call 33; refine (rLeft _ _ _ hs _ h1).mono ?_; rintro e w3 ⟨rfl, g3⟩; have h3 := Rr.grown h1 g3 (by simp)))
  obtain ⟨p, d, hf, hp, e1, e2⟩ := h3
  cases d with
  | true => cases e1 rfl
  | false =>
    have e3 := e2 rfl
    injection e3 with e3
    have hpl : t.length = s.length - p := by rw [e3, List.length_drop]
    have hts : (s.take (p + n)).drop p = t.take n := by rw [List.drop_take, e3]; congr 1; omega
    have htd : s.drop (p + n) = t.drop n := by rw [e3, List.drop_drop]
    have c0 := hf.c0
    have c1 := hf.c1
    have f1 := hf.fz 1
    have b1 : (p : Int) ≤ (p : Int) + (n : Int) := by omega
    have b2 : (p : Int) + (n : Int) ≤ (s.length : Int) := by omega
    have b3 : ((p : Int) + (n : Int)).toNat = p + n := by omega
    have E3 := Lib.hid e3
    clear e1 e2 e3
    go_quiet (fail)
    go_wp2_with fail
    go_ret
    exact ⟨rfl, ⟨p + n, false, Rf.set1 (hf.grown (grown_drewN w3 nq none) (by simp)) (p + n), by omega, by simp, fun _ => by rw [htd]⟩, g1.trans ((grown_any (g3.trans (grown_drewN _ nq _)) _).trans (grown_setCell _ _ _ _))⟩
theorem rtext_k (w : World) (b : Nat) (s : List UInt8) (hs : s.length ≤ 1000000) (st : Option (List UInt8)) (h : Rr w b s st) :
    Calls Tryd.prog 25 #[.pointer (some ⟨b, 0, none⟩)] w fun e w' => e = .returned (.string ⟨(valOf textP st).toArray⟩) ∧ Rr w' b s (restOf textP st) ∧ w.grownBy w' (some b) := by
  cases hn : st.bind (numP 58) with
  | none =>
    have hk := rnum_none w b s hs 58 (by decide) st h hn
    have h2 : st.bind textP = none := by
      cases st with
      | none => rfl
      | some l => simp only [Option.bind_some] at hn ⊢; simp [textP, hn]
    simpa [valOf, restOf, h2, dflt] using rtext_bad w b s st hk
  | some r =>
    obtain ⟨n, t⟩ := r
    have hk := rnum_some w b s hs 58 (by decide) st h hn
    have h2 : st.bind textP = if 0 ≤ n ∧ n ≤ t.length then some (t.take n.toNat, t.drop n.toNat) else none := by
      cases st with
      | none => simp at hn
      | some l => simp only [Option.bind_some] at hn ⊢; simp [textP, hn]
    by_cases hneg : n < 0
    · rw [if_neg (by omega)] at h2
      simpa [valOf, restOf, h2, dflt] using rtext_neg w b s n hneg t hk
    · obtain ⟨m, rfl⟩ := Int.eq_ofNat_of_zero_le (Int.not_lt.1 hneg)
      by_cases hlong : t.length < m
      · rw [if_neg (by omega)] at h2
        simpa [valOf, restOf, h2, dflt] using rtext_long w b s hs m t hlong hk
      · rw [if_pos (by omega)] at h2
        simpa [valOf, restOf, h2, dflt] using rtext_ok w b s hs m t (by omega) hk

end Go.Proofs.YtmohcanfkcopiaaDoor
