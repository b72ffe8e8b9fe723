/-
  New, and the law's own helpers decodes, malformed, by their contracts.
-/
import Derived.Test.YtmohcanfkcopiaaDoorTelems
import Derived.Test.YtmohcanfkcopiaaDoorList
namespace Go.Proofs.YtmohcanfkcopiaaDoor
open Go.RowKit
attribute [local go_sem] get_mk extract_mk

set_option maxHeartbeats 400000 in
/-- wire.New -/
theorem new_k (l : List UInt8) (w : World) : Calls Tryd.prog 20 #[.string ⟨l.toArray⟩] w fun e w' => e = .returned (.pointer (some ⟨w.heap.size, 0, none⟩)) ∧ Rd w' w.heap.size (some l) ∧ w.grownBy w' none ∧ w.heap.size < w'.heap.size := by
  go_enter Tryd.func20, Tryd.ntmps20
  go_wp2
  go_ret
  exact ⟨rfl, heap_alloc_new w _, World.grownBy_alloc _ _ _, by simp⟩

theorem Left_k (w : World) (b : Nat) (st : Option (List UInt8)) (h : Rd w b st) : Calls Tryd.prog 32 #[.pointer (some ⟨b, 0, none⟩)] w fun e w' => e = .returned (.int .i64 (st.getD []).length) ∧ w = w' := by
  cases st with
  | none => exact Left_bad w b h.c1
  | some l => exact Left_at w b l h.c0 h.c1
theorem Bad_k (w : World) (b : Nat) (st : Option (List UInt8)) (h : Rd w b st) : Calls Tryd.prog 34 #[.pointer (some ⟨b, 0, none⟩)] w fun e w' => e = .returned (.bool st.isNone) ∧ w = w' :=
  Bad_at w b _ h.c1

/-- what a call by its number hands back: is it the zero value? and what is left -/
def zeroB (st : Option (List UInt8)) : Nat → Bool
  | 0 => valOf intP st == 0
  | 1 => (valOf textP st).isEmpty
  | 2 => ((valOf (listP intP) st).length : Int) == 0
  | _ => ((valOf (listP textP) st).length : Int) == 0
def leftB (st : Option (List UInt8)) : Nat → Option (List UInt8)
  | 0 => restOf intP st
  | 1 => restOf textP st
  | 2 => restOf (listP intP) st
  | _ => restOf (listP textP) st

set_option maxHeartbeats 400000 in
theorem decodes_0 (w : World) (hb : Base w) (b : Nat) (st : Option (List UInt8)) (h : Rd w b st) (hl : ∀ l, st = some l → l.length ≤ 1000000) :
    Calls Tryd.prog 36 #[.pointer (some ⟨b, 0, none⟩), .int .i64 0] w fun e w' => e = .returned (.bool (zeroB st 0)) ∧ Rd w' b (leftB st 0) ∧ w.grownBy w' (some b) := by
  have H := Lib.hid (int_k w hb b st h (fun l e => by have := hl l e; omega))
  clear hl
  go_enter Tryd.func36, Tryd.ntmps36
  go_wp2_with (go_at_call 22; refine H.out.mono ?_; rintro e w' ⟨rfl, hr, hg⟩)
  go_ret
  exact ⟨rfl, hr, hg⟩
set_option maxHeartbeats 400000 in
theorem decodes_1 (w : World) (hb : Base w) (b : Nat) (st : Option (List UInt8)) (h : Rd w b st) (hl : ∀ l, st = some l → l.length ≤ 1000000) :
    Calls Tryd.prog 36 #[.pointer (some ⟨b, 0, none⟩), .int .i64 1] w fun e w' => e = .returned (.bool (zeroB st 1)) ∧ Rd w' b (leftB st 1) ∧ w.grownBy w' (some b) := by
  have H := Lib.hid (text_k w hb b st h (fun l e => by have := hl l e; omega))
  clear hl
  go_enter Tryd.func36, Tryd.ntmps36
  go_wp2_with (go_at_call 24; refine H.out.mono ?_; rintro e w' ⟨rfl, hr, hg⟩)
  go_ret
  exact ⟨rfl, hr, hg⟩
theorem own_slice {w : World} {B e n : Nat} {v : Value} {xs : List Value} (h : w.ownsRow B e 1 v n xs) : ∃ A c, v = .slice A n c ∧ n ≤ c ∧ c ≤ maxLen := by
  rcases h.2 with ⟨rfl, rfl⟩ | ⟨g, cap, cur, rfl, _, _, h1, h2, _⟩
  · exact ⟨_, _, rfl, Nat.le_refl _, by simp [maxLen]⟩
  · exact ⟨_, _, rfl, h1, h2⟩
set_option maxHeartbeats 400000 in
set_option maxRecDepth 100000 in
theorem decodes_2 (w : World) (hb : Base w) (b : Nat) (hb6 : 6 ≤ b) (st : Option (List UInt8)) (h : Rd w b st) (hl : ∀ l, st = some l → l.length ≤ 1000000) :
    Calls Tryd.prog 36 #[.pointer (some ⟨b, 0, none⟩), .int .i64 2] w fun e w' => e = .returned (.bool (zeroB st 2)) ∧ Rd w' b (leftB st 2) ∧ w.grownBy w' (some b) := by
  have H := Lib.hid (ints_k w hb b hb6 st h hl)
  clear hl
  go_enter Tryd.func36, Tryd.ntmps36
  go_wp2_with (go_at_call 27; refine H.out.mono ?_; rintro e w' ⟨v, rfl, ho, hr, hg⟩; obtain ⟨A, c, rfl, hnc, hcm⟩ := own_slice ho)
  go_ret
  exact ⟨rfl, hr, hg⟩
set_option maxHeartbeats 400000 in
set_option maxRecDepth 100000 in
theorem decodes_3 (w : World) (hb : Base w) (b : Nat) (hb6 : 6 ≤ b) (st : Option (List UInt8)) (h : Rd w b st) (hl : ∀ l, st = some l → l.length ≤ 1000000) :
    Calls Tryd.prog 36 #[.pointer (some ⟨b, 0, none⟩), .int .i64 3] w fun e w' => e = .returned (.bool (zeroB st 3)) ∧ Rd w' b (leftB st 3) ∧ w.grownBy w' (some b) := by
  have H := Lib.hid (texts_k w hb b hb6 st h hl)
  clear hl
  go_enter Tryd.func36, Tryd.ntmps36
  go_wp2_with (go_at_call 30; refine H.out.mono ?_; rintro e w' ⟨v, rfl, ho, hr, hg⟩; obtain ⟨A, c, rfl, hnc, hcm⟩ := own_slice ho)
  go_ret
  exact ⟨rfl, hr, hg⟩
theorem decodes_k (w : World) (hb : Base w) (b : Nat) (hb6 : 6 ≤ b) (st : Option (List UInt8)) (h : Rd w b st) (hl : ∀ l, st = some l → l.length ≤ 1000000) (j : Nat) (hj : j < 4) :
    Calls Tryd.prog 36 #[.pointer (some ⟨b, 0, none⟩), .int .i64 j] w fun e w' => e = .returned (.bool (zeroB st j)) ∧ Rd w' b (leftB st j) ∧ w.grownBy w' (some b) := by
  match j, hj with
  | 0, _ => exact decodes_0 w hb b st h hl
  | 1, _ => exact decodes_1 w hb b st h hl
  | 2, _ => exact decodes_2 w hb b hb6 st h hl
  | 3, _ => exact decodes_3 w hb b hb6 st h hl

set_option maxHeartbeats 400000 in
theorem decodes_nil0 (w : World) : Calls Tryd.prog 36 #[.pointer none, .int .i64 0] w fun e w' => e = .returned (.bool true) ∧ w = w' := by
  go_enter Tryd.func36, Tryd.ntmps36
  go_wp2_with (go_at_call 22; refine (int_nil w).mono ?_; rintro e w' ⟨rfl, rfl⟩)
  go_ret
  exact ⟨rfl, rfl⟩
set_option maxHeartbeats 400000 in
theorem decodes_nil1 (w : World) : Calls Tryd.prog 36 #[.pointer none, .int .i64 1] w fun e w' => e = .returned (.bool true) ∧ w = w' := by
  go_enter Tryd.func36, Tryd.ntmps36
  go_wp2_with (go_at_call 24; refine (text_nil w).mono ?_; rintro e w' ⟨rfl, rfl⟩)
  go_ret
  exact ⟨rfl, rfl⟩
set_option maxHeartbeats 400000 in
theorem decodes_nil2 (w : World) : Calls Tryd.prog 36 #[.pointer none, .int .i64 2] w fun e w' => e = .returned (.bool true) ∧ w = w' := by
  go_enter Tryd.func36, Tryd.ntmps36
  go_wp2_with (go_at_call 27; refine (ints_nil w).mono ?_; rintro e w' ⟨rfl, rfl⟩)
  go_ret
  exact ⟨rfl, rfl⟩
set_option maxHeartbeats 400000 in
theorem decodes_nil3 (w : World) : Calls Tryd.prog 36 #[.pointer none, .int .i64 3] w fun e w' => e = .returned (.bool true) ∧ w = w' := by
  go_enter Tryd.func36, Tryd.ntmps36
  go_wp2_with (go_at_call 30; refine (texts_nil w).mono ?_; rintro e w' ⟨rfl, rfl⟩)
  go_ret
  exact ⟨rfl, rfl⟩
theorem decodes_nil (w : World) (j : Nat) (hj : j < 4) : Calls Tryd.prog 36 #[.pointer none, .int .i64 j] w fun e w' => e = .returned (.bool true) ∧ w = w' := by
  match j, hj with
  | 0, _ => exact decodes_nil0 w
  | 1, _ => exact decodes_nil1 w
  | 2, _ => exact decodes_nil2 w
  | 3, _ => exact decodes_nil3 w

/-- a string on which each call turns a reader bad, and hands back nothing -/
def badAll (l : List UInt8) : Bool := [0, 1, 2, 3].all fun k => zeroB (some l) k && (leftB (some l) k).isNone
theorem badAll_at {l : List UInt8} (h : badAll l = true) (k : Nat) (hk : k < 4) : zeroB (some l) k = true ∧ leftB (some l) k = none := by
  simp only [badAll, List.all_cons, List.all_nil, Bool.and_true, Bool.and_eq_true, Option.isNone_iff_eq_none] at h
  match k, hk with
  | 0, _ => exact h.1
  | 1, _ => exact h.2.1
  | 2, _ => exact h.2.2.1
  | 3, _ => exact h.2.2.2

set_option maxRecDepth 100000 in
set_option maxHeartbeats 1000000 in
theorem malformed_k (l : List UInt8) (hl : l.length ≤ 1000000) (hbad : badAll l = true) (w : World) (hb : Base w) :
    Calls Tryd.prog 37 #[.string ⟨l.toArray⟩] w fun e w' => e = .returned (.bool true) ∧ w.grownBy w' none := by
  have hb' := Lib.hid hb
  have hat := Lib.hid (fun k hk => badAll_at hbad k hk)
  have hsz := hb.size
  clear hbad
  go_enter Tryd.func37, Tryd.ntmps37
  go_wp2
  go_loopw [3] (fun i wr => ∃ k : Nat, k ≤ 4 ∧ i = .int .i64 k ∧ w.grownBy wr none) (fun i _ => 4 - (intOf i).toNat)
  case atStart => exact ⟨0, by omega, rfl, World.grownBy.refl _ _⟩
  case round =>
    obtain ⟨k, hk, rfl, hg⟩ := hrel
    by_cases hlt : k < 4
    · have hbr := hb'.out.none_ hg
      have hn := Lib.hid (new_k l wr)
      have hd : ∀ w1, wr.grownBy w1 none → Rd w1 wr.heap.size (some l) → wr.heap.size < w1.heap.size → Calls Tryd.prog 36 #[.pointer (some ⟨wr.heap.size, 0, none⟩), .int .i64 k] w1 fun e w' => e = .returned (.bool true) ∧ Rd w' wr.heap.size none ∧ w1.grownBy w' (some wr.heap.size) := by
        intro w1 hg1 hr1 _
        have := decodes_k w1 (hbr.none_ hg1) wr.heap.size (by have := hg.size; omega) (some l) hr1 (fun l' e => by injection e with e; subst e; exact hl) k hlt
        rw [(hat.out k hlt).1, (hat.out k hlt).2] at this
        exact this
      have Hd := Lib.hid hd
      clear hd
      go_wp2_with (first
        | (go_at_call 20; refine hn.out.mono ?_; rintro e w1 ⟨rfl, hr1, hg1, hlt1⟩)
        | (go_at_call 36; refine (Hd.out w1 hg1 hr1 hlt1).mono ?_; rintro e w2 ⟨rfl, hr2, hg2⟩)
        | (go_at_call 34; refine (Bad_k _ _ _ hr2).mono ?_; rintro e w3 ⟨rfl, rfl⟩)
        | (go_at_call 32; refine (Left_k _ _ _ hr2).mono ?_; rintro e w3 ⟨rfl, rfl⟩))
      exact ⟨⟨k + 1, by omega, by go_num, (hg.trans hg1).andThen hg2 (fun j hj => .inl (by injection hj with hj; have := hg.size; omega))⟩, by simp [intOf]; omega⟩
    · go_wp2
      go_ret
      exact ⟨rfl, hg⟩
end Go.Proofs.YtmohcanfkcopiaaDoor
