/-
  (*wire.Reader).number, by its contract.
-/
import Derived.Test.YtmohcanfkcopiaaDoorBase
import Derived.Deep.QuietTactic
import Derived.BigQuiet
import Derived.ScopeJumps
import Derived.Maps.RangeWalk
namespace Go.Proofs.YtmohcanfkcopiaaDoor
open Go.RowKit
attribute [local go_sem] get_mk extract_mk

/-- what follows a label that is jumped to once, forward -/
def After (P : Program) (rest : Code) (Q : Exit → Act → World → Prop) (a : Act) (w : World) : Prop := rest.wp P (Exit.noGoto Q) a w

theorem wp_scope_forward {P : Program} {c rest : Code} {Q : Exit → Act → World → Prop} {a : Act} {w : World} (l : Nat) (hf : findLabel c l = some rest)
    (first : c.wp P (Exit.jump l (After P rest Q) Q) a w) : (Code.scope c).wp P Q a w := by
  refine wp_scope_jumps l (After P rest Q) (fun _ _ => 0) hf first fun a w h => ?_
  refine Code.wp_mono ?_ h
  intro e a' w' hq
  cases e with
  | goto l' => exact hq.elim
  | normal => exact hq
  | exit id => exact hq
  | ret => exact hq
  | panic ch => exact hq
  | outgrown => exact hq
set_option maxHeartbeats 400000 in
theorem number_nil (w : World) (k : Int) : Calls Tryd.prog 42 #[.pointer none, .int .u8 k] w fun e w' => e = .returned (.tuple #[.int .i64 0, .bool false]) ∧ w = w' := by
  go_enter Tryd.func42, Tryd.ntmps42
  go_wp2
  refine wp_scope_forward 0 rfl ?_
  go_wp2_with (go_at_call 34; refine (Bad_nil w).mono ?_; rintro e w' ⟨rfl, rfl⟩)
  refine wp_goto (And.intro rfl ?_)
  unfold After
  go_wp2_with (go_at_call 45; refine (fail_nil w).mono ?_; rintro e w' ⟨rfl, rfl⟩)
  rw [Exit.noGoto_ret]
  go_ret2
  exact ⟨rfl, rfl⟩

set_option maxHeartbeats 400000 in
theorem number_bad (w : World) (b : Nat) (k : Int) (h : Rd w b none) : Calls Tryd.prog 42 #[.pointer (some ⟨b, 0, none⟩), .int .u8 k] w fun e w' => e = .returned (.tuple #[.int .i64 0, .bool false]) ∧ Rd w' b none ∧ w.grownBy w' (some b) := by
  go_enter Tryd.func42, Tryd.ntmps42
  go_wp2
  refine wp_scope_forward 0 rfl ?_
  go_wp2_with (go_at_call 34; refine (Bad_at w b true h.c1).mono ?_; rintro e w' ⟨rfl, rfl⟩)
  refine wp_goto (And.intro rfl ?_)
  unfold After
  go_wp2_with (go_at_call 45; refine (fail_at w b none h).mono ?_; rintro e w' ⟨rfl, hr, hg⟩)
  rw [Exit.noGoto_ret]
  go_ret2
  exact ⟨rfl, hr, hg⟩

theorem nat_u8 (c : UInt8) : (Int.toNat (c.toNat : Int)).toUInt8 = c := by simp
theorem take_min (l : List UInt8) : l.take (min (l.length : Int) 21).toNat = l.take 21 := by
  by_cases h : l.length ≤ 21
  · rw [List.take_of_length_le (by omega), List.take_of_length_le (by omega)]
  · congr 1; omega
/-- strings.IndexByte over the first 21 bytes -/
theorem index_k (l : List UInt8) (c : UInt8) (n : Int) (h : Lib.indexByte (l.take 21) c = n) (w : World) :
    Calls Tryd.prog 53 #[.string ⟨(l.take (min (l.length : Int) 21).toNat).toArray⟩, .int .u8 c.toNat] w fun e w' => e = .returned (.int .i64 n) ∧ w' = w := by
  have := Tryd.strings_IndexByte ⟨(l.take (min (l.length : Int) 21).toNat).toArray⟩ c.toNat w
  rw [nat_u8] at this
  simp only [take_min] at this ⊢
  rw [h] at this
  exact this

set_option maxHeartbeats 400000 in
set_option maxRecDepth 100000 in
theorem number_none (w : World) (b : Nat) (c : UInt8) (l : List UInt8) (h : Rd w b (some l)) (hi : c ∉ l.take 21) (hl : l.length ≤ 4611686018427387904) :
    Calls Tryd.prog 42 #[.pointer (some ⟨b, 0, none⟩), .int .u8 c.toNat] w fun e w' => e = .returned (.tuple #[.int .i64 0, .bool false]) ∧ Rd w' b none ∧ w.grownBy w' (some b) := by
  have h0 := h.c0
  have h1 := h.c1
  simp only [Option.getD_some] at h0
  have hx := Lib.hid (index_k l c (-1) (index_none hi))
  go_enter Tryd.func42, Tryd.ntmps42
  go_wp2
  refine wp_scope_forward 0 rfl ?_
  go_wp2_with (first | (go_at_call 34; refine (Bad_at w b false h1).mono ?_; rintro e w' ⟨rfl, rfl⟩))
  go_quiet ((go_at_call 53; exact Calls.quiet_of_same (hx.out _)))
  go_wp2
  refine wp_goto (And.intro rfl ?_)
  unfold After
  have hr : Rd (w.drewN nq) b (some l) := h
  go_wp2_with (go_at_call 45; refine (fail_at _ b _ hr).mono ?_; rintro e w' ⟨rfl, hr, hg⟩)
  rw [Exit.noGoto_ret]
  go_ret2
  exact ⟨rfl, hr, (grown_drewN w nq _).trans hg⟩


theorem index_form {c : UInt8} {f t : List UInt8} (hc : c ∉ f) (hf : f.length ≤ 20) : Lib.indexByte ((f ++ c :: t).take 21) c = f.length := by
  rw [List.take_append, List.take_of_length_le (by omega)]
  obtain ⟨k, hk⟩ : ∃ k, 21 - f.length = k + 1 := ⟨20 - f.length, by omega⟩
  rw [hk, List.take_succ_cons]
  exact index_at hc

set_option maxHeartbeats 400000 in
set_option maxRecDepth 100000 in
theorem number_err (w : World) (hb : Base w) (b : Nat) (c : UInt8) (f t : List UInt8) (h : Rd w b (some (f ++ c :: t))) (hc : c ∉ f) (hf : f.length ≤ 20) (hl : (f ++ c :: t).length ≤ 4611686018427387904)
    (v : Int) (hat : ∀ w, Base w → Calls Tryd.prog 54 #[.string ⟨f.toArray⟩] w fun e w' => ∃ N, e = .returned (.tuple #[.int .i64 v, .iface 87 (.pointer (some ⟨N, 0, none⟩))]) ∧ w.grownBy w' none) :
    Calls Tryd.prog 42 #[.pointer (some ⟨b, 0, none⟩), .int .u8 c.toNat] w fun e w' => e = .returned (.tuple #[.int .i64 0, .bool false]) ∧ Rd w' b none ∧ w.grownBy w' (some b) := by
  have hin : Lib.indexByte ((f ++ c :: t).take 21) c = f.length := by
    rw [List.take_append, List.take_of_length_le (by omega)]
    obtain ⟨k, hk⟩ : ∃ k, 21 - f.length = k + 1 := ⟨20 - f.length, by omega⟩
    rw [hk, List.take_succ_cons]
    exact index_at hc
  have htk : List.take f.length (f ++ c :: t) = f := by simp
  generalize hL : f ++ c :: t = L at *
  have h0 := h.c0
  have h1 := h.c1
  simp only [Option.getD_some] at h0
  have hx := Lib.hid (index_k L c _ hin)
  have hle : f.length ≤ L.length := by rw [← hL]; simp
  have hL' := Lib.hid hL
  clear hL hin
  have hat' := Lib.hid hat
  clear hat
  have hb' := Lib.hid hb
  go_enter Tryd.func42, Tryd.ntmps42
  go_wp2
  refine wp_scope_forward 0 rfl ?_
  go_wp2_with (first | (go_at_call 34; refine (Bad_at w b false h1).mono ?_; rintro e w' ⟨rfl, rfl⟩))
  go_quiet ((go_at_call 53; exact Calls.quiet_of_same (hx.out _)))
  have hbq : Base (w.drewN nq) := hb'.out.none_ (grown_drewN w nq none)
  go_wp2_with (go_at_call 54; refine (hat'.out _ hbq).mono ?_; rintro e w' ⟨N, rfl, hg⟩)
  refine wp_goto (And.intro rfl ?_)
  unfold After
  have hr : Rd w' b (some L) := Rd.grown (w := w.drewN nq) h hg (by simp)
  go_wp2_with (go_at_call 45; refine (fail_at _ b _ hr).mono ?_; rintro e w'' ⟨rfl, hr, hg'⟩)
  rw [Exit.noGoto_ret]
  go_ret2
  exact ⟨rfl, hr, (grown_drewN w nq _).trans ((hg.but _).trans hg')⟩

set_option maxHeartbeats 400000 in
set_option maxRecDepth 100000 in
theorem number_other (w : World) (hb : Base w) (b : Nat) (c : UInt8) (f t : List UInt8) (h : Rd w b (some (f ++ c :: t))) (hc : c ∉ f) (hf : f.length ≤ 20) (hl : (f ++ c :: t).length ≤ 4611686018427387904)
    (v : Int) (hv : I64 v) (hne : Lib.itoa v ≠ f) (hat : ∀ w, Base w → Calls Tryd.prog 54 #[.string ⟨f.toArray⟩] w fun e w' => e = .returned (.tuple #[.int .i64 v, .nilIface]) ∧ w.grownBy w' none) :
    Calls Tryd.prog 42 #[.pointer (some ⟨b, 0, none⟩), .int .u8 c.toNat] w fun e w' => e = .returned (.tuple #[.int .i64 0, .bool false]) ∧ Rd w' b none ∧ w.grownBy w' (some b) := by
  have hne1 : (Lib.itoa v == f) = false := by simpa using hne
  have hin : Lib.indexByte ((f ++ c :: t).take 21) c = f.length := index_form hc hf
  have htk : List.take f.length (f ++ c :: t) = f := by simp
  have hdr : List.drop (f.length + 1) (f ++ c :: t) = t := by rw [List.drop_append]; simp
  have hle : f.length + 1 ≤ (f ++ c :: t).length := by simp
  generalize hL : f ++ c :: t = L at *
  have h0 := h.c0
  have h1 := h.c1
  simp only [Option.getD_some] at h0
  have hx := Lib.hid (index_k L c _ hin)
  have hL' := Lib.hid hL
  clear hL hin
  have hat' := Lib.hid hat
  clear hat
  have hb' := Lib.hid hb
  have hv' := Lib.hid hv
  have hne' := Lib.hid hne
  clear hne
  go_enter Tryd.func42, Tryd.ntmps42
  go_wp2
  refine wp_scope_forward 0 rfl ?_
  go_wp2_with (first | (go_at_call 34; refine (Bad_at w b false h1).mono ?_; rintro e w' ⟨rfl, rfl⟩))
  go_quiet ((go_at_call 53; exact Calls.quiet_of_same (hx.out _)))
  have hbq : Base (w.drewN nq) := hb'.out.none_ (grown_drewN w nq none)
  go_wp2_with (first
    | (go_at_call 54; refine (hat'.out _ hbq).mono ?_; rintro e w' ⟨rfl, hg⟩; have hb1 := hbq.none_ hg)
    | (go_at_call 38; refine (itoa_k v hv'.out _ hb1).mono ?_; rintro e w2 ⟨rfl, hg2⟩))
  refine wp_goto (And.intro rfl ?_)
  unfold After
  have hr : Rd w2 b (some L) := Rd.grown (Rd.grown (w := w.drewN nq) h hg (by simp)) hg2 (by simp)
  go_wp2_with (go_at_call 45; refine (fail_at _ b _ hr).mono ?_; rintro e w'' ⟨rfl, hr, hg'⟩)
  rw [Exit.noGoto_ret]
  go_ret2
  exact ⟨rfl, hr, (grown_drewN w nq _).trans ((hg.but _).trans ((hg2.but _).trans hg'))⟩

set_option maxHeartbeats 400000 in
set_option maxRecDepth 100000 in
theorem number_ok (w : World) (hb : Base w) (b : Nat) (c : UInt8) (f t : List UInt8) (h : Rd w b (some (f ++ c :: t))) (hc : c ∉ f) (hf : f.length ≤ 20) (hl : (f ++ c :: t).length ≤ 4611686018427387904)
    (v : Int) (hv : I64 v) (he : Lib.itoa v = f) (hat : ∀ w, Base w → Calls Tryd.prog 54 #[.string ⟨f.toArray⟩] w fun e w' => e = .returned (.tuple #[.int .i64 v, .nilIface]) ∧ w.grownBy w' none) :
    Calls Tryd.prog 42 #[.pointer (some ⟨b, 0, none⟩), .int .u8 c.toNat] w fun e w' => e = .returned (.tuple #[.int .i64 v, .bool true]) ∧ Rd w' b (some t) ∧ w.grownBy w' (some b) := by
  have hin : Lib.indexByte ((f ++ c :: t).take 21) c = f.length := index_form hc hf
  have htk : List.take f.length (f ++ c :: t) = f := by simp
  have hdr : List.drop (f.length + 1) (f ++ c :: t) = t := by rw [List.drop_append]; simp
  have hle : f.length + 1 ≤ (f ++ c :: t).length := by simp
  generalize hL : f ++ c :: t = L at *
  have h0 := h.c0
  have h1 := h.c1
  simp only [Option.getD_some] at h0
  have hx := Lib.hid (index_k L c _ hin)
  have hL' := Lib.hid hL
  clear hL hin
  have hat' := Lib.hid hat
  clear hat
  have hb' := Lib.hid hb
  have hv' := Lib.hid hv
  have hi : ∀ w, Base w → Calls Tryd.prog 38 #[.int .i64 v] w fun e w' => e = .returned (.string ⟨f.toArray⟩) ∧ w.grownBy w' none := by
    intro w hb
    have := itoa_k v hv w hb
    rw [he] at this
    exact this
  have hi' := Lib.hid hi
  clear hi he
  go_enter Tryd.func42, Tryd.ntmps42
  go_wp2
  refine wp_scope_forward 0 rfl ?_
  go_wp2_with (first | (go_at_call 34; refine (Bad_at w b false h1).mono ?_; rintro e w' ⟨rfl, rfl⟩))
  go_quiet ((go_at_call 53; exact Calls.quiet_of_same (hx.out _)))
  have hbq : Base (w.drewN nq) := hb'.out.none_ (grown_drewN w nq none)
  go_wp2_with (first
    | (go_at_call 54; refine (hat'.out _ hbq).mono ?_; rintro e w' ⟨rfl, hg⟩; have hb1 := hbq.none_ hg)
    | (go_at_call 38; refine (hi'.out _ hb1).mono ?_; rintro e w2 ⟨rfl, hg2⟩; have hr2 : Rd w2 b (some L) := Rd.grown (Rd.grown (w := w.drewN nq) h hg (by simp)) hg2 (by simp); have h02 := hr2.c0; have f02 := hr2.fz 0; simp only [Option.getD_some] at h02))
  simp only [Exit.jump]
  go_ret2
  exact ⟨rfl, hr2.set0 t, (grown_drewN w nq _).trans ((hg.but _).trans ((hg2.but _).trans (grown_setCell _ _ _ _)))⟩

/-- strconv.Atoi, the three ways -/
theorem atoi_ok (f : List UInt8) (hf : f.length ≤ 20) (v : Int) (h : Lib.atoiAll f = .ok v) (w : World) (_ : Base w) :
    Calls Tryd.prog 54 #[.string ⟨f.toArray⟩] w fun e w' => e = .returned (.tuple #[.int .i64 v, .nilIface]) ∧ w.grownBy w' none :=
  (Tryd.strconv_Atoi_ok ⟨f.toArray⟩ (by show f.toArray.size ≤ _; simp; omega) v (by simpa using h) w).mono fun _ _ ⟨he, hw⟩ => ⟨he, by
    rcases hw with rfl | ⟨t, rfl⟩
    · exact World.grownBy.refl _ _
    · exact grown_of_below (Lib.bytesWorld_below _ _ _)⟩
theorem atoi_other (f : List UInt8) (hf : f.length ≤ 20) (h1 : ∀ v, Lib.atoiAll f ≠ .ok v) (h2 : Lib.atoiAll f ≠ .range) (w : World) (hb : Base w) :
    Calls Tryd.prog 54 #[.string ⟨f.toArray⟩] w fun e w' => ∃ N, e = .returned (.tuple #[.int .i64 0, .iface 87 (.pointer (some ⟨N, 0, none⟩))]) ∧ w.grownBy w' none := by
  obtain ⟨t, p, hc⟩ := hb.syn
  cases hx : Lib.atoiAll f with
  | ok v => exact absurd hx (h1 v)
  | range => exact absurd hx h2
  | _ =>
    exact (Any.strconv_Atoi_syntax Tryd.laysC172 ⟨f.toArray⟩ (by show f.toArray.size ≤ _; simp; omega) (by simpa using hx) _ w hc (.inr ⟨t, p, rfl⟩)).mono fun _ _ ⟨N, he, _, _, hw⟩ => ⟨N, he, grown_of_below hw⟩
theorem atoi_range (f : List UInt8) (hf : f.length ≤ 20) (h : Lib.atoiAll f = .range) (w : World) (hb : Base w) :
    Calls Tryd.prog 54 #[.string ⟨f.toArray⟩] w fun e w' => ∃ N, e = .returned (.tuple #[.int .i64 (Lib.atoiSat f), .iface 87 (.pointer (some ⟨N, 0, none⟩))]) ∧ w.grownBy w' none := by
  obtain ⟨t, p, hc⟩ := hb.ran
  exact (Tryd.strconv_Atoi_range ⟨f.toArray⟩ (by show f.toArray.size ≤ _; simp; omega) (by simpa using h) _ w hc (.inr ⟨t, p, rfl⟩)).mono fun _ _ ⟨N, he, _, _, hw⟩ => ⟨N, by simpa using he, grown_of_below hw⟩

/-- (*wire.Reader).number -/
theorem number_k (w : World) (hb : Base w) (b : Nat) (c : UInt8) (hc : 58 ≤ c.toNat) (st : Option (List UInt8)) (h : Rd w b st) (hl : ∀ l, st = some l → l.length ≤ 4611686018427387904) :
    Calls Tryd.prog 42 #[.pointer (some ⟨b, 0, none⟩), .int .u8 c.toNat] w fun e w' => e = .returned (.tuple #[.int .i64 (valOf (numP c) st), .bool (restOf (numP c) st).isSome]) ∧ Rd w' b (restOf (numP c) st) ∧ w.grownBy w' (some b) := by
  cases st with
  | none => exact number_bad w b _ h
  | some l =>
    have hl := hl l rfl
    cases hn : numP c l with
    | some r =>
      obtain ⟨n, t⟩ := r
      obtain ⟨hi, rfl⟩ := (numP_iff hc _ _ _).1 hn
      have := number_ok w hb b c (Lib.itoa n) t h (itoa_no hc) (itoa_len hi) hl n hi rfl (fun w hb => atoi_ok _ (itoa_len hi) n (atoi_itoa n hi) w hb)
      simpa [valOf, restOf, hn] using this
    | none =>
      have hN : valOf (numP c) (some l) = 0 := by simp [valOf, hn]
      have hR : restOf (numP c) (some l) = none := by simp [restOf, hn]
      rw [hN, hR]
      by_cases hm : c ∈ l.take 21
      · cases hcut : cutAt c l with
        | none => exact absurd (List.mem_of_mem_take hm) ((cutAt_none c l).1 hcut)
        | some r =>
          obtain ⟨f, t⟩ := r
          obtain ⟨rfl, hcf⟩ := (cutAt_iff c l f t).1 hcut
          have hf : f.length ≤ 20 := by
            rcases Nat.lt_or_ge 20 f.length with h20 | h20
            · rw [List.take_append_of_le_length (by omega)] at hm
              exact absurd (List.mem_of_mem_take hm) hcf
            · exact h20
          cases hat : Lib.atoiAll f with
          | ok v =>
            have hv := atoi_range' hat
            refine number_other w hb b c f t h hcf hf hl v hv ?_ (fun w hb => atoi_ok f hf v hat w hb)
            intro he
            unfold numP at hn
            rw [hcut] at hn
            simp [hat, he] at hn
          | range => exact number_err w hb b c f t h hcf hf hl _ (fun w hb => atoi_range f hf hat w hb)
          | _ => exact number_err w hb b c f t h hcf hf hl _ (fun w hb => atoi_other f hf (fun v e => by rw [hat] at e; cases e) (fun e => by rw [hat] at e; cases e) w hb)
      · exact number_none w b c l h hm hl
end Go.Proofs.YtmohcanfkcopiaaDoor
