/-
  Verify, Within and Extends, the program's and the reference's, whatever they are given.
-/
import Derived.Test.YtljjmoeplfcblaaDSounds
import Derived.Test.YtljjmoeplfcblaaGen
import Derived.Test.YtljjmoeplfcblaaWithin
import Derived.Test.YtljjmoeplfcblaaRLed
import Derived.Test.YtljjmoeplfcblaaExtends
namespace Go.Proofs.Ytljjmoeplfcblaa
open Go.RowKit Go.Shelf
attribute [local go_sem] get_mk extract_mk
/-- the reference's Verify -/
theorem rver_g (r : Str) (n i : Int) (hn : I64 n) (hi : I64 i) (LA : Option Addr) (lm lc : Nat) (LL : List Str) (PA : Option Addr) (p pc : Nat) (PL : List Str) (hsl : ∀ x ∈ LL, x.length ≤ 1152921504606846976) (hlm : lm ≤ 1000) (w : World) (hL : Strs w LA lm lc LL) (hP : Strs w PA p pc PL) :
    Calls Try.prog 37 #[.string ⟨r.toArray⟩, .int .i64 n, .int .i64 i, .slice LA lm lc, .slice PA p pc] w fun e w' => e = .returned (.bool (verB r n i LL PL)) ∧ w.grownBy w' none := by
  have HLD := Lib.hid (led_g n i hn hi LA lm lc LL PA p pc PL hsl hlm w hL hP)
  have HV := Lib.hid (ver_led r n i LL PL)
  clear hn hi hL hP hsl
  generalize ledS n i LL PL = Ls at *
  generalize fitsB n i LL PL = Fb at *
  go_enter Try.func37, Try.ntmps37
  go_wp2_with fail
  refine HLD.out.mono ?_
  rintro e w1 ⟨rfl, g1⟩
  cases Fb with
  | false =>
    go_wp2_with fail
    go_ret
    exact ⟨by rw [HV.out]; rfl, g1⟩
  | true =>
    by_cases hE : Ls = r
    · subst hE
      go_wp2_with fail
      go_ret
      exact ⟨by rw [HV.out]; simp, g1⟩
    · have hEb : (Ls == r) = false := by simpa using hE
      have hEb2 : Hid ((r == Ls) = false) := Lib.hid (by rw [beq_eq_false_iff_ne]; exact fun h => hE h.symm)
      clear hE
      go_wp2_with fail
      go_ret
      exact ⟨by rw [HV.out, hEb2.out]; rfl, g1⟩
end Go.Proofs.Ytljjmoeplfcblaa

namespace Go.Proofs.Ytljjmoeplfcblaa
open Go.RowKit Go.Shelf
attribute [local go_sem] get_mk extract_mk
theorem ver_fits {r : Str} {n i : Int} {LL PL : List Str} (h : verB r n i LL PL = true) : 0 ≤ n ∧ n ≤ 1099511627776 ∧ 0 ≤ i ∧ (LL.length : Int) ≤ n - i := by
  unfold verB fitsB at h
  simp only [Bool.and_eq_true, decide_eq_true_eq] at h
  exact h.1.1.1
/-- whether a claim shows all strings between two -/
def winB (r : Str) (n i : Int) (a b : Str) (LL PL : List Str) : Bool := verB r n i LL PL && sortedB LL && edge1 i.toNat a LL && edge2 n.toNat i.toNat b LL
/-- the strings that it shows -/
def winL (r : Str) (n i : Int) (a b : Str) (LL PL : List Str) : List Str := if winB r n i a b LL PL then LL.filter (between a b) else []
theorem edge1_no {i : Nat} {a : Str} {LL : List Str} (h : edge1 i a LL = false) : 0 < i ∧ (LL.length = 0 ∨ ∃ x, LL[0]? = some x ∧ Op.bytesLess x a = false) := by
  unfold edge1 at h
  simp only [Bool.or_eq_false_iff, beq_eq_false_iff_ne] at h
  refine ⟨by omega, ?_⟩
  cases LL with
  | nil => exact .inl rfl
  | cons x t => exact .inr ⟨x, rfl, h.2⟩
theorem edge1_yes {i : Nat} {a : Str} {LL : List Str} (h : edge1 i a LL = true) : i = 0 ∨ 0 < i ∧ ∃ x, LL[0]? = some x ∧ Op.bytesLess x a = true := by
  unfold edge1 at h
  rcases Nat.eq_zero_or_pos i with h0 | h0
  · exact .inl h0
  · have hb : (i == 0) = false := by simp; omega
    rw [hb, Bool.false_or] at h
    cases LL with
    | nil => simp at h
    | cons x t => exact .inr ⟨h0, x, rfl, h⟩
theorem edge2_no {n i : Nat} {b : Str} {LL : List Str} (h : edge2 n i b LL = false) : i + LL.length < n ∧ (LL.length = 0 ∨ 0 < LL.length ∧ ∃ x, LL[LL.length - 1]? = some x ∧ Op.bytesLess x b = true) := by
  unfold edge2 at h
  simp only [Bool.or_eq_false_iff, Bool.not_eq_false', decide_eq_true_eq] at h
  refine ⟨h.1, ?_⟩
  have h2 := h.2
  rw [List.getLast?_eq_getElem?] at h2
  rcases Nat.eq_zero_or_pos LL.length with h0 | h0
  · exact .inl h0
  · refine .inr ⟨h0, ?_⟩
    cases hL : LL[LL.length - 1]? with
    | none => rw [List.getElem?_eq_none_iff] at hL; omega
    | some x => rw [hL] at h2; exact ⟨x, rfl, by simpa using h2⟩
theorem edge2_yes {n i : Nat} {b : Str} {LL : List Str} (h : edge2 n i b LL = true) : ¬ i + LL.length < n ∨ i + LL.length < n ∧ 0 < LL.length ∧ ∃ x, LL[LL.length - 1]? = some x ∧ Op.bytesLess x b = false := by
  unfold edge2 at h
  by_cases h0 : i + LL.length < n
  · rw [decide_eq_true h0, Bool.not_true, Bool.false_or, List.getLast?_eq_getElem?] at h
    cases hL : LL[LL.length - 1]? with
    | none => rw [hL] at h; simp at h
    | some x => rw [hL] at h; exact .inr ⟨h0, by have := (List.getElem?_eq_some_iff.1 hL).1; omega, x, rfl, by simpa using h⟩
  · exact .inl h0
set_option maxHeartbeats 1000000 in
theorem within_no1 (r : Str) (n i : Int) (a b : Str) (LA : Option Addr) (lm lc : Nat) (LL : List Str) (PA : Option Addr) (p pc : Nat) (PL : List Str) (hn : I64 n) (hi : I64 i) (hlm : lm ≤ 1000) (hp : p ≤ 1000) (w : World) (hL : Strs w LA lm lc LL) (hP : Strs w PA p pc PL) (hv : verB r n i LL PL = false) :
    Calls Try.prog 34 #[.string ⟨r.toArray⟩, .int .i64 n, .string ⟨a.toArray⟩, .string ⟨b.toArray⟩, .int .i64 i, .slice LA lm lc, .slice PA p pc] w fun e w' => e = .returned (.tuple #[.slice none 0 0, .bool false]) ∧ w.grownBy w' none := by
  have H1 := Lib.hid (verify_g r n i hn hi LA lm lc LL PA p pc PL hlm hp w hL hP)
  rw [hv] at H1
  clear hL hP hv hn hi
  go_enter Try.func34, Try.ntmps34
  go_wp2_with fail
  refine H1.out.mono ?_
  rintro e w1 ⟨rfl, g1⟩
  go_wp2_with fail
  refine bodyPost_ret (results_tmp2 rfl _ _ _) rfl ?_
  exact ⟨rfl, g1⟩
set_option maxHeartbeats 1000000 in
theorem within_no2 (r : Str) (n i : Nat) (a b : Str) (LA : Option Addr) (lm lc : Nat) (LL : List Str) (PA : Option Addr) (p pc : Nat) (PL : List Str) (hn : I64 n) (hi : I64 i) (hlm : lm ≤ 1000) (hp : p ≤ 1000) (w : World) (hL : Strs w LA lm lc LL) (hP : Strs w PA p pc PL) (hv : verB r n i LL PL = true) (hs : sortedB LL = false) :
    Calls Try.prog 34 #[.string ⟨r.toArray⟩, .int .i64 n, .string ⟨a.toArray⟩, .string ⟨b.toArray⟩, .int .i64 i, .slice LA lm lc, .slice PA p pc] w fun e w' => e = .returned (.tuple #[.slice none 0 0, .bool false]) ∧ w.grownBy w' none := by
  have H1 := Lib.hid (verify_g r n i hn hi LA lm lc LL PA p pc PL hlm hp w hL hP)
  rw [hv] at H1
  have H2 := Lib.hid (fun w' (g : w.grownBy w' none) => sorted_k LA lm lc LL w' (hL.kept g))
  rw [hs] at H2
  clear hL hP hv hs hn hi
  go_enter Try.func34, Try.ntmps34
  go_wp2_with fail
  refine H1.out.mono ?_
  rintro e w1 ⟨rfl, g1⟩
  go_wp2_with fail
  refine (H2.out w1 g1).mono ?_
  rintro e w2 ⟨rfl, g2⟩
  go_wp2_with fail
  refine bodyPost_ret (results_tmp2 rfl _ _ _) rfl ?_
  exact ⟨rfl, g1.trans g2⟩
set_option maxRecDepth 100000 in
set_option maxHeartbeats 2000000 in
theorem within_no3 (r : Str) (n i : Nat) (a b : Str) (LA : Option Addr) (lm lc : Nat) (LL : List Str) (PA : Option Addr) (p pc : Nat) (PL : List Str) (hn : I64 n) (hi : I64 i) (hlm : lm ≤ 1000) (hp : p ≤ 1000) (w : World) (hL : Strs w LA lm lc LL) (hP : Strs w PA p pc PL) (hv : verB r n i LL PL = true) (hs : sortedB LL = true) (he : edge1 i a LL = false) :
    Calls Try.prog 34 #[.string ⟨r.toArray⟩, .int .i64 n, .string ⟨a.toArray⟩, .string ⟨b.toArray⟩, .int .i64 i, .slice LA lm lc, .slice PA p pc] w fun e w' => e = .returned (.tuple #[.slice none 0 0, .bool false]) ∧ w.grownBy w' none := by
  have H1 := Lib.hid (verify_g r n i hn hi LA lm lc LL PA p pc PL hlm hp w hL hP)
  rw [hv] at H1
  have H2 := Lib.hid (fun w' (g : w.grownBy w' none) => sorted_k LA lm lc LL w' (hL.kept g))
  rw [hs] at H2
  have HL := Lib.hid (fun w' (g : w.grownBy w' none) => hL.kept g)
  have hlc := hL.le
  have hlc2 := hL.cap
  have Hlen := Lib.hid hL.len
  obtain ⟨hi0, hx⟩ := edge1_no he
  have hi1 : (0 : Int) < (i : Int) := by omega
  have q2 : IntKind.i64.wrap ((lm : Int) - 1) = (lm : Int) - 1 := by rw [IntKind.wrap_i64]; omega
  rw [← hL.len] at hx
  clear hL hP hv hs hn hi he hi0
  go_enter Try.func34, Try.ntmps34
  go_wp2_with fail
  refine H1.out.mono ?_
  rintro e w1 ⟨rfl, g1⟩
  go_wp2_with fail
  refine (H2.out w1 g1).mono ?_
  rintro e w2 ⟨rfl, g2⟩
  have g2 := g1.trans g2
  rcases hx with hl0 | ⟨x, hx, hxa⟩
  · have hl2 : ((lm : Int) - 1 < 0) := by omega
    have hl3 : ((lm : Int) == 0) = true := by rw [hl0]; rfl
    clear hl0
    go_wp2_with fail
    refine bodyPost_ret (results_tmp2 rfl _ _ _) rfl ?_
    exact ⟨rfl, g2⟩
  · have hl0 : 0 < lm := by have := (List.getElem?_eq_some_iff.1 hx).1; have := Hlen.out; omega
    obtain ⟨ad, rfl, _, hc⟩ := (HL.out w2 g2).cell hl0
    have hcx := hc 0 x hx
    have hl1 : (0 : Int) < (lm : Int) := by omega
    have hl2 : ¬ ((lm : Int) - 1 < 0) := by omega
    have hl3 : ((lm : Int) == 0) = false := by rw [beq_eq_false_iff_ne]; omega
    have hadd : ad.add 0 = ad := by simp [Addr.add]
    rw [hadd] at hcx
    clear hc hx hadd
    go_wp2_with fail
    refine bodyPost_ret (results_tmp2 rfl _ _ _) rfl ?_
    exact ⟨rfl, g2⟩
set_option maxHeartbeats 1000000 in
theorem rwithin_no1 (r : Str) (n i : Int) (a b : Str) (LA : Option Addr) (lm lc : Nat) (LL : List Str) (PA : Option Addr) (p pc : Nat) (PL : List Str) (hn : I64 n) (hi : I64 i) (hlm : lm ≤ 1000) (hp : p ≤ 1000) (hsl : ∀ x ∈ LL, x.length ≤ 1152921504606846976) (w : World) (hL : Strs w LA lm lc LL) (hP : Strs w PA p pc PL) (hv : verB r n i LL PL = false) :
    Calls Try.prog 35 #[.string ⟨r.toArray⟩, .int .i64 n, .string ⟨a.toArray⟩, .string ⟨b.toArray⟩, .int .i64 i, .slice LA lm lc, .slice PA p pc] w fun e w' => e = .returned (.tuple #[.slice none 0 0, .bool false]) ∧ w.grownBy w' none := by
  have H1 := Lib.hid (rver_g r n i hn hi LA lm lc LL PA p pc PL hsl hlm w hL hP)
  rw [hv] at H1
  clear hL hP hv hn hi hsl
  go_enter Try.func35, Try.ntmps35
  go_wp2_with fail
  refine H1.out.mono ?_
  rintro e w1 ⟨rfl, g1⟩
  go_wp2_with fail
  refine bodyPost_ret (results_tmp2 rfl _ _ _) rfl ?_
  exact ⟨rfl, g1⟩
set_option maxHeartbeats 1000000 in
theorem rwithin_no2 (r : Str) (n i : Nat) (a b : Str) (LA : Option Addr) (lm lc : Nat) (LL : List Str) (PA : Option Addr) (p pc : Nat) (PL : List Str) (hn : I64 n) (hi : I64 i) (hlm : lm ≤ 1000) (hp : p ≤ 1000) (hsl : ∀ x ∈ LL, x.length ≤ 1152921504606846976) (w : World) (hL : Strs w LA lm lc LL) (hP : Strs w PA p pc PL) (hv : verB r n i LL PL = true) (hs : sortedB LL = false) :
    Calls Try.prog 35 #[.string ⟨r.toArray⟩, .int .i64 n, .string ⟨a.toArray⟩, .string ⟨b.toArray⟩, .int .i64 i, .slice LA lm lc, .slice PA p pc] w fun e w' => e = .returned (.tuple #[.slice none 0 0, .bool false]) ∧ w.grownBy w' none := by
  have H1 := Lib.hid (rver_g r n i hn hi LA lm lc LL PA p pc PL hsl hlm w hL hP)
  rw [hv] at H1
  have H2 := Lib.hid (fun w' (g : w.grownBy w' none) => sorted_r LA lm lc LL w' (hL.kept g))
  rw [hs] at H2
  clear hL hP hv hs hn hi hsl
  go_enter Try.func35, Try.ntmps35
  go_wp2_with fail
  refine H1.out.mono ?_
  rintro e w1 ⟨rfl, g1⟩
  go_wp2_with fail
  refine (H2.out w1 g1).mono ?_
  rintro e w2 ⟨rfl, g2⟩
  go_wp2_with fail
  refine bodyPost_ret (results_tmp2 rfl _ _ _) rfl ?_
  exact ⟨rfl, g1.trans g2⟩
set_option maxRecDepth 100000 in
set_option maxHeartbeats 2000000 in
theorem rwithin_no3 (r : Str) (n i : Nat) (a b : Str) (LA : Option Addr) (lm lc : Nat) (LL : List Str) (PA : Option Addr) (p pc : Nat) (PL : List Str) (hn : I64 n) (hi : I64 i) (hlm : lm ≤ 1000) (hp : p ≤ 1000) (hsl : ∀ x ∈ LL, x.length ≤ 1152921504606846976) (w : World) (hL : Strs w LA lm lc LL) (hP : Strs w PA p pc PL) (hv : verB r n i LL PL = true) (hs : sortedB LL = true) (he : edge1 i a LL = false) :
    Calls Try.prog 35 #[.string ⟨r.toArray⟩, .int .i64 n, .string ⟨a.toArray⟩, .string ⟨b.toArray⟩, .int .i64 i, .slice LA lm lc, .slice PA p pc] w fun e w' => e = .returned (.tuple #[.slice none 0 0, .bool false]) ∧ w.grownBy w' none := by
  have H1 := Lib.hid (rver_g r n i hn hi LA lm lc LL PA p pc PL hsl hlm w hL hP)
  rw [hv] at H1
  have H2 := Lib.hid (fun w' (g : w.grownBy w' none) => sorted_r LA lm lc LL w' (hL.kept g))
  rw [hs] at H2
  have HL := Lib.hid (fun w' (g : w.grownBy w' none) => hL.kept g)
  have hlc := hL.le
  have hlc2 := hL.cap
  have Hlen := Lib.hid hL.len
  obtain ⟨hi0, hx⟩ := edge1_no he
  have hi1 : (0 : Int) < (i : Int) := by omega
  have q2 : IntKind.i64.wrap ((lm : Int) - 1) = (lm : Int) - 1 := by rw [IntKind.wrap_i64]; omega
  rw [← hL.len] at hx
  clear hL hP hv hs hn hi hsl he hi0
  go_enter Try.func35, Try.ntmps35
  go_wp2_with fail
  refine H1.out.mono ?_
  rintro e w1 ⟨rfl, g1⟩
  go_wp2_with fail
  refine (H2.out w1 g1).mono ?_
  rintro e w2 ⟨rfl, g2⟩
  have g2 := g1.trans g2
  rcases hx with hl0 | ⟨x, hx, hxa⟩
  · have hl2 : ((lm : Int) - 1 < 0) := by omega
    have hl3 : ((lm : Int) == 0) = true := by rw [hl0]; rfl
    clear hl0
    go_wp2_with fail
    refine bodyPost_ret (results_tmp2 rfl _ _ _) rfl ?_
    exact ⟨rfl, g2⟩
  · have hl0 : 0 < lm := by have := (List.getElem?_eq_some_iff.1 hx).1; have := Hlen.out; omega
    obtain ⟨ad, rfl, _, hc⟩ := (HL.out w2 g2).cell hl0
    have hcx := hc 0 x hx
    have hl1 : (0 : Int) < (lm : Int) := by omega
    have hl2 : ¬ ((lm : Int) - 1 < 0) := by omega
    have hl3 : ((lm : Int) == 0) = false := by rw [beq_eq_false_iff_ne]; omega
    have hadd : ad.add 0 = ad := by simp [Addr.add]
    rw [hadd] at hcx
    clear hc hx hadd
    go_wp2_with fail
    refine bodyPost_ret (results_tmp2 rfl _ _ _) rfl ?_
    exact ⟨rfl, g2⟩
set_option maxRecDepth 100000 in
set_option maxHeartbeats 4000000 in
theorem within_no4 (r : Str) (n i : Nat) (a b : Str) (LA : Option Addr) (lm lc : Nat) (LL : List Str) (PA : Option Addr) (p pc : Nat) (PL : List Str) (hn : I64 n) (hi : I64 i) (h40 : n ≤ 1099511627776) (hin : i + lm ≤ n) (hlm : lm ≤ 1000) (hp : p ≤ 1000) (w : World) (hL : Strs w LA lm lc LL) (hP : Strs w PA p pc PL) (hv : verB r n i LL PL = true) (hs : sortedB LL = true) (he : edge1 i a LL = true) (he2 : edge2 n i b LL = false) :
    Calls Try.prog 34 #[.string ⟨r.toArray⟩, .int .i64 n, .string ⟨a.toArray⟩, .string ⟨b.toArray⟩, .int .i64 i, .slice LA lm lc, .slice PA p pc] w fun e w' => e = .returned (.tuple #[.slice none 0 0, .bool false]) ∧ w.grownBy w' none := by
  have H1 := Lib.hid (verify_g r n i hn hi LA lm lc LL PA p pc PL hlm hp w hL hP)
  rw [hv] at H1
  have H2 := Lib.hid (fun w' (g : w.grownBy w' none) => sorted_k LA lm lc LL w' (hL.kept g))
  rw [hs] at H2
  have HL := Lib.hid (fun w' (g : w.grownBy w' none) => hL.kept g)
  have hlc := hL.le
  have hlc2 := hL.cap
  have Hlen := Lib.hid hL.len
  have q1 : IntKind.i64.wrap ((i : Int) + (lm : Int)) = (i : Int) + (lm : Int) := by rw [IntKind.wrap_i64]; omega
  have q2 : IntKind.i64.wrap ((lm : Int) - 1) = (lm : Int) - 1 := by rw [IntKind.wrap_i64]; omega
  have E1 := Lib.hid (edge1_yes he)
  have E2 := edge2_no he2
  rw [← hL.len] at E2
  have E2 := Lib.hid E2
  clear he he2
  clear hL hP hv hs hn hi
  go_enter Try.func34, Try.ntmps34
  go_wp2_with fail
  refine H1.out.mono ?_
  rintro e w1 ⟨rfl, g1⟩
  go_wp2_with fail
  refine (H2.out w1 g1).mono ?_
  rintro e w2 ⟨rfl, g2⟩
  have g2 := g1.trans g2
  go_upto_region 4 with fail
  go_cut [47] (fun q wx => q = .bool false ∧ w.grownBy wx none)
  case first =>
    rcases E1.out with hi0 | ⟨hi0, x, hx, hxa⟩
    · have hd : decide (0 < i) = false := by simp [hi0]
      have hd2 : ¬ 0 < i := by omega
      clear hi0
      go_wp2_with fail
      go_meet
      exact ⟨rfl, g2⟩
    · have hl0 : 0 < lm := by have := (List.getElem?_eq_some_iff.1 hx).1; have := Hlen.out; omega
      obtain ⟨ad, rfl, _, hc⟩ := (HL.out w2 g2).cell hl0
      have hcx := hc 0 x hx
      have hi1 : (0 : Int) < (i : Int) := by omega
      have hl1 : (0 : Int) < (lm : Int) := by omega
      have hl2 : ¬ ((lm : Int) - 1 < 0) := by omega
      have hadd : ad.add 0 = ad := by simp [Addr.add]
      rw [hadd] at hcx
      clear hc hx hadd hi0
      go_wp2_with fail
      go_meet
      exact ⟨rfl, g2⟩
  case rest =>
  obtain ⟨rfl, g3⟩ := hcut
  clear g1 g2
  go_upto_region 6 with fail
  obtain ⟨hin2, hx⟩ := E2.out
  have hn1 : (i : Int) + (lm : Int) < (n : Int) := by omega
  rcases hx with hl0 | ⟨hl0, x, hx, hxb⟩
  · have hl2 : (lm : Int) - 1 < 0 := by omega
    clear hl0
    go_wp2_with fail
    refine bodyPost_ret (results_tmp2 rfl _ _ _) rfl ?_
    exact ⟨rfl, g3⟩
  · obtain ⟨ad, rfl, _, hc⟩ := (HL.out wc g3).cell hl0
    have hcx := hc _ x hx
    have hl2 : ¬ ((lm : Int) - 1 < 0) := by omega
    have hl3 : (0 : Int) ≤ (lm : Int) - 1 := by omega
    have hl4 : (lm : Int) - 1 < (lm : Int) := by omega
    have hl5 : ((lm : Int) - 1).toNat = lm - 1 := by omega
    clear hc hx hl0
    go_wp2_with fail
    refine bodyPost_ret (results_tmp2 rfl _ _ _) rfl ?_
    exact ⟨rfl, g3⟩
set_option maxRecDepth 100000 in
set_option maxHeartbeats 4000000 in
theorem rwithin_no4 (r : Str) (n i : Nat) (a b : Str) (LA : Option Addr) (lm lc : Nat) (LL : List Str) (PA : Option Addr) (p pc : Nat) (PL : List Str) (hn : I64 n) (hi : I64 i) (h40 : n ≤ 1099511627776) (hin : i + lm ≤ n) (hlm : lm ≤ 1000) (hp : p ≤ 1000) (hsl : ∀ x ∈ LL, x.length ≤ 1152921504606846976) (w : World) (hL : Strs w LA lm lc LL) (hP : Strs w PA p pc PL) (hv : verB r n i LL PL = true) (hs : sortedB LL = true) (he : edge1 i a LL = true) (he2 : edge2 n i b LL = false) :
    Calls Try.prog 35 #[.string ⟨r.toArray⟩, .int .i64 n, .string ⟨a.toArray⟩, .string ⟨b.toArray⟩, .int .i64 i, .slice LA lm lc, .slice PA p pc] w fun e w' => e = .returned (.tuple #[.slice none 0 0, .bool false]) ∧ w.grownBy w' none := by
  have H1 := Lib.hid (rver_g r n i hn hi LA lm lc LL PA p pc PL hsl hlm w hL hP)
  rw [hv] at H1
  have H2 := Lib.hid (fun w' (g : w.grownBy w' none) => sorted_r LA lm lc LL w' (hL.kept g))
  rw [hs] at H2
  have HL := Lib.hid (fun w' (g : w.grownBy w' none) => hL.kept g)
  have hlc := hL.le
  have hlc2 := hL.cap
  have Hlen := Lib.hid hL.len
  have q1 : IntKind.i64.wrap ((i : Int) + (lm : Int)) = (i : Int) + (lm : Int) := by rw [IntKind.wrap_i64]; omega
  have q2 : IntKind.i64.wrap ((lm : Int) - 1) = (lm : Int) - 1 := by rw [IntKind.wrap_i64]; omega
  have E1 := Lib.hid (edge1_yes he)
  have E2 := edge2_no he2
  rw [← hL.len] at E2
  have E2 := Lib.hid E2
  clear he he2
  clear hL hP hv hs hn hi hsl
  go_enter Try.func35, Try.ntmps35
  go_wp2_with fail
  refine H1.out.mono ?_
  rintro e w1 ⟨rfl, g1⟩
  go_wp2_with fail
  refine (H2.out w1 g1).mono ?_
  rintro e w2 ⟨rfl, g2⟩
  have g2 := g1.trans g2
  obtain ⟨hin2, hx2⟩ := E2.out
  have hn1 : (i : Int) + (lm : Int) < (n : Int) := by omega
  rcases E1.out with hi0 | ⟨hi0, x, hx, hxa⟩
  · have hd : decide (0 < i) = false := by simp [hi0]
    have hd2 : ¬ 0 < i := by omega
    clear hi0
    rcases hx2 with hl0 | ⟨hl0, y, hy, hyb⟩
    · have hm6 : ((lm : Int) == 0) = true := by rw [hl0]; rfl
      clear hl0
      go_wp2_with fail
      refine bodyPost_ret (results_tmp2 rfl _ _ _) rfl ?_
      exact ⟨rfl, g2⟩
    · obtain ⟨ad, rfl, _, hc2⟩ := (HL.out w2 g2).cell hl0
      have hcy := hc2 _ y hy
      have hm3 : (0 : Int) ≤ (lm : Int) - 1 := by omega
      have hm4 : (lm : Int) - 1 < (lm : Int) := by omega
      have hm5 : ((lm : Int) - 1).toNat = lm - 1 := by omega
      have hm6 : ((lm : Int) == 0) = false := by rw [beq_eq_false_iff_ne]; omega
      clear hc2 hy hl0
      go_wp2_with fail
      refine bodyPost_ret (results_tmp2 rfl _ _ _) rfl ?_
      exact ⟨rfl, g2⟩
  · have hl0 : 0 < lm := by have := (List.getElem?_eq_some_iff.1 hx).1; have := Hlen.out; omega
    obtain ⟨ad, rfl, _, hc⟩ := (HL.out w2 g2).cell hl0
    have hcx := hc 0 x hx
    have hi1 : (0 : Int) < (i : Int) := by omega
    have hl1 : (0 : Int) < (lm : Int) := by omega
    have hl3 : ((lm : Int) == 0) = false := by rw [beq_eq_false_iff_ne]; omega
    have hadd : ad.add 0 = ad := by simp [Addr.add]
    rw [hadd] at hcx
    clear hx hadd hi0
    rcases hx2 with hl9 | ⟨_, y, hy, hyb⟩
    · omega
    · skip
      have hcy := hc _ y hy
      have hm3 : (0 : Int) ≤ (lm : Int) - 1 := by omega
      have hm4 : (lm : Int) - 1 < (lm : Int) := by omega
      have hm5 : ((lm : Int) - 1).toNat = lm - 1 := by omega

      clear hc hy hl0
      go_wp2_with fail
      refine bodyPost_ret (results_tmp2 rfl _ _ _) rfl ?_
      exact ⟨rfl, g2⟩
set_option maxRecDepth 100000 in
set_option maxHeartbeats 4000000 in
theorem rwithin_k (r : Str) (n i : Nat) (a b : Str) (LA : Option Addr) (lm lc : Nat) (LL : List Str) (PA : Option Addr) (p pc : Nat) (PL : List Str) (hn : I64 n) (hi : I64 i) (h40 : n ≤ 1099511627776) (hin : i + lm ≤ n) (hlm : lm ≤ 1000) (hp : p ≤ 1000) (hsl : ∀ x ∈ LL, x.length ≤ 1152921504606846976) (w : World) (hL : Strs w LA lm lc LL) (hP : Strs w PA p pc PL) (hv : verB r n i LL PL = true) (hs : sortedB LL = true) (he : edge1 i a LL = true) (he2 : edge2 n i b LL = true) :
    Calls Try.prog 35 #[.string ⟨r.toArray⟩, .int .i64 n, .string ⟨a.toArray⟩, .string ⟨b.toArray⟩, .int .i64 i, .slice LA lm lc, .slice PA p pc] w fun e w' => ∃ v, e = .returned (.tuple #[v, .bool true]) ∧
      w'.ownsRow w.heap.size 9 1 v (LL.filter (between a b)).length ((LL.filter (between a b)).map fun s => .string ⟨s.toArray⟩) ∧ w.grownBy w' none := by
  obtain ⟨i0, hi0, hz0, hz1, hz2⟩ := info_parts info9
  have H1 := Lib.hid (rver_g r n i hn hi LA lm lc LL PA p pc PL hsl hlm w hL hP)
  rw [hv] at H1
  have H2 := Lib.hid (fun w' (g : w.grownBy w' none) => sorted_r LA lm lc LL w' (hL.kept g))
  rw [hs] at H2
  have HL := Lib.hid (fun w' (g : w.grownBy w' none) => hL.kept g)
  have hlc := hL.le
  have hlc2 := hL.cap
  have Hlen := Lib.hid hL.len
  have q1 : IntKind.i64.wrap ((i : Int) + (lm : Int)) = (i : Int) + (lm : Int) := by rw [IntKind.wrap_i64]; omega
  have q2 : IntKind.i64.wrap ((lm : Int) - 1) = (lm : Int) - 1 := by rw [IntKind.wrap_i64]; omega
  have E1 := Lib.hid (edge1_yes he)
  have E2 := edge2_yes he2
  rw [← hL.len] at E2
  have E2 := Lib.hid E2
  clear he he2
  clear hL hP hv hs hn hi hsl
  go_enter Try.func35, Try.ntmps35
  go_wp2_with fail
  refine H1.out.mono ?_
  rintro e w1 ⟨rfl, g1⟩
  go_wp2_with fail
  refine (H2.out w1 g1).mono ?_
  rintro e w2 ⟨rfl, g2⟩
  have g2 := g1.trans g2
  go_upto_region 3 with fail
  go_cut [66] (fun q wx => q = .bool false ∧ w.grownBy wx none)
  case first =>
    rcases E1.out with hi0 | ⟨hi0, x, hx, hxa⟩
    · have hd : decide (0 < i) = false := by simp [hi0]
      have hd2 : ¬ 0 < i := by omega
      clear hi0
      rcases E2.out with hin2 | ⟨hin2, hl8, y, hy, hyb⟩
      · have hn1 : decide ((i : Int) + (lm : Int) < (n : Int)) = false := by rw [decide_eq_false_iff_not]; omega
        clear hin2
        go_wp2_with fail
        go_meet
        exact ⟨rfl, g2⟩
      · have hn1 : (i : Int) + (lm : Int) < (n : Int) := by omega
        obtain ⟨ad2, hLA, _, hc2⟩ := (HL.out w2 g2).cell hl8
        subst hLA
        have hcy := hc2 _ y hy
        have hm3 : (0 : Int) ≤ (lm : Int) - 1 := by omega
        have hm4 : (lm : Int) - 1 < (lm : Int) := by omega
        have hm5 : ((lm : Int) - 1).toNat = lm - 1 := by omega
        have hm6 : ((lm : Int) == 0) = false := by rw [beq_eq_false_iff_ne]; omega
        clear hc2 hy hl8
        go_wp2_with fail
        go_meet
        exact ⟨rfl, g2⟩
    · have hl0 : 0 < lm := by have := (List.getElem?_eq_some_iff.1 hx).1; have := Hlen.out; omega
      obtain ⟨ad, rfl, _, hc⟩ := (HL.out w2 g2).cell hl0
      have hcx := hc 0 x hx
      have hi1 : (0 : Int) < (i : Int) := by omega
      have hl1 : (0 : Int) < (lm : Int) := by omega
      have hl3 : ((lm : Int) == 0) = false := by rw [beq_eq_false_iff_ne]; omega
      have hadd : ad.add 0 = ad := by simp [Addr.add]
      rw [hadd] at hcx
      clear hx hadd hi0
      clear hc
      rcases E2.out with hin2 | ⟨hin2, hl8, y, hy, hyb⟩
      · have hn1 : decide ((i : Int) + (lm : Int) < (n : Int)) = false := by rw [decide_eq_false_iff_not]; omega
        clear hin2
        go_wp2_with fail
        go_meet
        exact ⟨rfl, g2⟩
      · have hn1 : (i : Int) + (lm : Int) < (n : Int) := by omega
        obtain ⟨ad2, hLA, _, hc2⟩ := (HL.out w2 g2).cell hl8
        injection hLA with hLA
        subst hLA
        have hcy := hc2 _ y hy
        have hm3 : (0 : Int) ≤ (lm : Int) - 1 := by omega
        have hm4 : (lm : Int) - 1 < (lm : Int) := by omega
        have hm5 : ((lm : Int) - 1).toNat = lm - 1 := by omega
        have hm6 : ((lm : Int) == 0) = false := by rw [beq_eq_false_iff_ne]; omega
        clear hc2 hy hl8
        go_wp2_with fail
        go_meet
        exact ⟨rfl, g2⟩
  case rest =>
  obtain ⟨rfl, g4⟩ := hcut
  clear g1 g2
  go_wp2_with fail
  go_loopw [16, 17] (fun v z wr => ∃ k : Nat, k ≤ lm ∧ z = .int .i64 k ∧ wr.ownsRow w.heap.size 9 1 v ((LL.take k).filter (between a b)).length (((LL.take k).filter (between a b)).map fun s => .string ⟨s.toArray⟩) ∧ w.grownBy wr none) (fun _ z _ => lm - (intOf z).toNat)
  case atStart => exact ⟨0, Nat.zero_le _, rfl, World.ownsRow_nil _ _ _ _, g4⟩
  case round =>
    obtain ⟨k, hk, rfl, ho, hg⟩ := hrel
    by_cases hlt : k < lm
    · obtain ⟨x, hx⟩ : ∃ x, LL[k]? = some x := ⟨_, List.getElem?_eq_getElem (by have := Hlen.out; omega)⟩
      obtain ⟨ad, rfl, _, hc⟩ := (HL.out wr hg).cell (by omega)
      have hcx := hc k x hx
      have r1 : (0 : Int) ≤ (k : Int) := by omega
      have r2 : (k : Int) < (lm : Int) := by omega
      have HF := Lib.hid (filter_snoc (between a b) LL k x hx)
      have hfl : ((LL.take k).filter (between a b)).length ≤ 1000 := by
        have h1 := List.length_filter_le (between a b) (LL.take k)
        have h2 : (LL.take k).length ≤ k := by rw [List.length_take]; omega
        omega
      generalize hT : (LL.take k).filter (between a b) = T at *
      have Ho := Lib.hid ho
      have Hg := Lib.hid hg
      clear hc hx ho hT
      cases h1 : Op.bytesLess x a with
      | true =>
        have HB : Hid (between a b x = false) := Lib.hid (by simp [between, h1])
        go_wp2_with fail
        refine ⟨⟨k + 1, by omega, by go_num, ?_, hg⟩, by simp [intOf]; omega⟩
        rw [HF.out, HB.out]
        simpa using Ho.out
      | false =>
        cases h2 : Op.bytesLess x b with
        | false =>
          have HB : Hid (between a b x = false) := Lib.hid (by simp [between, h2])
          go_wp2_with fail
          refine ⟨⟨k + 1, by omega, by go_num, ?_, hg⟩, by simp [intOf]; omega⟩
          rw [HF.out, HB.out]
          simpa using Ho.out
        | true =>
          have HB : Hid (between a b x = true) := Lib.hid (by simp [between, h1, h2])
          have hsz := hg.size
          go_wp2_with (at_builtin; refine wpList_append_own_at _ rfl _ _ 29 rfl w.heap.size 9 i0 _ 1 16 Try.underlying29 hi0 hz0 hz1 hz2 rfl (by omega) _ T.length _ rfl (Ho.out.alloc _) ⟨wr.heap.size, 0, none⟩ 1 1 [.string ⟨x.toArray⟩] rfl rfl (World.news_of_block (cs := #[.string ⟨x.toArray⟩]) (t := 9) (fr := (0, 0)) (heap_alloc_new wr _)) (by intro u hu; rw [List.mem_singleton] at hu; rw [hu]; rfl) (by simp only [maxLen]; omega) (by omega) (by simp; omega) ?_; intro v9 w9 hown9 hgrow9 hnil9 hloc9)
          have gw9 := (Hg.out.trans (World.grownBy_alloc wr (.cells #[.string ⟨x.toArray⟩] 9) none)).andThen hgrow9 (fun r e => .inl (Ho.out.lt r e).1)
          refine ⟨⟨k + 1, by omega, by go_num, ?_, gw9⟩, by simp [intOf]; omega⟩
          rw [HF.out, HB.out]
          simpa using hown9
    · have htk : LL.take k = LL := List.take_of_length_le (by have := Hlen.out; omega)
      rw [htk] at ho
      have Ho := Lib.hid ho
      clear ho htk
      go_wp2_with fail
      refine bodyPost_ret (results_tmp2 rfl _ _ _) rfl ?_
      exact ⟨_, rfl, Ho.out, hg⟩
theorem winL_no {r : Str} {n i : Int} {a b : Str} {LL PL : List Str} (h : winB r n i a b LL PL = false) : winL r n i a b LL PL = [] := by unfold winL; rw [h]; rfl
theorem winL_yes {r : Str} {n i : Int} {a b : Str} {LL PL : List Str} (h : winB r n i a b LL PL = true) : winL r n i a b LL PL = LL.filter (between a b) := by unfold winL; rw [h]; rfl
/-- digest.Within, whatever it is given -/
theorem within_g (r : Str) (n i : Int) (a b : Str) (LA : Option Addr) (lm lc : Nat) (LL : List Str) (PA : Option Addr) (p pc : Nat) (PL : List Str) (hn : I64 n) (hi : I64 i) (hlm : lm ≤ 1000) (hp : p ≤ 1000) (w : World) (hL : Strs w LA lm lc LL) (hP : Strs w PA p pc PL) :
    Calls Try.prog 34 #[.string ⟨r.toArray⟩, .int .i64 n, .string ⟨a.toArray⟩, .string ⟨b.toArray⟩, .int .i64 i, .slice LA lm lc, .slice PA p pc] w (TwoP w (winL r n i a b LL PL) (winB r n i a b LL PL)) := by
  cases hv : verB r n i LL PL with
  | false =>
    have hb : winB r n i a b LL PL = false := by
      unfold winB
      rw [hv, Bool.false_and, Bool.false_and, Bool.false_and]
    rw [winL_no hb, hb]
    refine (within_no1 r n i a b LA lm lc LL PA p pc PL hn hi hlm hp w hL hP hv).mono ?_
    rintro e w' ⟨rfl, g⟩
    exact two_no g
  | true =>
    obtain ⟨f1, f2, f3, f4⟩ := ver_fits hv
    have f5 := hL.len
    obtain ⟨n, rfl⟩ := Int.eq_ofNat_of_zero_le f1
    obtain ⟨i, rfl⟩ := Int.eq_ofNat_of_zero_le f3
    cases hs : sortedB LL with
    | false =>
      have hb : winB r n i a b LL PL = false := by
        unfold winB
        rw [hs, Bool.and_false, Bool.false_and, Bool.false_and]
      rw [winL_no hb, hb]
      refine (within_no2 r n i a b LA lm lc LL PA p pc PL hn hi hlm hp w hL hP hv hs).mono ?_
      rintro e w' ⟨rfl, g⟩
      exact two_no g
    | true =>
      cases he : edge1 i a LL with
      | false =>
        have hb : winB r n i a b LL PL = false := by
          unfold winB
          rw [show edge1 (i : Int).toNat a LL = false from he, Bool.and_false, Bool.false_and]
        rw [winL_no hb, hb]
        refine (within_no3 r n i a b LA lm lc LL PA p pc PL hn hi hlm hp w hL hP hv hs he).mono ?_
        rintro e w' ⟨rfl, g⟩
        exact two_no g
      | true =>
        cases he2 : edge2 n i b LL with
        | false =>
          have hb : winB r n i a b LL PL = false := by
            unfold winB
            rw [show edge2 (n : Int).toNat (i : Int).toNat b LL = false from he2, Bool.and_false]
          rw [winL_no hb, hb]
          refine (within_no4 r n i a b LA lm lc LL PA p pc PL hn hi (by omega) (by omega) hlm hp w hL hP hv hs he he2).mono ?_
          rintro e w' ⟨rfl, g⟩
          exact two_no g
        | true =>
          have hb : winB r n i a b LL PL = true := by
            unfold winB
            rw [hv, hs, show edge1 (i : Int).toNat a LL = true from he, show edge2 (n : Int).toNat (i : Int).toNat b LL = true from he2]
            rfl
          rw [winL_yes hb, hb]
          refine (within_k r n i a b LA lm lc LL PA p pc PL (by omega) (by omega) hlm hp w hL hP hv hs he he2).mono ?_
          rintro e w' ⟨v, rfl, o, g⟩
          exact two_own o g (fun s hs => hL.sl s (List.mem_filter.1 hs).1)
/-- the reference's Within, whatever it is given -/
theorem rwithin_g (r : Str) (n i : Int) (a b : Str) (LA : Option Addr) (lm lc : Nat) (LL : List Str) (PA : Option Addr) (p pc : Nat) (PL : List Str) (hn : I64 n) (hi : I64 i) (hlm : lm ≤ 1000) (hp : p ≤ 1000) (hsl : ∀ x ∈ LL, x.length ≤ 1152921504606846976) (w : World) (hL : Strs w LA lm lc LL) (hP : Strs w PA p pc PL) :
    Calls Try.prog 35 #[.string ⟨r.toArray⟩, .int .i64 n, .string ⟨a.toArray⟩, .string ⟨b.toArray⟩, .int .i64 i, .slice LA lm lc, .slice PA p pc] w (TwoP w (winL r n i a b LL PL) (winB r n i a b LL PL)) := by
  cases hv : verB r n i LL PL with
  | false =>
    have hb : winB r n i a b LL PL = false := by
      unfold winB
      rw [hv, Bool.false_and, Bool.false_and, Bool.false_and]
    rw [winL_no hb, hb]
    refine (rwithin_no1 r n i a b LA lm lc LL PA p pc PL hn hi hlm hp hsl w hL hP hv).mono ?_
    rintro e w' ⟨rfl, g⟩
    exact two_no g
  | true =>
    obtain ⟨f1, f2, f3, f4⟩ := ver_fits hv
    have f5 := hL.len
    obtain ⟨n, rfl⟩ := Int.eq_ofNat_of_zero_le f1
    obtain ⟨i, rfl⟩ := Int.eq_ofNat_of_zero_le f3
    cases hs : sortedB LL with
    | false =>
      have hb : winB r n i a b LL PL = false := by
        unfold winB
        rw [hs, Bool.and_false, Bool.false_and, Bool.false_and]
      rw [winL_no hb, hb]
      refine (rwithin_no2 r n i a b LA lm lc LL PA p pc PL hn hi hlm hp hsl w hL hP hv hs).mono ?_
      rintro e w' ⟨rfl, g⟩
      exact two_no g
    | true =>
      cases he : edge1 i a LL with
      | false =>
        have hb : winB r n i a b LL PL = false := by
          unfold winB
          rw [show edge1 (i : Int).toNat a LL = false from he, Bool.and_false, Bool.false_and]
        rw [winL_no hb, hb]
        refine (rwithin_no3 r n i a b LA lm lc LL PA p pc PL hn hi hlm hp hsl w hL hP hv hs he).mono ?_
        rintro e w' ⟨rfl, g⟩
        exact two_no g
      | true =>
        cases he2 : edge2 n i b LL with
        | false =>
          have hb : winB r n i a b LL PL = false := by
            unfold winB
            rw [show edge2 (n : Int).toNat (i : Int).toNat b LL = false from he2, Bool.and_false]
          rw [winL_no hb, hb]
          refine (rwithin_no4 r n i a b LA lm lc LL PA p pc PL hn hi (by omega) (by omega) hlm hp hsl w hL hP hv hs he he2).mono ?_
          rintro e w' ⟨rfl, g⟩
          exact two_no g
        | true =>
          have hb : winB r n i a b LL PL = true := by
            unfold winB
            rw [hv, hs, show edge1 (i : Int).toNat a LL = true from he, show edge2 (n : Int).toNat (i : Int).toNat b LL = true from he2]
            rfl
          rw [winL_yes hb, hb]
          refine (rwithin_k r n i a b LA lm lc LL PA p pc PL hn hi (by omega) (by omega) hlm hp hsl w hL hP hv hs he he2).mono ?_
          rintro e w' ⟨v, rfl, o, g⟩
          exact two_own o g (fun s hs => hL.sl s (List.mem_filter.1 hs).1)
end Go.Proofs.Ytljjmoeplfcblaa

namespace Go.Proofs.Ytljjmoeplfcblaa
open Go.RowKit Go.Shelf
attribute [local go_sem] get_mk extract_mk
theorem ext_fits (old r : Str) (m n : Int) (PL : List Str) (h : ¬ (0 ≤ m ∧ m ≤ n ∧ n ≤ 1099511627776)) : extB old m r n PL = false := by
  unfold extB
  rw [decide_eq_false h, Bool.false_and, Bool.false_and, Bool.false_and, Bool.false_and]
set_option maxHeartbeats 1000000 in
/-- the reference's Extends, where the numbers do not fit -/
theorem rext_no (old r : Str) (m n : Int) (PA : Option Addr) (p pc : Nat) (h : ¬ (0 ≤ m ∧ m ≤ n ∧ n ≤ 1099511627776)) (w : World) :
    Calls Try.prog 39 #[.string ⟨old.toArray⟩, .int .i64 m, .string ⟨r.toArray⟩, .int .i64 n, .slice PA p pc] w fun e w' => e = .returned (.bool false) ∧ w.grownBy w' none := by
  by_cases h1 : m < 0
  · go_enter Try.func39, Try.ntmps39
    go_wp2_with fail
    go_ret
    exact ⟨rfl, World.grownBy.refl _ _⟩
  · have h1' : decide (m < 0) = false := by simpa using h1
    by_cases h2 : n < m
    · clear h h1
      go_enter Try.func39, Try.ntmps39
      go_wp2_with fail
      go_ret
      exact ⟨rfl, World.grownBy.refl _ _⟩
    · have h2' : m ≤ n := by omega
      have h3 : 1099511627776 < n := by omega
      clear h h1 h2
      go_enter Try.func39, Try.ntmps39
      go_wp2_with fail
      go_ret
      exact ⟨rfl, World.grownBy.refl _ _⟩
set_option maxRecDepth 100000 in
set_option maxHeartbeats 4000000 in
/-- the reference's Extends, where the numbers fit -/
theorem rext_k (old r : Str) (m n : Nat) (PA : Option Addr) (p pc : Nat) (PL : List Str) (h1 : m ≤ n) (h40 : n ≤ 1099511627776) (w : World) (hP : Strs w PA p pc PL) :
    Calls Try.prog 39 #[.string ⟨old.toArray⟩, .int .i64 m, .string ⟨r.toArray⟩, .int .i64 n, .slice PA p pc] w fun e w' => e = .returned (.bool (extB old m r n PL)) ∧ w.grownBy w' none := by
  obtain ⟨i0, hi0, hz0, hz1, hz2⟩ := info_parts info79
  have hpl := hP.len
  have hpp := hP.le
  have hpc := hP.cap
  have HPL := Lib.hid hpl
  have HP := Lib.hid (fun w' (g : w.grownBy w' none) => hP.kept g)
  have HF : Hid (extB old m r n PL = ((PL.length == (blocks 0 m).length + (blocks m n).length) && all8 PL && old == rootD m (pushes [] (nodes (blocks 0 m) PL)) && r == rootD n (pushes [] (ledN n m [] PL)))) := Lib.hid (by rw [ext_div old r m n PL h1 h40, nodes_take]; rfl)
  have q1 : (m : Int) ≤ (n : Int) := by omega
  have q3 : (n : Int) ≤ 1099511627776 := by omega
  have d1 : decide ((m : Int) < 0) = false := by simp
  have d2 : decide (n < m) = false := by simpa using h1
  have d3 : decide ((1099511627776 : Int) < (n : Int)) = false := by rw [decide_eq_false_iff_not]; omega
  clear hP hpl
  go_enter Try.func39, Try.ntmps39
  go_wp2_with fail
  refine (whole_r PA p pc PL w (HP.out w (World.grownBy.refl _ _))).mono ?_
  rintro e w1 ⟨rfl, g1⟩
  cases h8 : all8 PL with
  | false =>
    have HFF : Hid (extB old m r n PL = false) := Lib.hid (by rw [HF.out, h8, Bool.and_false, Bool.false_and, Bool.false_and])
    go_wp2_with fail
    go_ret
    exact ⟨by rw [HFF.out]; rfl, g1⟩
  | true =>
    have H8 := Lib.hid (all8_le h8)
    have H8t := Lib.hid h8
    clear h8
    have hb1 := blocks_len' 0 m
    have hb2 := blocks_len' m n
    go_wp2_with fail
    refine (blocks_r 0 m (by omega) (by omega) w1).mono ?_
    rintro e w2 ⟨v2, rfl, o2, g2⟩
    go_wp2_with fail
    refine (blocks_r m n (by omega) (by omega) w2).mono ?_
    rintro e w3 ⟨v3, rfl, o3, g3⟩
    have o2 : w2.ownsRow w1.heap.size 79 3 v2 (bare (blocks 0 m)).length (ndcs (bare (blocks 0 m))) := o2
    have o2 := o2.kept g3 (Classical.em _)
    have hs12 : w1.heap.size ≤ w2.heap.size := g2.size
    obtain ⟨A2, c2, rfl, hc2, hc2'⟩ := slice_of o2
    obtain ⟨A3, c3, rfl, hc3, hc3'⟩ := slice_of o3
    have hbl1 := bare_len (blocks 0 m)
    have hbl2 := bare_len (blocks m n)
    have g13 := (g1.trans g2).trans g3
    have O2 := Lib.hid o2
    have O3 := Lib.hid o3
    have G13 := Lib.hid g13
    clear o2 o3 g1 g2 g3 g13
    by_cases hpe : p = (bare (blocks 0 m)).length + (bare (blocks m n)).length
    · have HPE := Lib.hid hpe
      have HLE : Hid ((PL.length == (blocks 0 m).length + (blocks m n).length) = true) := Lib.hid (by rw [← HPL.out, ← hbl1, ← hbl2, hpe]; simp)
      have hx1 : (PL.drop (blocks 0 m).length).length = (blocks m n).length := by rw [List.length_drop]; have := HPL.out; omega
      have htk : (PL.take (blocks 0 m).length).length = (blocks 0 m).length := by rw [List.length_take]; have := HPL.out; omega
      have HWX := fun W (g : w3.grownBy W none) => with_r w1.heap.size _ (blocks 0 m) (by omega) PA p pc PL (by omega) W (O2.out.kept g (Classical.em _)) (HP.out W (G13.out.trans g))
      have HW1 := Lib.hid (fun W g => HWX W g)
      have HW2 := Lib.hid (fun W (g : w3.grownBy W none) => with_r w2.heap.size _ (blocks m n) (by omega) _ (p - (blocks 0 m).length) _ (PL.drop (blocks 0 m).length) (by omega) W (O3.out.kept g (Classical.em _)) ((HP.out W (G13.out.trans g)).drop (show (blocks 0 m).length ≤ p by omega)))
      have HN1 : Hid ((nodes (blocks 0 m) PL).length = (blocks 0 m).length) := Lib.hid (nodes_len _ _ (by have := HPL.out; omega))
      have HN2 : Hid ((nodes (blocks m n) (PL.drop (blocks 0 m).length)).length = (blocks m n).length) := Lib.hid (nodes_len _ _ (by omega))
      have HLD : Hid (ledN n m [] PL = nodes (blocks 0 m) PL ++ nodes (blocks m n) (PL.drop (blocks 0 m).length)) := Lib.hid (by rw [ledN, nodes_take]; simp [leafs])
      have HLC : Hid (chained (ledN n m [] PL) 0 n) := Lib.hid (ledN_chained n m [] PL (by simpa using h1) (by have := HPL.out; simp only [List.length_nil, Nat.add_zero]; omega))
      have HL8 : Hid (d8 (ledN n m [] PL)) := Lib.hid (ledN_d8 n m [] PL H8.out)
      have HBC : Hid (chained (nodes (blocks 0 m) PL) 0 m) := Lib.hid (by rw [← nodes_take]; exact nodes_chained m m 0 _ (by omega) (by omega) htk)
      have HB8 : Hid (d8 (nodes (blocks 0 m) PL)) := Lib.hid (nodes_d8 _ _ H8.out)
      generalize hS1 : nodes (blocks 0 m) PL = S1 at *
      generalize nodes (blocks m n) (PL.drop (blocks 0 m).length) = S3 at *
      rw [hbl1, hbl2] at *
      clear hbl1 hbl2 O2 O3 hx1 htk HWX hS1
      generalize (blocks 0 m).length = c1 at *
      generalize (blocks m n).length = c4 at *
      have q6 : IntKind.i64.wrap ((c1 : Int) + (c4 : Int)) = (c1 : Int) + (c4 : Int) := by rw [IntKind.wrap_i64]; omega
      have q7 : ((p : Int) != (c1 : Int) + (c4 : Int)) = false := by rw [bne_eq_false_iff_eq]; omega
      have hz : (c1 : Int) ≤ (p : Int) := by omega
      have hz2 : (c1 : Int) ≤ (pc : Int) := by omega
      have e1 : p - c1 = c4 := by omega
      clear hpe d1 d2 d3
      go_wp2_with fail
      refine (HW1.out w3 (World.grownBy.refl _ _)).mono ?_
      rintro e w4 ⟨v4, rfl, o4, g4⟩
      have o4 : w4.ownsRow w3.heap.size 79 3 v4 S1.length (ndcs S1) := o4
      have Hs3 : Hid (S1.length + S3.length ≤ 4398046511104) := Lib.hid (by have := HN1.out; have := HN2.out; omega)
      have HT1 := Lib.hid (fun W (g : w4.grownBy W none) => top_r w3.heap.size v4 S1 m (by omega) W (o4.kept g (Classical.em _)) HBC.out HB8.out)
      have hb8 := topD_len _ (pushes_d8 S1 [] (fun _ h => by cases h) HB8.out)
      have Hg4 := Lib.hid g4
      clear o4
      have e1 : p - c1 = c4 := by omega
      have HA : w3.grownBy w4.drew none := grown_dr Hg4.out
      have HW1b := Lib.hid (HW1.out w4.drew HA)
      have hpq : p = c1 + c4 := HPE.out
      obtain ⟨c5, hc5⟩ : ∃ k, pc = c1 + k := ⟨pc - c1, by omega⟩
      subst hpq hc5
      rw [Nat.add_sub_cancel_left, Nat.add_sub_cancel_left] at HW2
      have hz3 : (c1 : Int) ≤ (c1 : Int) + (c4 : Int) := by omega
      clear e1 HW1 HPE HPL
      by_cases hcc : c5 = 0
      · subst hcc
        rw [if_pos (Nat.add_zero c1)] at HW2
        have HW3 := Lib.hid (fun W (g : w3.grownBy W none) => HW2.out W g)
        clear HW2
        go_upto_region 8 with fail
        refine wp_region_noPanic ?_
        refine wp_region_held_drew (S := (fun _ => True)) (by kernel_rfl) ?_ (fun hHeld => ?_)
        · (try dsimp only); all_goals trivial
        refine wpAnyH_take (i := 0) (oi := _) (v := ?_) rfl (by kernel_rfl) (by kernel_rfl) (by kernel_rfl) (fun _ _ _ h => h) (Or.inl ⟨by rfl, ?_⟩) (by assumption) ?_
        rotate_left 1
        · (intro w hSw; (try dsimp only at hSw); go_simp; first | done | with_reducible rfl)
        try go_simp
        refine wpAnyH_take (i := 1) (oi := _) (v := ?_) rfl (by kernel_rfl) (by kernel_rfl) (by kernel_rfl) (fun _ _ _ h => h) (Or.inl ⟨by rfl, ?_⟩) (by assumption) ?_
        rotate_left 1
        · (intro w hSw; (try dsimp only at hSw); go_simp; first | done | with_reducible rfl)
        try go_simp
        refine wpAnyH_take (i := 3) (oi := _) (v := ?_) rfl (by kernel_rfl) (by kernel_rfl) (by kernel_rfl) (fun _ _ _ h => h) (Or.inl ⟨by rfl, ?_⟩) (by assumption) ?_
        rotate_left 1
        · (intro w hSw; (try dsimp only at hSw); go_simp; first | done | with_reducible rfl)
        try go_simp
        refine wpAnyH_take (i := 4) (oi := _) (v := ?_) rfl (by kernel_rfl) (by kernel_rfl) (by kernel_rfl) (fun _ _ _ h => h) (Or.inl ⟨by rfl, ?_⟩) (by assumption) ?_
        rotate_left 1
        · (intro w hSw; (try dsimp only at hSw); go_simp; first | done | with_reducible rfl)
        try go_simp
        refine wpAnyH_take (i := 5) (oi := _) (v := ?_) rfl (by kernel_rfl) (by kernel_rfl) (by kernel_rfl) (fun _ _ _ h => h) (Or.inl ⟨by rfl, ?_⟩) (by assumption) ?_
        rotate_left 1
        · (intro w hSw; (try dsimp only at hSw); go_simp; first | done | with_reducible rfl)
        try go_simp
        refine wpAnyH_take (i := 6) (oi := _) (v := ?_) rfl (by kernel_rfl) (by kernel_rfl) (by kernel_rfl) (fun _ _ _ h => h) (Or.inl ⟨by rfl, ?_⟩) (by assumption) ?_
        rotate_left 1
        · (intro w hSw; (try dsimp only at hSw); go_simp; first | done | with_reducible rfl)
        try go_simp
        refine wpAnyH_take (i := 7) (oi := _) (v := ?_) rfl (by kernel_rfl) (by kernel_rfl) (by kernel_rfl) (fun _ _ _ h => h) (Or.inl ⟨by rfl, ?_⟩) (by assumption) ?_
        rotate_left 1
        · (intro w hSw; (try dsimp only at hSw); go_simp; first | done | with_reducible rfl)
        try go_simp
        refine wpAnyH_ready (rs := [2]) (by kernel_rfl) (by simp) ?_
        refine AllReadyH.cons (o := _) rfl (fun K hK => ?_) AllReadyH.nil
        go_simp
        refine HW1b.out.mono ?_
        rintro e w5 ⟨v5, rfl, o5, g5⟩
        have o5 : w5.ownsRow w4.drew.heap.size 79 3 v5 S1.length (ndcs S1) := o5
        first | (refine hK.out _ _ ?_ (fun hHeld => ?_)) | (go_wp2_with fail; refine hK.out _ _ ?_ (fun hHeld => ?_))
        · (try dsimp only); all_goals trivial
        clear hK K
        refine wpAnyH_ready (rs := [8]) (by kernel_rfl) (by simp) ?_
        refine AllReadyH.cons (o := _) rfl (fun K hK => ?_) AllReadyH.nil
        go_simp
        refine (HW3.out w5 ((grown_dr g4).trans g5)).mono ?_
        rintro e w6 ⟨v6, rfl, o6, g6⟩
        have o6 : w6.ownsRow w5.heap.size 79 3 v6 S3.length (ndcs S3) := o6
        have hT := o5.kept g6 (Classical.em _)
        have hsz6 := (g5.trans g6).size
        first | (refine hK.out _ _ ?_ (fun hHeld => ?_)) | (go_wp2_with fail; refine hK.out _ _ ?_ (fun hHeld => ?_))
        · (try dsimp only); all_goals trivial
        clear hK K
        refine wpAnyH_ready (rs := [9]) (by kernel_rfl) (by simp) ?_
        refine AllReadyH.cons (o := _) rfl (fun K hK => ?_) AllReadyH.nil
        refine wp_append_nds w6 _ _ rfl w4.drew.heap.size v5 S1 (by rfl) hT w5.heap.size v6 S3 (by rfl) o6 Hs3.out hsz6 ?_
        intro v7 w7 hown7 hgrow7
        refine hK.out _ _ trivial (fun hHeld => ?_)
        clear hK K
        refine wpAnyH_take (i := 10) (oi := _) (v := ?_) rfl (by kernel_rfl) (by kernel_rfl) (by kernel_rfl) (fun _ _ _ h => h) (Or.inl ⟨by rfl, ?_⟩) (by assumption) ?_
        rotate_left 1
        · (intro w hSw; (try dsimp only at hSw); go_simp; first | done | with_reducible rfl)
        try go_simp
        refine wpAnyH_done (by kernel_rfl) ?_ _
        refine NoPanic.normal ?_
        go_simp
        have g47 : w4.grownBy w7 none := ((grown_dr (World.grownBy.refl w4 none)).trans (g5.trans g6)).andThen hgrow7 (fun r e => .inl (own_fresh o5 r e))
        have G7 := Lib.hid ((G13.out.trans Hg4.out).trans g47)
        have HT1 := Lib.hid (HT1.out w7 g47)
        have HO7 : Hid (w7.ownsRow w4.drew.heap.size 79 3 v7 (ledN n m [] PL).length (ndcs (ledN n m [] PL))) := Lib.hid (by rw [HLD.out]; exact hown7)
        have ht8 := topD_len _ (pushes_d8 (ledN n m [] PL) [] (fun _ h => by cases h) HL8.out)
        clear hown7 hgrow7 g47 o5 o6 hT hsz6 g5 g6 hHeld HW3 HW1b HA
        go_wp2_with fail
        refine HT1.out.mono ?_
        rintro e w8 ⟨rfl, g8⟩
        go_wp2_with fail
        refine (rootn_r m (by omega) _ (by omega) w8).mono ?_
        rintro e w9 ⟨rfl, g9⟩
        have HRo : Hid (dg (6 :: (be m 8 ++ topD (pushes [] S1))) = rootD m (pushes [] S1)) := Lib.hid rfl
        have G9 := Lib.hid (g8.trans g9)
        generalize dg (6 :: (be m 8 ++ topD (pushes [] S1))) = Ro at *
        clear g8 g9
        have HT := Lib.hid (top_r w4.drew.heap.size v7 (ledN n m [] PL) n h40 w9 (HO7.out.kept G9.out (Classical.em _)) HLC.out HL8.out)
        by_cases hE : old = Ro
        · subst hE
          go_wp2_with fail
          refine HT.out.mono ?_
          rintro e w10 ⟨rfl, g10⟩
          go_wp2_with fail
          refine (rootn_r n h40 _ (by omega) w10).mono ?_
          rintro e w11 ⟨rfl, g11⟩
          have HRn : Hid (dg (6 :: (be n 8 ++ topD (pushes [] (ledN n m [] PL)))) = rootD n (pushes [] (ledN n m [] PL))) := Lib.hid rfl
          generalize dg (6 :: (be n 8 ++ topD (pushes [] (ledN n m [] PL)))) = Rn at *
          go_wp2_with fail
          go_ret
          refine ⟨?_, G7.out.trans (G9.out.trans (g10.trans g11))⟩
          rw [HF.out, HLE.out, H8t.out, ← HRo.out, ← HRn.out]
          simp
        · have hEb : (old == Ro) = false := by simpa using hE
          have HEb := Lib.hid hEb
          clear hE
          go_wp2_with fail
          go_ret
          refine ⟨?_, G7.out.trans G9.out⟩
          rw [HF.out, ← HRo.out, HEb.out, Bool.and_false, Bool.false_and]
          rfl
      · have hne : ¬ c1 + c5 = c1 := by omega
        rw [if_neg hne] at HW2
        have HW3 := Lib.hid (fun W (g : w3.grownBy W none) => HW2.out W g)
        clear HW2
        go_upto_region 8 with fail
        refine wp_region_noPanic ?_
        refine wp_region_held_drew (S := (fun _ => True)) (by kernel_rfl) ?_ (fun hHeld => ?_)
        · (try dsimp only); all_goals trivial
        refine wpAnyH_take (i := 0) (oi := _) (v := ?_) rfl (by kernel_rfl) (by kernel_rfl) (by kernel_rfl) (fun _ _ _ h => h) (Or.inl ⟨by rfl, ?_⟩) (by assumption) ?_
        rotate_left 1
        · (intro w hSw; (try dsimp only at hSw); go_simp; first | done | with_reducible rfl)
        try go_simp
        refine wpAnyH_take (i := 1) (oi := _) (v := ?_) rfl (by kernel_rfl) (by kernel_rfl) (by kernel_rfl) (fun _ _ _ h => h) (Or.inl ⟨by rfl, ?_⟩) (by assumption) ?_
        rotate_left 1
        · (intro w hSw; (try dsimp only at hSw); go_simp; first | done | with_reducible rfl)
        try go_simp
        refine wpAnyH_take (i := 3) (oi := _) (v := ?_) rfl (by kernel_rfl) (by kernel_rfl) (by kernel_rfl) (fun _ _ _ h => h) (Or.inl ⟨by rfl, ?_⟩) (by assumption) ?_
        rotate_left 1
        · (intro w hSw; (try dsimp only at hSw); go_simp; first | done | with_reducible rfl)
        try go_simp
        refine wpAnyH_take (i := 4) (oi := _) (v := ?_) rfl (by kernel_rfl) (by kernel_rfl) (by kernel_rfl) (fun _ _ _ h => h) (Or.inl ⟨by rfl, ?_⟩) (by assumption) ?_
        rotate_left 1
        · (intro w hSw; (try dsimp only at hSw); go_simp; first | done | with_reducible rfl)
        try go_simp
        refine wpAnyH_take (i := 5) (oi := _) (v := ?_) rfl (by kernel_rfl) (by kernel_rfl) (by kernel_rfl) (fun _ _ _ h => h) (Or.inl ⟨by rfl, ?_⟩) (by assumption) ?_
        rotate_left 1
        · (intro w hSw; (try dsimp only at hSw); go_simp; first | done | with_reducible rfl)
        try go_simp
        refine wpAnyH_take (i := 6) (oi := _) (v := ?_) rfl (by kernel_rfl) (by kernel_rfl) (by kernel_rfl) (fun _ _ _ h => h) (Or.inl ⟨by rfl, ?_⟩) (by assumption) ?_
        rotate_left 1
        · (intro w hSw; (try dsimp only at hSw); go_simp; first | done | with_reducible rfl)
        try go_simp
        refine wpAnyH_take (i := 7) (oi := _) (v := ?_) rfl (by kernel_rfl) (by kernel_rfl) (by kernel_rfl) (fun _ _ _ h => h) (Or.inl ⟨by rfl, ?_⟩) (by assumption) ?_
        rotate_left 1
        · (intro w hSw; (try dsimp only at hSw); go_simp; first | done | with_reducible rfl)
        try go_simp
        refine wpAnyH_ready (rs := [2]) (by kernel_rfl) (by simp) ?_
        refine AllReadyH.cons (o := _) rfl (fun K hK => ?_) AllReadyH.nil
        go_simp
        refine HW1b.out.mono ?_
        rintro e w5 ⟨v5, rfl, o5, g5⟩
        have o5 : w5.ownsRow w4.drew.heap.size 79 3 v5 S1.length (ndcs S1) := o5
        first | (refine hK.out _ _ ?_ (fun hHeld => ?_)) | (go_wp2_with fail; refine hK.out _ _ ?_ (fun hHeld => ?_))
        · (try dsimp only); all_goals trivial
        clear hK K
        refine wpAnyH_ready (rs := [8]) (by kernel_rfl) (by simp) ?_
        refine AllReadyH.cons (o := _) rfl (fun K hK => ?_) AllReadyH.nil
        go_simp
        refine (HW3.out w5 ((grown_dr g4).trans g5)).mono ?_
        rintro e w6 ⟨v6, rfl, o6, g6⟩
        have o6 : w6.ownsRow w5.heap.size 79 3 v6 S3.length (ndcs S3) := o6
        have hT := o5.kept g6 (Classical.em _)
        have hsz6 := (g5.trans g6).size
        first | (refine hK.out _ _ ?_ (fun hHeld => ?_)) | (go_wp2_with fail; refine hK.out _ _ ?_ (fun hHeld => ?_))
        · (try dsimp only); all_goals trivial
        clear hK K
        refine wpAnyH_ready (rs := [9]) (by kernel_rfl) (by simp) ?_
        refine AllReadyH.cons (o := _) rfl (fun K hK => ?_) AllReadyH.nil
        refine wp_append_nds w6 _ _ rfl w4.drew.heap.size v5 S1 (by rfl) hT w5.heap.size v6 S3 (by rfl) o6 Hs3.out hsz6 ?_
        intro v7 w7 hown7 hgrow7
        refine hK.out _ _ trivial (fun hHeld => ?_)
        clear hK K
        refine wpAnyH_take (i := 10) (oi := _) (v := ?_) rfl (by kernel_rfl) (by kernel_rfl) (by kernel_rfl) (fun _ _ _ h => h) (Or.inl ⟨by rfl, ?_⟩) (by assumption) ?_
        rotate_left 1
        · (intro w hSw; (try dsimp only at hSw); go_simp; first | done | with_reducible rfl)
        try go_simp
        refine wpAnyH_done (by kernel_rfl) ?_ _
        refine NoPanic.normal ?_
        go_simp
        have g47 : w4.grownBy w7 none := ((grown_dr (World.grownBy.refl w4 none)).trans (g5.trans g6)).andThen hgrow7 (fun r e => .inl (own_fresh o5 r e))
        have G7 := Lib.hid ((G13.out.trans Hg4.out).trans g47)
        have HT1 := Lib.hid (HT1.out w7 g47)
        have HO7 : Hid (w7.ownsRow w4.drew.heap.size 79 3 v7 (ledN n m [] PL).length (ndcs (ledN n m [] PL))) := Lib.hid (by rw [HLD.out]; exact hown7)
        have ht8 := topD_len _ (pushes_d8 (ledN n m [] PL) [] (fun _ h => by cases h) HL8.out)
        clear hown7 hgrow7 g47 o5 o6 hT hsz6 g5 g6 hHeld HW3 HW1b HA
        go_wp2_with fail
        refine HT1.out.mono ?_
        rintro e w8 ⟨rfl, g8⟩
        go_wp2_with fail
        refine (rootn_r m (by omega) _ (by omega) w8).mono ?_
        rintro e w9 ⟨rfl, g9⟩
        have HRo : Hid (dg (6 :: (be m 8 ++ topD (pushes [] S1))) = rootD m (pushes [] S1)) := Lib.hid rfl
        have G9 := Lib.hid (g8.trans g9)
        generalize dg (6 :: (be m 8 ++ topD (pushes [] S1))) = Ro at *
        clear g8 g9
        have HT := Lib.hid (top_r w4.drew.heap.size v7 (ledN n m [] PL) n h40 w9 (HO7.out.kept G9.out (Classical.em _)) HLC.out HL8.out)
        by_cases hE : old = Ro
        · subst hE
          go_wp2_with fail
          refine HT.out.mono ?_
          rintro e w10 ⟨rfl, g10⟩
          go_wp2_with fail
          refine (rootn_r n h40 _ (by omega) w10).mono ?_
          rintro e w11 ⟨rfl, g11⟩
          have HRn : Hid (dg (6 :: (be n 8 ++ topD (pushes [] (ledN n m [] PL)))) = rootD n (pushes [] (ledN n m [] PL))) := Lib.hid rfl
          generalize dg (6 :: (be n 8 ++ topD (pushes [] (ledN n m [] PL)))) = Rn at *
          go_wp2_with fail
          go_ret
          refine ⟨?_, G7.out.trans (G9.out.trans (g10.trans g11))⟩
          rw [HF.out, HLE.out, H8t.out, ← HRo.out, ← HRn.out]
          simp
        · have hEb : (old == Ro) = false := by simpa using hE
          have HEb := Lib.hid hEb
          clear hE
          go_wp2_with fail
          go_ret
          refine ⟨?_, G7.out.trans G9.out⟩
          rw [HF.out, ← HRo.out, HEb.out, Bool.and_false, Bool.false_and]
          rfl
    · have HFF : Hid (extB old m r n PL = false) := Lib.hid (by
        rw [HF.out, ← HPL.out, ← hbl1, ← hbl2, show (p == (bare (blocks 0 m)).length + (bare (blocks m n)).length) = false by simpa using hpe]
        simp only [Bool.false_and])
      generalize (bare (blocks 0 m)).length = c1 at *
      generalize (bare (blocks m n)).length = c4 at *
      have q6 : IntKind.i64.wrap ((c1 : Int) + (c4 : Int)) = (c1 : Int) + (c4 : Int) := by rw [IntKind.wrap_i64]; omega
      have q7 : ((p : Int) != (c1 : Int) + (c4 : Int)) = true := by rw [bne_iff_ne]; omega
      clear hpe
      go_wp2_with fail
      go_ret
      exact ⟨by rw [HFF.out]; rfl, G13.out⟩
/-- digest.Extends, whatever it is given -/
theorem ext_g (old r : Str) (m n : Int) (PA : Option Addr) (p pc : Nat) (PL : List Str) (hp : p ≤ 1000) (w : World) (hP : Strs w PA p pc PL) :
    Calls Try.prog 38 #[.string ⟨old.toArray⟩, .int .i64 m, .string ⟨r.toArray⟩, .int .i64 n, .slice PA p pc] w fun e w' => e = .returned (.bool (extB old m r n PL)) ∧ w.grownBy w' none := by
  by_cases h : 0 ≤ m ∧ m ≤ n ∧ n ≤ 1099511627776
  · obtain ⟨m, rfl⟩ := Int.eq_ofNat_of_zero_le h.1
    obtain ⟨n, rfl⟩ := Int.eq_ofNat_of_zero_le (show 0 ≤ n by omega)
    exact extends_k old r m n PA p pc PL (by omega) (by omega) hp w hP
  · rw [ext_fits old r m n PL h]
    exact extends_no old r m n PA p pc h w
/-- the reference's Extends, whatever it is given -/
theorem rext_g (old r : Str) (m n : Int) (PA : Option Addr) (p pc : Nat) (PL : List Str) (w : World) (hP : Strs w PA p pc PL) :
    Calls Try.prog 39 #[.string ⟨old.toArray⟩, .int .i64 m, .string ⟨r.toArray⟩, .int .i64 n, .slice PA p pc] w fun e w' => e = .returned (.bool (extB old m r n PL)) ∧ w.grownBy w' none := by
  by_cases h : 0 ≤ m ∧ m ≤ n ∧ n ≤ 1099511627776
  · obtain ⟨m, rfl⟩ := Int.eq_ofNat_of_zero_le h.1
    obtain ⟨n, rfl⟩ := Int.eq_ofNat_of_zero_le (show 0 ≤ n by omega)
    exact rext_k old r m n PA p pc PL (by omega) (by omega) w hP
  · rw [ext_fits old r m n PL h]
    exact rext_no old r m n PA p pc h w
end Go.Proofs.Ytljjmoeplfcblaa
namespace Go.Proofs.Ytljjmoeplfcblaa
open Go.RowKit Go.Shelf
theorem min12 (a : Str) : ∃ k : Nat, (if (12 : Int) < (a.length : Int) then (12 : Int) else (a.length : Int)) = (k : Int) ∧ k ≤ a.length ∧ k ≤ 12 := by
  by_cases h : (12 : Int) < (a.length : Int)
  · exact ⟨12, if_pos h, by omega, Nat.le_refl _⟩
  · exact ⟨a.length, if_neg h, Nat.le_refl _, by omega⟩
theorem blk_kept {w w' : World} {b : Nat} {o : Obj} (g : w.grownBy w' none) (h : w.heap[b]? = some o) : w'.heap[b]? = some o := by
  refine (g.block b ?_ (by simp)).trans h
  rcases Nat.lt_or_ge b w.heap.size with hlt | hge
  · exact hlt
  · rw [Array.getElem?_eq_none hge] at h; cases h
end Go.Proofs.Ytljjmoeplfcblaa
