/-
  Small functions: bounds, codes, rising lists; slices.IndexFunc and ContainsFunc over whatever function.
-/
import Derived.Test.YtnkemoicgadefaaGreatDoorDict
namespace Go.Proofs.YtnkemoicgadefaaGreatDoor
open Go.RowKit
attribute [local go_sem] get_mk extract_mk
theorem withinB_k (n a b : Int) (w : World) : Calls Tryz.prog 61 #[.int .u8 n, .int .u8 a, .int .u8 b] w fun e w' => e = .returned (.bool (decide (a ≤ n) && decide (n ≤ b))) ∧ w' = w := by
  by_cases c1 : a ≤ n
  · by_cases c2 : n ≤ b
    · go_enter Tryz.func61, Tryz.ntmps61
      go_wp2_with fail
      go_ret
      exact ⟨by simp [c1, c2], rfl⟩
    · go_enter Tryz.func61, Tryz.ntmps61
      go_wp2_with fail
      go_ret
      exact ⟨by simp [c2], rfl⟩
  · go_enter Tryz.func61, Tryz.ntmps61
    go_wp2_with fail
    go_ret
    exact ⟨ret_bool (by rw [decide_eq_false (show ¬ a ≤ n by omega), Bool.false_and]), rfl⟩
theorem withinI_k (n a b : Int) (w : World) : Calls Tryz.prog 76 #[.int .i64 n, .int .i64 a, .int .i64 b] w fun e w' => e = .returned (.bool (decide (a ≤ n) && decide (n ≤ b))) ∧ w' = w := by
  by_cases c1 : a ≤ n
  · by_cases c2 : n ≤ b
    · go_enter Tryz.func76, Tryz.ntmps76
      go_wp2_with fail
      go_ret
      exact ⟨by simp [c1, c2], rfl⟩
    · go_enter Tryz.func76, Tryz.ntmps76
      go_wp2_with fail
      go_ret
      exact ⟨by simp [c2], rfl⟩
  · go_enter Tryz.func76, Tryz.ntmps76
    go_wp2_with fail
    go_ret
    exact ⟨ret_bool (by rw [decide_eq_false (show ¬ a ≤ n by omega), Bool.false_and]), rfl⟩
theorem noSlot_k (n : Int) (w : World) : Calls Tryz.prog 77 #[.int .i64 n] w fun e w' => e = .returned (.bool (!slotB n)) ∧ w' = w := by
  go_enter Tryz.func77, Tryz.ntmps77
  go_wp2_with fail
  refine (withinI_k n 1 40 w).mono ?_
  rintro e w2 ⟨rfl, rfl⟩
  go_wp2_with fail
  go_ret
  exact ⟨ret_bool (by unfold slotB; rw [Bool.not_and]), rfl⟩
set_option maxRecDepth 100000 in
theorem idxI58 (A : Option Addr) (n c : Nat) (l : List Int) (I Q : Nat → World → Prop) (w : World) (h0 : I 0 w)
    (hS : ∀ k W, I k W → Ints W A n c l)
    (hI : ∀ k x W, l[k]? = some x → I k W → Calls Tryz.prog 77 #[.int .i64 x] W fun e W' => ∃ b : Bool, e = .returned (.bool b) ∧ (b = false → I (k + 1) W') ∧ (b = true → Q k W')) :
    Calls Tryz.prog 87 #[.slice A n c, .func (.func 77) #[] #[]] w fun e w' => (e = .returned (.int .i64 (-1)) ∧ I n w') ∨ ∃ k : Nat, k < n ∧ e = .returned (.int .i64 k) ∧ Q k w' := by
  have hle := (hS 0 w h0).v.le
  have hcap := (hS 0 w h0).v.cap
  have HS := Lib.hid hS
  have HI := Lib.hid hI
  have H0 := Lib.hid h0
  clear hS hI h0
  go_enter Tryz.func87, Tryz.ntmps87
  go_wp2_with fail
  go_loopw [8] (fun i wr => ∃ k : Nat, k ≤ n ∧ i = .int .i64 k ∧ Hid (I k wr)) (fun i _ => n - (intOf i).toNat)
  case atStart => exact ⟨0, by omega, rfl, H0⟩
  case round =>
    clear H0
    obtain ⟨k, hkn, rfl, HK⟩ := hrel
    by_cases hlt : k < n
    · obtain ⟨ad, x, hx, hok, rfl, hbl, x0⟩ := (HS.out k wr HK.out).at k hlt
      have HC := Lib.hid (HI.out k x wr hx HK.out)
      clear hx hok HK
      go_wp2_with fail
      refine HC.out.mono ?_
      rintro e w2 ⟨b, rfl, hb0, hb1⟩
      clear x0 HC
      cases b with
      | true =>
        have HQ := Lib.hid (hb1 rfl)
        clear hb0 hb1
        go_wp2_with fail
        go_ret
        exact .inr ⟨k, hlt, rfl, HQ.out⟩
      | false =>
        have HN := Lib.hid (hb0 rfl)
        clear hb0 hb1
        go_wp2_with fail
        go_roundw
        case rel => exact ⟨k + 1, by omega, by go_num, HN⟩
        case measure => simp [intOf]; omega
    · obtain rfl : k = n := by omega
      go_wp2_with fail
      go_ret
      exact .inl ⟨rfl, HK.out⟩
set_option maxRecDepth 100000 in
theorem hasI58 (A : Option Addr) (n c : Nat) (l : List Int) (I Q : Nat → World → Prop) (w : World) (h0 : I 0 w)
    (hS : ∀ k W, I k W → Ints W A n c l)
    (hI : ∀ k x W, l[k]? = some x → I k W → Calls Tryz.prog 77 #[.int .i64 x] W fun e W' => ∃ b : Bool, e = .returned (.bool b) ∧ (b = false → I (k + 1) W') ∧ (b = true → Q k W')) :
    Calls Tryz.prog 59 #[.slice A n c, .func (.func 77) #[] #[]] w fun e w' => (e = .returned (.bool false) ∧ I n w') ∨ ∃ k : Nat, k < n ∧ e = .returned (.bool true) ∧ Q k w' := by
  have HC := Lib.hid (idxI58 A n c l I Q w h0 hS hI)
  clear h0 hS hI
  go_enter Tryz.func59, Tryz.ntmps59
  go_wp2_with fail
  refine HC.out.mono ?_
  rintro e w2 (⟨rfl, h⟩ | ⟨k, hk, rfl, h⟩)
  · have H := Lib.hid h
    clear h HC
    go_wp2_with fail
    go_ret
    exact .inl ⟨rfl, H.out⟩
  · have H := Lib.hid h
    clear h HC
    go_wp2_with fail
    go_ret
    exact .inr ⟨k, hk, rfl, H.out⟩
set_option maxRecDepth 100000 in
theorem idxI56 (p : Value) (A : Option Addr) (n c : Nat) (l : List Int) (I Q : Nat → World → Prop) (w : World) (h0 : I 0 w)
    (hS : ∀ k W, I k W → Ints W A n c l)
    (hI : ∀ k x W, l[k]? = some x → I k W → Calls Tryz.prog 60 #[.int .i64 x, p] W fun e W' => ∃ b : Bool, e = .returned (.bool b) ∧ (b = false → I (k + 1) W') ∧ (b = true → Q k W')) :
    Calls Tryz.prog 87 #[.slice A n c, .func (.func 60) #[] #[p]] w fun e w' => (e = .returned (.int .i64 (-1)) ∧ I n w') ∨ ∃ k : Nat, k < n ∧ e = .returned (.int .i64 k) ∧ Q k w' := by
  have hle := (hS 0 w h0).v.le
  have hcap := (hS 0 w h0).v.cap
  have HS := Lib.hid hS
  have HI := Lib.hid hI
  have H0 := Lib.hid h0
  clear hS hI h0
  go_enter Tryz.func87, Tryz.ntmps87
  go_wp2_with fail
  go_loopw [8] (fun i wr => ∃ k : Nat, k ≤ n ∧ i = .int .i64 k ∧ Hid (I k wr)) (fun i _ => n - (intOf i).toNat)
  case atStart => exact ⟨0, by omega, rfl, H0⟩
  case round =>
    clear H0
    obtain ⟨k, hkn, rfl, HK⟩ := hrel
    by_cases hlt : k < n
    · obtain ⟨ad, x, hx, hok, rfl, hbl, x0⟩ := (HS.out k wr HK.out).at k hlt
      have HC := Lib.hid (HI.out k x wr hx HK.out)
      clear hx hok HK
      go_wp2_with fail
      refine HC.out.mono ?_
      rintro e w2 ⟨b, rfl, hb0, hb1⟩
      clear x0 HC
      cases b with
      | true =>
        have HQ := Lib.hid (hb1 rfl)
        clear hb0 hb1
        go_wp2_with fail
        go_ret
        exact .inr ⟨k, hlt, rfl, HQ.out⟩
      | false =>
        have HN := Lib.hid (hb0 rfl)
        clear hb0 hb1
        go_wp2_with fail
        go_roundw
        case rel => exact ⟨k + 1, by omega, by go_num, HN⟩
        case measure => simp [intOf]; omega
    · obtain rfl : k = n := by omega
      go_wp2_with fail
      go_ret
      exact .inl ⟨rfl, HK.out⟩
set_option maxRecDepth 100000 in
theorem hasI56 (p : Value) (A : Option Addr) (n c : Nat) (l : List Int) (I Q : Nat → World → Prop) (w : World) (h0 : I 0 w)
    (hS : ∀ k W, I k W → Ints W A n c l)
    (hI : ∀ k x W, l[k]? = some x → I k W → Calls Tryz.prog 60 #[.int .i64 x, p] W fun e W' => ∃ b : Bool, e = .returned (.bool b) ∧ (b = false → I (k + 1) W') ∧ (b = true → Q k W')) :
    Calls Tryz.prog 59 #[.slice A n c, .func (.func 60) #[] #[p]] w fun e w' => (e = .returned (.bool false) ∧ I n w') ∨ ∃ k : Nat, k < n ∧ e = .returned (.bool true) ∧ Q k w' := by
  have HC := Lib.hid (idxI56 p A n c l I Q w h0 hS hI)
  clear h0 hS hI
  go_enter Tryz.func59, Tryz.ntmps59
  go_wp2_with fail
  refine HC.out.mono ?_
  rintro e w2 (⟨rfl, h⟩ | ⟨k, hk, rfl, h⟩)
  · have H := Lib.hid h
    clear h HC
    go_wp2_with fail
    go_ret
    exact .inl ⟨rfl, H.out⟩
  · have H := Lib.hid h
    clear h HC
    go_wp2_with fail
    go_ret
    exact .inr ⟨k, hk, rfl, H.out⟩
set_option maxRecDepth 100000 in
theorem idxS63 (p : Value) (A : Option Addr) (n c : Nat) (l : List Str) (I Q : Nat → World → Prop) (w : World) (h0 : I 0 w)
    (hS : ∀ k W, I k W → Strs W A n c l)
    (hI : ∀ k x W, l[k]? = some x → I k W → Calls Tryz.prog 85 #[.string ⟨x.toArray⟩, p] W fun e W' => ∃ b : Bool, e = .returned (.bool b) ∧ (b = false → I (k + 1) W') ∧ (b = true → Q k W')) :
    Calls Tryz.prog 96 #[.slice A n c, .func (.func 85) #[] #[p]] w fun e w' => (e = .returned (.int .i64 (-1)) ∧ I n w') ∨ ∃ k : Nat, k < n ∧ e = .returned (.int .i64 k) ∧ Q k w' := by
  have hle := (hS 0 w h0).v.le
  have hcap := (hS 0 w h0).v.cap
  have HS := Lib.hid hS
  have HI := Lib.hid hI
  have H0 := Lib.hid h0
  clear hS hI h0
  go_enter Tryz.func96, Tryz.ntmps96
  go_wp2_with fail
  go_loopw [8] (fun i wr => ∃ k : Nat, k ≤ n ∧ i = .int .i64 k ∧ Hid (I k wr)) (fun i _ => n - (intOf i).toNat)
  case atStart => exact ⟨0, by omega, rfl, H0⟩
  case round =>
    clear H0
    obtain ⟨k, hkn, rfl, HK⟩ := hrel
    by_cases hlt : k < n
    · obtain ⟨ad, x, hx, hok, rfl, hbl, x0⟩ := (HS.out k wr HK.out).at k hlt
      have HC := Lib.hid (HI.out k x wr hx HK.out)
      clear hx hok HK
      go_wp2_with fail
      refine HC.out.mono ?_
      rintro e w2 ⟨b, rfl, hb0, hb1⟩
      clear x0 HC
      cases b with
      | true =>
        have HQ := Lib.hid (hb1 rfl)
        clear hb0 hb1
        go_wp2_with fail
        go_ret
        exact .inr ⟨k, hlt, rfl, HQ.out⟩
      | false =>
        have HN := Lib.hid (hb0 rfl)
        clear hb0 hb1
        go_wp2_with fail
        go_roundw
        case rel => exact ⟨k + 1, by omega, by go_num, HN⟩
        case measure => simp [intOf]; omega
    · obtain rfl : k = n := by omega
      go_wp2_with fail
      go_ret
      exact .inl ⟨rfl, HK.out⟩
set_option maxRecDepth 100000 in
theorem hasS63 (p : Value) (A : Option Addr) (n c : Nat) (l : List Str) (I Q : Nat → World → Prop) (w : World) (h0 : I 0 w)
    (hS : ∀ k W, I k W → Strs W A n c l)
    (hI : ∀ k x W, l[k]? = some x → I k W → Calls Tryz.prog 85 #[.string ⟨x.toArray⟩, p] W fun e W' => ∃ b : Bool, e = .returned (.bool b) ∧ (b = false → I (k + 1) W') ∧ (b = true → Q k W')) :
    Calls Tryz.prog 81 #[.slice A n c, .func (.func 85) #[] #[p]] w fun e w' => (e = .returned (.bool false) ∧ I n w') ∨ ∃ k : Nat, k < n ∧ e = .returned (.bool true) ∧ Q k w' := by
  have HC := Lib.hid (idxS63 p A n c l I Q w h0 hS hI)
  clear h0 hS hI
  go_enter Tryz.func81, Tryz.ntmps81
  go_wp2_with fail
  refine HC.out.mono ?_
  rintro e w2 (⟨rfl, h⟩ | ⟨k, hk, rfl, h⟩)
  · have H := Lib.hid h
    clear h HC
    go_wp2_with fail
    go_ret
    exact .inl ⟨rfl, H.out⟩
  · have H := Lib.hid h
    clear h HC
    go_wp2_with fail
    go_ret
    exact .inr ⟨k, hk, rfl, H.out⟩
set_option maxRecDepth 100000 in
theorem idxS61 (p q r : Value) (A : Option Addr) (n c : Nat) (l : List Str) (I Q : Nat → World → Prop) (w : World) (h0 : I 0 w)
    (hS : ∀ k W, I k W → Strs W A n c l)
    (hI : ∀ k x W, l[k]? = some x → I k W → Calls Tryz.prog 80 #[.string ⟨x.toArray⟩, p, q, r] W fun e W' => ∃ b : Bool, e = .returned (.bool b) ∧ (b = false → I (k + 1) W') ∧ (b = true → Q k W')) :
    Calls Tryz.prog 96 #[.slice A n c, .func (.func 80) #[] #[p, q, r]] w fun e w' => (e = .returned (.int .i64 (-1)) ∧ I n w') ∨ ∃ k : Nat, k < n ∧ e = .returned (.int .i64 k) ∧ Q k w' := by
  have hle := (hS 0 w h0).v.le
  have hcap := (hS 0 w h0).v.cap
  have HS := Lib.hid hS
  have HI := Lib.hid hI
  have H0 := Lib.hid h0
  clear hS hI h0
  go_enter Tryz.func96, Tryz.ntmps96
  go_wp2_with fail
  go_loopw [8] (fun i wr => ∃ k : Nat, k ≤ n ∧ i = .int .i64 k ∧ Hid (I k wr)) (fun i _ => n - (intOf i).toNat)
  case atStart => exact ⟨0, by omega, rfl, H0⟩
  case round =>
    clear H0
    obtain ⟨k, hkn, rfl, HK⟩ := hrel
    by_cases hlt : k < n
    · obtain ⟨ad, x, hx, hok, rfl, hbl, x0⟩ := (HS.out k wr HK.out).at k hlt
      have HC := Lib.hid (HI.out k x wr hx HK.out)
      clear hx hok HK
      go_wp2_with fail
      refine HC.out.mono ?_
      rintro e w2 ⟨b, rfl, hb0, hb1⟩
      clear x0 HC
      cases b with
      | true =>
        have HQ := Lib.hid (hb1 rfl)
        clear hb0 hb1
        go_wp2_with fail
        go_ret
        exact .inr ⟨k, hlt, rfl, HQ.out⟩
      | false =>
        have HN := Lib.hid (hb0 rfl)
        clear hb0 hb1
        go_wp2_with fail
        go_roundw
        case rel => exact ⟨k + 1, by omega, by go_num, HN⟩
        case measure => simp [intOf]; omega
    · obtain rfl : k = n := by omega
      go_wp2_with fail
      go_ret
      exact .inl ⟨rfl, HK.out⟩
set_option maxRecDepth 100000 in
theorem hasS61 (p q r : Value) (A : Option Addr) (n c : Nat) (l : List Str) (I Q : Nat → World → Prop) (w : World) (h0 : I 0 w)
    (hS : ∀ k W, I k W → Strs W A n c l)
    (hI : ∀ k x W, l[k]? = some x → I k W → Calls Tryz.prog 80 #[.string ⟨x.toArray⟩, p, q, r] W fun e W' => ∃ b : Bool, e = .returned (.bool b) ∧ (b = false → I (k + 1) W') ∧ (b = true → Q k W')) :
    Calls Tryz.prog 81 #[.slice A n c, .func (.func 80) #[] #[p, q, r]] w fun e w' => (e = .returned (.bool false) ∧ I n w') ∨ ∃ k : Nat, k < n ∧ e = .returned (.bool true) ∧ Q k w' := by
  have HC := Lib.hid (idxS61 p q r A n c l I Q w h0 hS hI)
  clear h0 hS hI
  go_enter Tryz.func81, Tryz.ntmps81
  go_wp2_with fail
  refine HC.out.mono ?_
  rintro e w2 (⟨rfl, h⟩ | ⟨k, hk, rfl, h⟩)
  · have H := Lib.hid h
    clear h HC
    go_wp2_with fail
    go_ret
    exact .inl ⟨rfl, H.out⟩
  · have H := Lib.hid h
    clear h HC
    go_wp2_with fail
    go_ret
    exact .inr ⟨k, hk, rfl, H.out⟩
end Go.Proofs.YtnkemoicgadefaaGreatDoor
