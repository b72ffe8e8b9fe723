/-
  Rising lists of numbers and of strings, of the program and of the reference.
-/
import Derived.Test.YtnkemoicgadefaaCode
import Derived.BigQuiet
import Derived.Deep.RegionHeld3
namespace Go.Proofs.Ytnkemoicgadefaa
open Go.RowKit
attribute [local go_sem] get_mk extract_mk
theorem bytesLess_eq : ∀ (x y : Str), Op.bytesLess x y = decide (x < y)
  | [], [] => by simp [Op.bytesLess]
  | _ :: _, [] => by simp [Op.bytesLess]
  | [], _ :: _ => by simp [Op.bytesLess]
  | a :: x, b :: y => by
    rw [Op.bytesLess, bytesLess_eq x y]
    rw [Bool.eq_iff_iff]
    simp only [Bool.or_eq_true, Bool.and_eq_true, decide_eq_true_eq, beq_iff_eq, List.cons_lt_cons_iff]
theorem incI_iff : ∀ (l : List Int), incI l = true ↔ ∀ (j : Nat) (x y : Int), l[j]? = some x → l[j + 1]? = some y → x < y
  | [] => by simp [incI]
  | [a] => by
    simp only [incI, true_iff]
    intro j x y _ h
    simp at h
  | a :: b :: l => by
    have ih := incI_iff (b :: l)
    simp only [incI, Bool.and_eq_true, decide_eq_true_eq, ih]
    constructor
    · rintro ⟨h1, h2⟩ j x y hx hy
      match j, hx, hy with
      | 0, hx, hy => simp at hx hy; subst hx hy; exact h1
      | j + 1, hx, hy => exact h2 j x y (by simpa using hx) (by simpa using hy)
    · intro h
      exact ⟨h 0 a b rfl rfl, fun j x y hx hy => h (j + 1) x y (by simpa using hx) (by simpa using hy)⟩
theorem incS_iff : ∀ (l : List Str), incS l = true ↔ ∀ (j : Nat) (x y : Str), l[j]? = some x → l[j + 1]? = some y → x < y
  | [] => by simp [incS]
  | [a] => by
    simp only [incS, true_iff]
    intro j x y _ h
    simp at h
  | a :: b :: l => by
    have ih := incS_iff (b :: l)
    simp only [incS, Bool.and_eq_true, decide_eq_true_eq, ih]
    constructor
    · rintro ⟨h1, h2⟩ j x y hx hy
      match j, hx, hy with
      | 0, hx, hy => simp at hx hy; subst hx hy; exact h1
      | j + 1, hx, hy => exact h2 j x y (by simpa using hx) (by simpa using hy)
    · intro h
      exact ⟨h 0 a b rfl rfl, fun j x y hx hy => h (j + 1) x y (by simpa using hx) (by simpa using hy)⟩
theorem incS_inc {l : List Str} (h : Inc l) : incS l = true := by
  rw [incS_iff]
  intro j x y hx hy
  obtain ⟨h1, h2⟩ := List.getElem?_eq_some_iff.1 hx
  obtain ⟨h3, h4⟩ := List.getElem?_eq_some_iff.1 hy
  have := List.pairwise_iff_getElem.1 h j (j + 1) h1 h3 (by omega)
  rw [h2, h4] at this
  exact this
set_option maxRecDepth 100000 in
theorem incI_k (A : Option Addr) (n c : Nat) (l : List Int) (w : World) (hl : Ints w A n c l) : Calls Try.prog 59 #[.slice A n c] w fun e w' => e = .returned (.bool (incI l)) ∧ w.grownBy w' none := by
  have HN := Lib.hid hl.len
  have hle := hl.v.le
  have hcap := hl.v.cap
  have HL := Lib.hid (fun W (g : w.grownBy W none) => hl.kept g)
  clear hl
  go_enter Try.func59, Try.ntmps59
  go_wp2_with fail
  go_loopw [3] (fun z wr => ∃ k : Nat, k ≤ n ∧ z = .int .i64 ((k : Int) + 1) ∧ Hid (∀ (j : Nat) (x y : Int), j < k → l[j]? = some x → l[j + 1]? = some y → x < y) ∧ w.grownBy wr none) (fun z _ => n + 1 - (intOf z).toNat)
  case atStart => exact ⟨0, Nat.zero_le _, rfl, Lib.hid (fun _ _ _ h => by omega), grown_refl _⟩
  case round =>
    obtain ⟨k, hk, rfl, HA, hg⟩ := hrel
    by_cases hlt : k + 1 < n
    · obtain ⟨ad, x, hx, _, rfl, hb, cx⟩ := (HL.out _ hg).at k (by omega)
      obtain ⟨ad2, y, hy, _, e2, _, cy⟩ := (HL.out _ hg).at (k + 1) hlt
      obtain rfl := Option.some.inj e2
      rw [add_at _ (k + 1) (by omega)] at cy
      have r1 : (0 : Int) ≤ (k : Int) := by omega
      have r2 : (k : Int) < (n : Int) := by omega
      have r3 : (k : Int) + 1 < (n : Int) := by omega
      have r4 : (0 : Int) ≤ (k : Int) + 1 := by omega
      have r5 : IntKind.i64.wrap (k : Int) = (k : Int) := by rw [IntKind.wrap_i64]; omega
      have r6 : IntKind.i64.wrap ((k : Int) + 1 + 1) = (k : Int) + 1 + 1 := by rw [IntKind.wrap_i64]; omega
      have r7 : ((k : Int) + 1).toNat = k + 1 := by omega
      have HX := Lib.hid hx
      have HY := Lib.hid hy
      clear hx hy e2 hb
      by_cases hxy : x < y
      · have HA2 : Hid (∀ (j : Nat) (a b : Int), j < k + 1 → l[j]? = some a → l[j + 1]? = some b → a < b) := Lib.hid (fun j a b hj ha hb => by
          by_cases e : j = k
          · subst e
            rw [HX.out] at ha
            rw [HY.out] at hb
            injection ha with ha
            injection hb with hb
            subst ha hb
            exact hxy
          · exact HA.out j a b (by omega) ha hb)
        have c1 : x < y := hxy
        clear HA HX HY HN
        go_wp2_with fail
        go_region
        go_wp2_with fail
        go_roundw
        case rel => exact ⟨k + 1, by omega, by go_num, HA2, grown_dr hg⟩
        case measure => simp [intOf]; omega
      · have HB : Hid (incI l = false) := Lib.hid (by
          rw [Bool.eq_false_iff]
          intro h
          exact hxy ((incI_iff l).1 h k x y HX.out HY.out))
        have c1 : ¬ x < y := hxy
        clear HA HX HY HN
        go_wp2_with fail
        go_region
        go_wp2_with fail
        go_ret
        exact ⟨by rw [HB.out]; rfl, grown_dr hg⟩
    · have HB : Hid (incI l = true) := Lib.hid ((incI_iff l).2 (fun j x y hx hy => by
        have := (List.getElem?_eq_some_iff.1 hy).1
        have hn := HN.out
        exact HA.out j x y (by omega) hx hy))
      clear HA HN
      go_wp2_with fail
      go_ret
      exact ⟨by rw [HB.out]; rfl, hg⟩
set_option maxRecDepth 100000 in
theorem incS_k (A : Option Addr) (n c : Nat) (l : List Str) (w : World) (hl : Strs w A n c l) : Calls Try.prog 60 #[.slice A n c] w fun e w' => e = .returned (.bool (incS l)) ∧ w.grownBy w' none := by
  have HN := Lib.hid hl.len
  have hle := hl.v.le
  have hcap := hl.v.cap
  have HL := Lib.hid (fun W (g : w.grownBy W none) => hl.kept g)
  clear hl
  go_enter Try.func60, Try.ntmps60
  go_wp2_with fail
  go_loopw [3] (fun z wr => ∃ k : Nat, k ≤ n ∧ z = .int .i64 ((k : Int) + 1) ∧ Hid (∀ (j : Nat) (x y : Str), j < k → l[j]? = some x → l[j + 1]? = some y → x < y) ∧ w.grownBy wr none) (fun z _ => n + 1 - (intOf z).toNat)
  case atStart => exact ⟨0, Nat.zero_le _, rfl, Lib.hid (fun _ _ _ h => by omega), grown_refl _⟩
  case round =>
    obtain ⟨k, hk, rfl, HA, hg⟩ := hrel
    by_cases hlt : k + 1 < n
    · obtain ⟨ad, x, hx, _, rfl, hb, cx⟩ := (HL.out _ hg).at k (by omega)
      obtain ⟨ad2, y, hy, _, e2, _, cy⟩ := (HL.out _ hg).at (k + 1) hlt
      obtain rfl := Option.some.inj e2
      rw [add_at _ (k + 1) (by omega)] at cy
      have r1 : (0 : Int) ≤ (k : Int) := by omega
      have r2 : (k : Int) < (n : Int) := by omega
      have r3 : (k : Int) + 1 < (n : Int) := by omega
      have r4 : (0 : Int) ≤ (k : Int) + 1 := by omega
      have r5 : IntKind.i64.wrap (k : Int) = (k : Int) := by rw [IntKind.wrap_i64]; omega
      have r6 : IntKind.i64.wrap ((k : Int) + 1 + 1) = (k : Int) + 1 + 1 := by rw [IntKind.wrap_i64]; omega
      have r7 : ((k : Int) + 1).toNat = k + 1 := by omega
      have HX := Lib.hid hx
      have HY := Lib.hid hy
      clear hx hy e2 hb
      by_cases hxy : x < y
      · have HA2 : Hid (∀ (j : Nat) (a b : Str), j < k + 1 → l[j]? = some a → l[j + 1]? = some b → a < b) := Lib.hid (fun j a b hj ha hb => by
          by_cases e : j = k
          · subst e
            rw [HX.out] at ha
            rw [HY.out] at hb
            injection ha with ha
            injection hb with hb
            subst ha hb
            exact hxy
          · exact HA.out j a b (by omega) ha hb)
        have c1 : Op.bytesLess x y = true := by rw [bytesLess_eq, decide_eq_true_eq]; exact hxy
        have c2 : Op.bytesLess y x = false := by rw [bytesLess_eq, decide_eq_false_iff_not]; exact lt_asy hxy
        have c3 : (y == x) = false := by rw [beq_eq_false_iff_ne]; intro e; rw [e] at hxy; exact lt_irr x hxy
        clear hxy
        clear HA HX HY HN
        go_wp2_with fail
        go_region
        go_wp2_with fail
        go_roundw
        case rel => exact ⟨k + 1, by omega, by go_num, HA2, grown_dr hg⟩
        case measure => simp [intOf]; omega
      · have HB : Hid (incS l = false) := Lib.hid (by
          rw [Bool.eq_false_iff]
          intro h
          exact hxy ((incS_iff l).1 h k x y HX.out HY.out))
        have c1 : Op.bytesLess x y = false := by rw [bytesLess_eq, decide_eq_false_iff_not]; exact hxy
        have c2 : (Op.bytesLess y x || (y == x)) = true := by
          rw [bytesLess_eq, Bool.or_eq_true, decide_eq_true_eq, beq_iff_eq]
          exact Classical.byContradiction fun h => hxy (Classical.byContradiction fun h2 => h (.inr (lt_tri y x (fun h3 => h (.inl h3)) h2)))
        clear hxy
        clear HA HX HY HN
        go_wp2_with fail
        go_region
        go_wp2_with fail
        go_ret
        exact ⟨by rw [HB.out]; rfl, grown_dr hg⟩
    · have HB : Hid (incS l = true) := Lib.hid ((incS_iff l).2 (fun j x y hx hy => by
        have := (List.getElem?_eq_some_iff.1 hy).1
        have hn := HN.out
        exact HA.out j x y (by omega) hx hy))
      clear HA HN
      go_wp2_with fail
      go_ret
      exact ⟨by rw [HB.out]; rfl, hg⟩
set_option maxRecDepth 100000 in
theorem incS_r (A : Option Addr) (n c : Nat) (l : List Str) (w : World) (hl : Strs w A n c l) : Calls Try.prog 29 #[.slice A n c] w fun e w' => e = .returned (.bool (incS l)) ∧ w.grownBy w' none := by
  have HN := Lib.hid hl.len
  have hle := hl.v.le
  have hcap := hl.v.cap
  have HL := Lib.hid (fun W (g : w.grownBy W none) => hl.kept g)
  clear hl
  go_enter Try.func29, Try.ntmps29
  go_wp2_with fail
  go_loopw [3] (fun z wr => ∃ k : Nat, k ≤ n ∧ z = .int .i64 ((k : Int) + 1) ∧ Hid (∀ (j : Nat) (x y : Str), j < k → l[j]? = some x → l[j + 1]? = some y → x < y) ∧ w.grownBy wr none) (fun z _ => n + 1 - (intOf z).toNat)
  case atStart => exact ⟨0, Nat.zero_le _, rfl, Lib.hid (fun _ _ _ h => by omega), grown_refl _⟩
  case round =>
    obtain ⟨k, hk, rfl, HA, hg⟩ := hrel
    by_cases hlt : k + 1 < n
    · obtain ⟨ad, x, hx, _, rfl, hb, cx⟩ := (HL.out _ hg).at k (by omega)
      obtain ⟨ad2, y, hy, _, e2, _, cy⟩ := (HL.out _ hg).at (k + 1) hlt
      obtain rfl := Option.some.inj e2
      rw [add_at _ (k + 1) (by omega)] at cy
      have r1 : (0 : Int) ≤ (k : Int) := by omega
      have r2 : (k : Int) < (n : Int) := by omega
      have r3 : (k : Int) + 1 < (n : Int) := by omega
      have r4 : (0 : Int) ≤ (k : Int) + 1 := by omega
      have r5 : IntKind.i64.wrap (k : Int) = (k : Int) := by rw [IntKind.wrap_i64]; omega
      have r6 : IntKind.i64.wrap ((k : Int) + 1 + 1) = (k : Int) + 1 + 1 := by rw [IntKind.wrap_i64]; omega
      have r7 : ((k : Int) + 1).toNat = k + 1 := by omega
      have HX := Lib.hid hx
      have HY := Lib.hid hy
      clear hx hy e2 hb
      by_cases hxy : x < y
      · have HA2 : Hid (∀ (j : Nat) (a b : Str), j < k + 1 → l[j]? = some a → l[j + 1]? = some b → a < b) := Lib.hid (fun j a b hj ha hb => by
          by_cases e : j = k
          · subst e
            rw [HX.out] at ha
            rw [HY.out] at hb
            injection ha with ha
            injection hb with hb
            subst ha hb
            exact hxy
          · exact HA.out j a b (by omega) ha hb)
        have c1 : Op.bytesLess x y = true := by rw [bytesLess_eq, decide_eq_true_eq]; exact hxy
        have c2 : Op.bytesLess y x = false := by rw [bytesLess_eq, decide_eq_false_iff_not]; exact lt_asy hxy
        have c3 : (y == x) = false := by rw [beq_eq_false_iff_ne]; intro e; rw [e] at hxy; exact lt_irr x hxy
        clear hxy
        clear HA HX HY HN
        go_wp2_with fail
        go_region
        go_wp2_with fail
        go_roundw
        case rel => exact ⟨k + 1, by omega, by go_num, HA2, grown_dr hg⟩
        case measure => simp [intOf]; omega
      · have HB : Hid (incS l = false) := Lib.hid (by
          rw [Bool.eq_false_iff]
          intro h
          exact hxy ((incS_iff l).1 h k x y HX.out HY.out))
        have c1 : Op.bytesLess x y = false := by rw [bytesLess_eq, decide_eq_false_iff_not]; exact hxy
        have c2 : (Op.bytesLess y x || (y == x)) = true := by
          rw [bytesLess_eq, Bool.or_eq_true, decide_eq_true_eq, beq_iff_eq]
          exact Classical.byContradiction fun h => hxy (Classical.byContradiction fun h2 => h (.inr (lt_tri y x (fun h3 => h (.inl h3)) h2)))
        clear hxy
        clear HA HX HY HN
        go_wp2_with fail
        go_region
        go_wp2_with fail
        go_ret
        exact ⟨by rw [HB.out]; rfl, grown_dr hg⟩
    · have HB : Hid (incS l = true) := Lib.hid ((incS_iff l).2 (fun j x y hx hy => by
        have := (List.getElem?_eq_some_iff.1 hy).1
        have hn := HN.out
        exact HA.out j x y (by omega) hx hy))
      clear HA HN
      go_wp2_with fail
      go_ret
      exact ⟨by rw [HB.out]; rfl, hg⟩
end Go.Proofs.Ytnkemoicgadefaa
