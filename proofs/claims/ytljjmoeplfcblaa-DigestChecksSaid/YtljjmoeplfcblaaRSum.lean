/-
  The reference's of, by its contract.
-/
import Derived.Test.YtljjmoeplfcblaaRBlk
namespace Go.Proofs.Ytljjmoeplfcblaa
open Go.RowKit Go.Shelf
attribute [local go_sem] get_mk extract_mk
theorem sum_le2 (l : List Str) (b : Nat × Nat) : (sumB l b).length ≤ 1152921504606846976 := by rw [sumB_len]; decide
set_option maxRecDepth 100000 in
set_option maxHeartbeats 4000000 in
/-- the reference's of, for one string -/
theorem of1_r (A : Option Addr) (n c : Nat) (l : List Str) (hn : n ≤ 1099511627776) (hsh : ∀ x ∈ l, x.length ≤ 1152921504606846976) (w : World) (b : Nat) (h3 : b + 1 ≤ n) (hl : Strs w A n c l) :
    Calls Try.prog 66 #[.slice A n c, .int .i64 b, .int .i64 1] w fun e w' => e = .returned (.string ⟨(sumB l (b, 1)).toArray⟩) ∧ w.grownBy w' none := by
  have h0 : 0 < n := by omega
  obtain ⟨ad, rfl, hab, hc⟩ := hl.cell h0
  obtain ⟨x, hx⟩ : ∃ x, l[b]? = some x := ⟨_, List.getElem?_eq_getElem (by have := hl.len; omega)⟩
  have hcx := hc b x hx
  have hxl := hsh x (List.mem_of_getElem? hx)
  have hsum : sumB l (b, 1) = leafD x := by rw [sumB_one, List.getD_eq_getElem?_getD, hx]; rfl
  rw [hsum]
  have q0 : (0 : Int) ≤ (b : Int) := by omega
  have q1 : (b : Int) < (n : Int) := by omega
  clear hc hx hl hsum hsh
  go_enter Try.func66, Try.ntmps66
  go_wp2_with fail
  refine (leaf_r x hxl _).mono ?_
  rintro e w' ⟨rfl, g⟩
  go_wp2_with fail
  go_ret
  exact ⟨rfl, g⟩
set_option maxRecDepth 100000 in
set_option maxHeartbeats 4000000 in
/-- the reference's of -/
theorem of2_r (A : Option Addr) (n c : Nat) (l : List Str) (hn : n ≤ 1099511627776) (hsh : ∀ x ∈ l, x.length ≤ 1152921504606846976) : ∀ (f : Nat) (w : World) (b s : Nat), 1 ≤ s → s ≤ f + 1 → b + s ≤ n → Strs w A n c l →
    Calls Try.prog 66 #[.slice A n c, .int .i64 b, .int .i64 s] w fun e w' => e = .returned (.string ⟨(sumB l (b, s)).toArray⟩) ∧ w.grownBy w' none := by
  intro f
  induction f with
  | zero =>
    intro w b s h1 h2 h3 hl
    obtain rfl : s = 1 := by omega
    exact of1_r A n c l hn hsh w b h3 hl
  | succ f IH =>
    intro w b s h1 h2 h3 hl
    by_cases hs : s = 1
    · subst hs
      exact of1_r A n c l hn hsh w b h3 hl
    · have hs2 : 2 ≤ s := by omega
      have HL : Hid (∀ w', w.grownBy w' none → Strs w' A n c l) := Lib.hid (fun w' g => hl.kept g)
      have q1 : ((s : Int) == 1) = false := by rw [beq_eq_false_iff_ne]; omega
      have hsum := sumB_two l b s hs2
      obtain ⟨h, hh⟩ : ∃ h, s / 2 = h := ⟨_, rfl⟩
      rw [hh] at hsum
      have q2 : (s : Int).tdiv 2 = (h : Int) := by rw [Int.tdiv_eq_ediv_of_nonneg (by omega)]; omega
      have q3 : IntKind.i64.wrap (h : Int) = (h : Int) := by rw [IntKind.wrap_i64]; omega
      have q4 : IntKind.i64.wrap ((b : Int) + (h : Int)) = (b : Int) + (h : Int) := by rw [IntKind.wrap_i64]; omega
      have q5 : (s : Int) / 2 = (h : Int) := by omega
      have q6 : 1 ≤ h ∧ h ≤ f + 1 ∧ b + h ≤ n ∧ b + h + h ≤ n := by omega
      have Q6 := Lib.hid q6
      clear q6 hh
      have HIH := Lib.hid IH
      have Hsum := Lib.hid hsum
      clear hl hsum IH hsh
      go_enter Try.func66, Try.ntmps66
      go_wp2_with fail
      refine (HIH.out _ b h Q6.out.1 Q6.out.2.1 Q6.out.2.2.1 (HL.out _ (World.grownBy.refl _ _))).mono ?_
      rintro e w1 ⟨rfl, g1⟩
      go_wp2_with fail
      refine (HIH.out _ (b + h) h Q6.out.1 Q6.out.2.1 Q6.out.2.2.2 (HL.out _ g1)).mono ?_
      rintro e w2 ⟨rfl, g2⟩
      go_wp2_with fail
      refine (node_r _ _ (sum_le2 _ _) (sum_le2 _ _) _).mono ?_
      rintro e w3 ⟨rfl, g3⟩
      go_wp2_with fail
      go_ret
      exact ⟨by rw [Hsum.out]; rfl, (g1.trans g2).trans g3⟩
end Go.Proofs.Ytljjmoeplfcblaa
