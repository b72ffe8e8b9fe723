/-
  What the reference's number computes.
-/
import Derived.Test.YtmohcanfkcopiaaDoorMath
namespace Go.Proofs.YtmohcanfkcopiaaDoor
open Go.Lib

def dval (l : List UInt8) : Nat := l.foldl (fun a c => 10 * a + (c.toNat - 48)) 0
theorem dval_snoc (l : List UInt8) (c : UInt8) : dval (l ++ [c]) = 10 * dval l + (c.toNat - 48) := by
  unfold dval; rw [List.foldl_append]; rfl
theorem fold_le : ∀ (l : List UInt8) (a : Nat), a ≤ l.foldl (fun a c => 10 * a + (c.toNat - 48)) a := by
  intro l
  induction l with
  | nil => intro a; exact Nat.le_refl _
  | cons c l ih => intro a; exact Nat.le_trans (show a ≤ 10 * a + (c.toNat - 48) by omega) (ih _)
theorem dval_le (l m : List UInt8) : dval l ≤ dval (l ++ m) := by
  unfold dval; rw [List.foldl_append]; exact fold_le _ _
theorem dval_take_le (l : List UInt8) (k : Nat) : dval (l.take k) ≤ dval l := by
  have h := dval_le (l.take k) (l.drop k)
  rwa [List.take_append_drop] at h
theorem dval_dec (u : Nat) : dval (decDigits u) = u := by
  induction u using Nat.strongRecOn with
  | _ u ih =>
    by_cases h : u < 10
    · rw [dec_small h]
      show 10 * 0 + ((UInt8.ofNat (48 + u)).toNat - 48) = u
      rw [ofNat_digit h]; omega
    · rw [dec_big h, dval_snoc, ih _ (by omega), ofNat_digit (by omega)]; omega

/-- what a form is: its sign and its digits -/
theorem form_pos {m : Int} {f : List UInt8} (h : itoa m = f) (h45 : f.head? ≠ some 45) : 0 ≤ m ∧ f = decDigits m.toNat := by
  by_cases hm : m < 0
  · rw [itoa_neg' hm] at h; subst h; simp at h45
  · rw [itoa_pos' hm] at h; exact ⟨by omega, h.symm⟩
theorem form_neg {m : Int} {d : List UInt8} (h : itoa m = 45 :: d) : m < 0 ∧ d = decDigits m.natAbs := by
  by_cases hm : m < 0
  · rw [itoa_neg' hm] at h; injection h with _ h; exact ⟨hm, h.symm⟩
  · rw [itoa_pos' hm] at h
    obtain ⟨c, r, hc, h1, h2⟩ := dec_head m.toNat
    rw [hc] at h
    injection h with h _
    subst h
    exact absurd h1 (by decide)

/-- sign and digits, at once -/
structure Form (f ds : List UInt8) (ng : Bool) : Prop where
  parts : f = (if ng then [45] else []) ++ ds
  head : ng = false → ds.head? ≠ some 45
theorem form_of (f : List UInt8) : ∃ ds ng, Form f ds ng := by
  match f with
  | [] => exact ⟨[], false, rfl, by simp⟩
  | c :: r =>
    by_cases h : c = 45
    · subst h; exact ⟨r, true, rfl, by simp⟩
    · exact ⟨c :: r, false, rfl, by simpa using h⟩
theorem form_itoa {f ds : List UInt8} {ng : Bool} (hf : Form f ds ng) {m : Int} (h : itoa m = f) : ds = decDigits m.natAbs ∧ m = (if ng then -(m.natAbs : Int) else m.natAbs) := by
  obtain ⟨hp, hh⟩ := hf
  cases ng with
  | true =>
    rw [hp] at h
    obtain ⟨h1, h2⟩ := form_neg (d := ds) h
    exact ⟨h2, by simp; omega⟩
  | false =>
    obtain rfl : f = ds := by simpa using hp
    obtain ⟨h1, h2⟩ := form_pos h (hh rfl)
    exact ⟨by rw [h2]; congr 1; omega, by simp; omega⟩

/-- the number is no form, if a byte is no digit -/
theorem no_digit {f ds : List UInt8} {ng : Bool} (hf : Form f ds ng) {k : Nat} {c : UInt8} (hk : ds[k]? = some c) (hc : ¬ (48 ≤ c.toNat ∧ c.toNat ≤ 57)) (m : Int) : itoa m ≠ f := by
  intro h
  have h1 := (form_itoa hf h).1
  exact hc (dec_digits m.natAbs c (by rw [← h1]; exact List.mem_of_getElem? hk))
/-- .. or if it is too large -/
theorem no_large {f ds : List UInt8} {ng : Bool} (hf : Form f ds ng) {k : Nat} (hk : 9223372036854775808 < dval (ds.take k)) (m : Int) (hm : I64 m) : itoa m ≠ f := by
  intro h
  have h1 := (form_itoa hf h).1
  have h2 := dval_take_le ds k
  have h3 := dval_dec m.natAbs
  rw [← h1] at h3
  have := hm.1
  have := hm.2
  omega
theorem form_val {f ds : List UInt8} {ng : Bool} (hf : Form f ds ng) {m : Int} (h : itoa m = f) : m = (if ng then -(dval ds : Int) else dval ds) := by
  obtain ⟨h1, h2⟩ := form_itoa hf h
  have h3 := dval_dec m.natAbs
  rw [← h1] at h3
  rw [h3]
  exact h2

/-- the number of a cut input -/
theorem numP_cut {c : UInt8} (hc : 58 ≤ c.toNat) {f t : List UInt8} (_ : c ∉ f) (n : Int) (h64 : I64 n) (h : itoa n = f) : numP c (f ++ c :: t) = some (n, t) :=
  (numP_iff hc _ _ _).2 ⟨h64, by rw [h]⟩
theorem numP_not {c : UInt8} (hc : 58 ≤ c.toNat) {f t : List UInt8} (hf : c ∉ f) (h : ∀ n, I64 n → itoa n ≠ f) : numP c (f ++ c :: t) = none := by
  cases hn : numP c (f ++ c :: t) with
  | none => rfl
  | some r =>
    obtain ⟨n, t'⟩ := r
    obtain ⟨h1, h2⟩ := (numP_iff hc _ _ _).1 hn
    have e1 := (cutAt_iff c _ f t).2 ⟨rfl, hf⟩
    have e2 := (cutAt_iff c _ (itoa n) t').2 ⟨h2, itoa_no hc⟩
    rw [e1] at e2
    injection e2 with e2
    injection e2 with e2 _
    exact absurd e2.symm (h n h1)
theorem numP_far {c : UInt8} (hc : 58 ≤ c.toNat) {l : List UInt8} (h : c ∉ l.take 21) : numP c l = none := by
  cases hn : numP c l with
  | none => rfl
  | some r =>
    obtain ⟨n, t'⟩ := r
    obtain ⟨h1, h2⟩ := (numP_iff hc _ _ _).1 hn
    have := itoa_len h1
    exfalso
    apply h
    rw [h2, List.take_append]
    apply List.mem_append_right
    obtain ⟨k, hk⟩ : ∃ k, 21 - (itoa n).length = k + 1 := ⟨20 - (itoa n).length, by omega⟩
    rw [hk]
    simp
end Go.Proofs.YtmohcanfkcopiaaDoor
