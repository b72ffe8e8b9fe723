/-
  Both clocks, the program's and the reference's, or none.
-/
import Derived.Test.YtgfifpbmjkjnpaaRClk
import Derived.Test.YtgfifpbmjkjnpaaOps
namespace Go.Proofs.Ytgfifpbmjkjnpaa
open Go.RowKit
/-- p points to a clock in the state st (none: it is nil) -/
def PC (B : Nat) (w : World) (p : Option Addr) : Option (Int × Int × Int × Int) → Prop
  | none => p = none
  | some (sv, d, c, s) => ∃ b, p = some ⟨b, 0, none⟩ ∧ B ≤ b ∧ Ck 57 w b sv d c s
theorem PC.kept {B : Nat} {w w' : World} {p : Option Addr} : ∀ {st}, PC B w p st → w.grownBy w' none → PC B w' p st
  | none, h, _ => h
  | some (_, _, _, _), ⟨b, h1, h2, h3⟩, g => ⟨b, h1, h2, h3.kept g⟩
theorem PC.far {B : Nat} {w w' : World} {p : Option Addr} {b : Nat} {sv d c s : Int} (hb : Ck 63 w b sv d c s) (g : w.grownBy w' (some b)) : ∀ {st}, PC B w p st → PC B w' p st
  | none, h => h
  | some (_, _, _, _), ⟨b', h1, h2, h3⟩ => ⟨b', h1, h2, h3.grown g (fun e => by
      injection e with e
      subst e
      unfold Ck at hb h3
      rw [hb] at h3
      injection h3 with h3
      injection h3 with _ h3
      exact absurd h3 (by decide))⟩
/-- p points to a clock in the state st (none: it is nil) -/
def RC (B : Nat) (w : World) (p : Option Addr) : Option (Int × Int × Int × Int) → Prop
  | none => p = none
  | some (sv, d, c, s) => ∃ b, p = some ⟨b, 0, none⟩ ∧ B ≤ b ∧ Ck 63 w b sv d c s
theorem RC.kept {B : Nat} {w w' : World} {p : Option Addr} : ∀ {st}, RC B w p st → w.grownBy w' none → RC B w' p st
  | none, h, _ => h
  | some (_, _, _, _), ⟨b, h1, h2, h3⟩, g => ⟨b, h1, h2, h3.kept g⟩
theorem RC.far {B : Nat} {w w' : World} {p : Option Addr} {b : Nat} {sv d c s : Int} (hb : Ck 57 w b sv d c s) (g : w.grownBy w' (some b)) : ∀ {st}, RC B w p st → RC B w' p st
  | none, h => h
  | some (_, _, _, _), ⟨b', h1, h2, h3⟩ => ⟨b', h1, h2, h3.grown g (fun e => by
      injection e with e
      subst e
      unfold Ck at hb h3
      rw [hb] at h3
      injection h3 with h3
      injection h3 with _ h3
      exact absurd h3 (by decide))⟩
/-- what a call of a clock leaves as it was -/
structure Tick (B : Nat) (w w' : World) : Prop where
  base : ∀ w0 : World, w0.heap.size ≤ B → w0.grownBy w none → w0.grownBy w' none
  keep : ∀ (o : Nat) (cs : Array Value) (T : TypeId), T ≠ 57 → T ≠ 63 → w.heap[o]? = some (.cells cs T (0, 0)) → w'.heap[o]? = some (.cells cs T (0, 0))
theorem lt_of_heap {w : World} {o : Nat} {x : Obj} (h : w.heap[o]? = some x) : o < w.heap.size := by
  rcases Nat.lt_or_ge o w.heap.size with hlt | hge
  · exact hlt
  · rw [Array.getElem?_eq_none hge] at h; cases h
theorem Tick.of_grown {B : Nat} {w w' : World} (g : w.grownBy w' none) : Tick B w w' := ⟨fun _ _ h => h.trans g, fun o _ _ _ _ h => (g.block o (lt_of_heap h) (by simp)).trans h⟩
theorem Tick.of_at {B b T : Nat} {w w' : World} {sv d c s : Int} (hT : T = 57 ∨ T = 63) (hb : Ck T w b sv d c s) (hB : B ≤ b) (g : w.grownBy w' (some b)) : Tick B w w' :=
  ⟨fun _ h0 h => h.andThen g (by rintro j ⟨⟩; exact .inl (by omega)), fun o cs T' h1 h2 h => (g.block o (lt_of_heap h) (fun e => by
    injection e with e
    subst e
    unfold Ck at hb
    rw [hb] at h
    injection h with h
    injection h with _ h
    rcases hT with rfl | rfl
    · exact h1 h.symm
    · exact h2 h.symm)).trans h⟩
theorem S3.tick {B : Nat} {w w' : World} {o : Nat} {d c s : Int} (t : Tick B w w') (h : S3 w o d c s) : S3 w' o d c s := t.keep o _ 39 (by decide) (by decide) h
theorem S5.tick {B : Nat} {w w' : World} {b : Nat} {h : Bool} {o p q r : Int} (t : Tick B w w') (H : S5 w b h o p q r) : S5 w' b h o p q r := t.keep b _ 41 (by decide) (by decide) H
def Fine : Option (Int × Int × Int × Int) → Prop
  | none => True
  | some (sv, _, c, s) => (c ≠ 0 ∨ s ≠ 0) ∧ -1 ≤ c ∧ c ≤ 1073741824 ∧ 1 ≤ sv
def nowO : Option (Int × Int × Int × Int) → Int → Int × Int × Int × Int × Option (Int × Int × Int × Int)
  | none, _ => (0, 0, 0, 1, none)
  | some (sv, d, c, s), day => ((nowR sv d c s day).1, (nowR sv d c s day).2.1, (nowR sv d c s day).2.2.1, (nowR sv d c s day).2.2.2.1, some (sv, (nowR sv d c s day).2.2.2.2))
def hearO : Option (Int × Int × Int × Int) → Int → Int → Int → Int → Int × Option (Int × Int × Int × Int)
  | none, _, _, _, _ => (1, none)
  | some (sv, d, c, s), p, q, r, day => ((hearR d c s p q r day).1, some (sv, (hearR d c s p q r day).2))
theorem now_fine (st : Option (Int × Int × Int × Int)) (day : Int) (h : Fine st) : Fine (nowO st day).2.2.2.2 := by
  rcases st with _ | ⟨sv, d, c, s⟩
  · trivial
  · obtain ⟨h1, h2, h3, h4⟩ := h
    show Fine (some (sv, (nowR sv d c s day).2.2.2.2))
    unfold nowR
    split
    · split
      · exact ⟨.inr (show sv ≠ 0 by omega), (by decide : (-1 : Int) ≤ 0), (by decide : (0 : Int) ≤ 1073741824), h4⟩
      · split
        · exact ⟨h1, h2, h3, h4⟩
        · exact ⟨.inr (show sv ≠ 0 by omega), show -1 ≤ c + 1 by omega, show c + 1 ≤ 1073741824 by omega, h4⟩
    · exact ⟨h1, h2, h3, h4⟩
theorem hear_fine (st : Option (Int × Int × Int × Int)) (p q r day : Int) (h : Fine st) : Fine (hearO st p q r day).2 := by
  rcases st with _ | ⟨sv, d, c, s⟩
  · trivial
  · obtain ⟨h1, h2, h3, h4⟩ := h
    have h5 : Fine (some (sv, d, c, s)) := ⟨h1, h2, h3, h4⟩
    show Fine (some (sv, (hearR d c s p q r day).2))
    unfold hearR
    split
    · split
      · split
        · split
          · split
            · split
              · rename_i hq1 hq2 hr
                have hr2 : 1 ≤ r ∧ r ≤ 8 := by simpa [serverB] using hr
                split
                · exact ⟨.inr (show r ≠ 0 by omega), show -1 ≤ q by omega, hq2, h4⟩
                · exact h5
              · exact h5
            · exact h5
          · exact h5
        · exact h5
      · exact h5
    · exact h5
theorem pnow (B : Nat) (a : Option Addr) (st : Option (Int × Int × Int × Int)) (day : Int) (w : World) (h : PC B w a st) (hf : Fine st) :
    Calls Try.prog 30 #[.pointer a, .int .i64 day] w fun e w' => e = .returned (.tuple #[.agg #[.int .i64 (nowO st day).1, .int .i64 (nowO st day).2.1, .int .i64 (nowO st day).2.2.1], .int .i64 (nowO st day).2.2.2.1]) ∧ PC B w' a ((nowO st day).2.2.2.2) ∧ Tick B w w' ∧ ∀ a2 st2, RC B w a2 st2 → RC B w' a2 st2 := by
  rcases st with _ | ⟨sv, d, c, s⟩
  · obtain rfl : a = none := h
    exact (now_nil day w).mono fun _ _ ⟨he, hg⟩ => ⟨he, rfl, .of_grown hg, fun _ _ h2 => h2.kept hg⟩
  · obtain ⟨b, rfl, hB, hc⟩ := h
    exact (now_k b sv d c s day _ _ _ _ _ _ _ w hc hf.2.1 hf.1 rfl).mono fun _ _ ⟨he, h1, hg⟩ => ⟨he, ⟨b, rfl, hB, h1⟩, .of_at (.inl rfl) hc hB hg, fun _ _ h2 => h2.far hc hg⟩
theorem phear (B : Nat) (a : Option Addr) (st : Option (Int × Int × Int × Int)) (p q r day : Int) (w : World) (h : PC B w a st) (hf : Fine st) :
    Calls Try.prog 28 #[.pointer a, .agg #[.int .i64 p, .int .i64 q, .int .i64 r], .int .i64 day] w fun e w' => e = .returned (.int .i64 (hearO st p q r day).1) ∧ PC B w' a ((hearO st p q r day).2) ∧ Tick B w w' ∧ ∀ a2 st2, RC B w a2 st2 → RC B w' a2 st2 := by
  rcases st with _ | ⟨sv, d, c, s⟩
  · obtain rfl : a = none := h
    exact (hear_nil p q r day w).mono fun _ _ ⟨he, hg⟩ => ⟨he, rfl, .of_grown hg, fun _ _ h2 => h2.kept hg⟩
  · obtain ⟨b, rfl, hB, hc⟩ := h
    exact (hear_k b sv d c s p q r day _ _ _ _ w hc hf.1 rfl).mono fun _ _ ⟨he, h1, hg⟩ => ⟨he, ⟨b, rfl, hB, h1⟩, .of_at (.inl rfl) hc hB hg, fun _ _ h2 => h2.far hc hg⟩
theorem qnow (B : Nat) (a : Option Addr) (st : Option (Int × Int × Int × Int)) (day : Int) (w : World) (h : RC B w a st) (hf : Fine st) :
    Calls Try.prog 31 #[.pointer a, .int .i64 day] w fun e w' => e = .returned (.tuple #[.agg #[.int .i64 (nowO st day).1, .int .i64 (nowO st day).2.1, .int .i64 (nowO st day).2.2.1], .int .i64 (nowO st day).2.2.2.1]) ∧ RC B w' a ((nowO st day).2.2.2.2) ∧ Tick B w w' ∧ ∀ a2 st2, PC B w a2 st2 → PC B w' a2 st2 := by
  rcases st with _ | ⟨sv, d, c, s⟩
  · obtain rfl : a = none := h
    exact (rnow_nil day w).mono fun _ _ ⟨he, hg⟩ => ⟨he, rfl, .of_grown hg, fun _ _ h2 => h2.kept hg⟩
  · obtain ⟨b, rfl, hB, hc⟩ := h
    exact (rnow_k b sv d c s day _ _ _ _ _ _ _ w hc (by have := hf.2.2.2; simp; omega) hf.2.1 hf.2.2.1 rfl).mono fun _ _ ⟨he, h1, hg⟩ => ⟨he, ⟨b, rfl, hB, h1⟩, .of_at (.inr rfl) hc hB hg, fun _ _ h2 => h2.far hc hg⟩
theorem qhear (B : Nat) (a : Option Addr) (st : Option (Int × Int × Int × Int)) (p q r day : Int) (w : World) (h : RC B w a st) (hf : Fine st) :
    Calls Try.prog 29 #[.pointer a, .agg #[.int .i64 p, .int .i64 q, .int .i64 r], .int .i64 day] w fun e w' => e = .returned (.int .i64 (hearO st p q r day).1) ∧ RC B w' a ((hearO st p q r day).2) ∧ Tick B w w' ∧ ∀ a2 st2, PC B w a2 st2 → PC B w' a2 st2 := by
  rcases st with _ | ⟨sv, d, c, s⟩
  · obtain rfl : a = none := h
    exact (rhear_nil p q r day w).mono fun _ _ ⟨he, hg⟩ => ⟨he, rfl, .of_grown hg, fun _ _ h2 => h2.kept hg⟩
  · obtain ⟨b, rfl, hB, hc⟩ := h
    exact (rhear_k b sv d c s p q r day _ _ _ _ w hc (by have := hf.2.2.2; simp; omega) rfl).mono fun _ _ ⟨he, h1, hg⟩ => ⟨he, ⟨b, rfl, hB, h1⟩, .of_at (.inr rfl) hc hB hg, fun _ _ h2 => h2.far hc hg⟩
end Go.Proofs.Ytgfifpbmjkjnpaa
