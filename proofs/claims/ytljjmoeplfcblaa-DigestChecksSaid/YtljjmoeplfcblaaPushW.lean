/-
  A block put behind a stack as the program does it, as a plain function.
-/
import Derived.Test.YtljjmoeplfcblaaStack
namespace Go.Proofs.Ytljjmoeplfcblaa

def pushW : List Nd → Nd → List Nd
  | [], n => [n]
  | a :: r, n => if whole a.b a.s = whole n.b n.s then pushW r ⟨(whole n.b n.s).1, (whole n.b n.s).2, pairD a.d n.d⟩ else n :: a :: r
theorem pushW_merge {a n : Nd} {r : List Nd} (h : whole a.b a.s = whole n.b n.s) : pushW (a :: r) n = pushW r ⟨(whole n.b n.s).1, (whole n.b n.s).2, pairD a.d n.d⟩ := by rw [pushW, if_pos h]
theorem pushW_stop {a n : Nd} {r : List Nd} (h : ¬ whole a.b a.s = whole n.b n.s) : pushW (a :: r) n = n :: a :: r := by rw [pushW, if_neg h]
/-- blocks that follow each other are put together as the document says -/
theorem pushW_eq : ∀ (r : List Nd) (n : Nd), ctg r n.b → 0 < n.s → n.b % n.s = 0 → pushW r n = push pairD r n
  | [], _, _, _, _ => rfl
  | a :: r, n, ⟨h1, h2, h3, h4⟩, hs, hm => by
    have hw := whole_iff a.b a.s n.s h2 h3 (by rw [h1]; exact hm)
    rw [h1] at hw
    unfold push
    by_cases hc : a.s = n.s ∧ a.b % (2 * a.s) = 0
    · have he := hw.2 hc
      have e1 : whole n.b n.s = (a.b, 2 * a.s) := by rw [← he]; unfold whole; rw [hc.2]; rfl
      rw [if_pos hc, pushW_merge he, e1]
      exact pushW_eq r ⟨a.b, 2 * a.s, pairD a.d n.d⟩ h4 (by show 0 < 2 * a.s; omega) hc.2
    · rw [if_neg hc, pushW_stop (fun e => hc (hw.1 e))]
def mass (l : List Nd) : Nat := (l.map (·.s)).sum
theorem mass_cons (a : Nd) (l : List Nd) : mass (a :: l) = a.s + mass l := by simp [mass]
/-- the numbers of a stack are in reach -/
structure Fine (r : List Nd) (m : Nd) : Prop where
  len : r.length ≤ 1099511627776
  mass : m.s + mass r ≤ 1152921504606846976
  all : ∀ x ∈ m :: r, 0 < x.s ∧ x.d.length ≤ 8 ∧ x.b ≤ 2199023255552
theorem Fine.next {a m : Nd} {r : List Nd} (h : Fine (a :: r) m) (hw : whole a.b a.s = whole m.b m.s) : Fine r ⟨(whole m.b m.s).1, (whole m.b m.s).2, pairD a.d m.d⟩ := by
  have e2 : 2 * a.s = 2 * m.s := congrArg Prod.snd hw
  have hm := h.mass
  rw [mass_cons] at hm
  have ha := h.all a (by simp)
  have hmm := h.all m (by simp)
  refine ⟨by have := h.len; simp at this; omega, ?_, fun x hx => ?_⟩
  · show 2 * m.s + Ytljjmoeplfcblaa.mass r ≤ _
    omega
  · rcases List.mem_cons.1 hx with rfl | hx
    · refine ⟨?_, Nat.le_of_eq (pairD_len _ _), ?_⟩
      · show 0 < 2 * m.s; omega
      · show m.b - m.b % (2 * m.s) ≤ _; omega
    · exact h.all x (by simp [hx])
end Go.Proofs.Ytljjmoeplfcblaa
