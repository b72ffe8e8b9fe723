/-
  Of the serializations of two values of one kind none begins with the other, unless the values are equal.
-/
import Derived.Test.YtmohcanfkcopiaaDoorMath
namespace Go.Proofs.YtmohcanfkcopiaaDoor
open Go.Lib
section
variable {α : Type} {p : List UInt8 → Option (α × List UInt8)} {f : α → List UInt8} {g : α → Prop}

theorem pre_free (d : ∀ s v t, p s = some (v, t) ↔ g v ∧ s = f v ++ t) {x y : α} (gx : g x) (gy : g y) {r : List UInt8} (h : f y = f x ++ r) : x = y := by
  have h1 := (d (f y) y []).2 ⟨gy, by simp⟩
  have h2 := (d (f y) x r).2 ⟨gx, h⟩
  rw [h1] at h2
  injection h2 with h2
  injection h2 with h2 _
  exact h2.symm
theorem pre_inj (d : ∀ s v t, p s = some (v, t) ↔ g v ∧ s = f v ++ t) {x y : α} (gx : g x) (gy : g y) : f x = f y ↔ x = y :=
  ⟨fun h => pre_free d gx gy (r := []) (by rw [h]; simp), fun h => by rw [h]⟩
theorem pre_min (d : ∀ s v t, p s = some (v, t) ↔ g v ∧ s = f v ++ t) {x y : α} (gx : g x) (gy : g y) :
    (f x).take (min (f x).length (f y).length) = (f y).take (min (f x).length (f y).length) ↔ x = y := by
  constructor
  · intro h
    by_cases hl : (f x).length ≤ (f y).length
    · rw [Nat.min_eq_left hl, List.take_length] at h
      exact pre_free d gx gy (r := (f y).drop (f x).length) (by conv => lhs; rw [← List.take_append_drop (f x).length (f y)]
                                                                rw [← h])
    · rw [Nat.min_eq_right (by omega), List.take_length] at h
      exact (pre_free d gy gx (r := (f x).drop (f y).length) (by conv => lhs; rw [← List.take_append_drop (f y).length (f x)]
                                                                 rw [h])).symm
  · rintro rfl; rfl
end
theorem pre_int {x y : Int} (hx : I64 x) (hy : I64 y) : (serI x = serI y ↔ x = y) ∧ ((serI x).take (min (serI x).length (serI y).length) = (serI y).take (min (serI x).length (serI y).length) ↔ x = y) := And.intro (pre_inj intP_iff hx hy) (pre_min intP_iff hx hy)
theorem pre_text {x y : List UInt8} (hx : I64 x.length) (hy : I64 y.length) : (serT x = serT y ↔ x = y) ∧ ((serT x).take (min (serT x).length (serT y).length) = (serT y).take (min (serT x).length (serT y).length) ↔ x = y) := And.intro (pre_inj textP_iff hx hy) (pre_min textP_iff hx hy)
theorem pre_ints {x y : List Int} (hx : ∀ v ∈ x, I64 v) (hy : ∀ v ∈ y, I64 v) : (serL serI x = serL serI y ↔ x = y) ∧ ((serL serI x).take (min (serL serI x).length (serL serI y).length) = (serL serI y).take (min (serL serI x).length (serL serI y).length) ↔ x = y) := And.intro (pre_inj (listD intD) hx hy) (pre_min (listD intD) hx hy)
theorem pre_texts {x y : List (List UInt8)} (hx : ∀ v ∈ x, I64 v.length) (hy : ∀ v ∈ y, I64 v.length) : (serL serT x = serL serT y ↔ x = y) ∧ ((serL serT x).take (min (serL serT x).length (serL serT y).length) = (serL serT y).take (min (serL serT x).length (serL serT y).length) ↔ x = y) := And.intro (pre_inj (listD textD) hx hy) (pre_min (listD textD) hx hy)
end Go.Proofs.YtmohcanfkcopiaaDoor
