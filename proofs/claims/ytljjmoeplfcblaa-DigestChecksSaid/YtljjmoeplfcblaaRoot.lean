/-
  digest.Root, Prove and Grow, by their contracts.
-/
import Derived.Test.YtljjmoeplfcblaaPlace
namespace Go.Proofs.Ytljjmoeplfcblaa
open Go.RowKit Go.Shelf
attribute [local go_sem] get_mk extract_mk

theorem own_strs {w : World} {b : Nat} {v : Value} {D : List Str} (h : w.ownsRow b 9 1 v D.length (D.map fun s => .string ⟨s.toArray⟩)) (hl : ∀ s ∈ D, s.length ≤ 4611686018427387904) : ∃ A c, v = .slice A D.length c ∧ Strs w A D.length c D := by
  rcases h.2 with ⟨rfl, h0⟩ | ⟨g, cap, cur, rfl, hb, hg, h1, h2, h3, h4⟩
  · rw [h0]
    exact ⟨none, 0, rfl, by omega, Nat.le_refl _, by decide, hl, fun h => by omega⟩
  · refine ⟨_, cap, rfl, rfl, h1, h2, hl, fun _ => ⟨_, rfl, (Array.getElem?_eq_some_iff.1 hg).1, fun j s hj => ?_⟩⟩
    have e : (⟨g, 0, none⟩ : Addr).add j = ⟨g, j, none⟩ := by unfold Addr.add; split <;> simp_all
    rw [e]
    have : (D.map fun s => Value.string ⟨s.toArray⟩)[j]? = some (.string ⟨s.toArray⟩) := by simp [hj]
    rw [← h4, List.getElem?_take] at this
    split at this
    · simpa [World.cell?, hg] using this
    · cases this
theorem sums_len (l : List Str) (i j : Nat) : (sums l i j).length = (blocks i j).length := by simp [sums]
theorem sums_8 (l : List Str) (i j : Nat) : ∀ d ∈ sums l i j, d.length ≤ 8 := fun d hd => by
  obtain ⟨b, _, rfl⟩ := List.mem_map.1 hd
  exact Nat.le_of_eq (sumB_len _ _)
theorem stack_eq (l : List Str) (n : Nat) : pushesW [] (nodes (blocks 0 n) ((sums l 0 n).take (blocks 0 n).length)) = stack l n := by
  rw [List.take_of_length_le (Nat.le_of_eq (sums_len l 0 n))]
  exact pushesW_eq _ [] 0 n rfl (nodes_chained n n 0 _ (by omega) (by omega) (sums_len l 0 n))

set_option maxRecDepth 100000 in
set_option maxHeartbeats 1000000 in
/-- digest.Root -/
theorem root_k (A : Option Addr) (n c : Nat) (l : List Str) (hn : n ≤ 1000) (w : World) (hl : Strs w A n c l) :
    Calls Try.prog 22 #[.slice A n c] w fun e w' => e = .returned (.string ⟨(root l).toArray⟩) ∧ w.grownBy w' none := by
  have hlen := Lib.hid hl.len
  have hb0 := blocks_len' 0 n
  have Hl := Lib.hid hl
  clear hl
  go_enter Try.func22, Try.ntmps22
  go_wp2_with fail
  refine (sums_k A n c l (by omega) 0 n (Nat.le_refl _) w Hl.out).mono ?_
  rintro e w1 ⟨v, rfl, o1, g1⟩
  obtain ⟨DA, dc, rfl, hD⟩ := own_strs o1 (fun s hs => Nat.le_trans (sums_8 l 0 n s hs) (by decide))
  go_wp2_with fail
  refine (place_k w1.heap.size (.slice none 0 0) [] 0 0 DA _ dc (sums l 0 n) 0 n (by omega) w1 (World.ownsRow_nil _ _ _ _) (Nat.le_refl _) ⟨Nat.le_refl _, Nat.le_refl _, fun _ h => by cases h⟩ (fun W g => hD.kept g) (sums_8 l 0 n) (by rw [sums_len]; exact Nat.le_refl _) (by omega) (by omega) (by omega)).mono ?_
  rintro e w2 ⟨v2, rfl, o2, gd, g2, _⟩
  rw [stack_eq] at o2 gd
  have g2 : w1.grownBy w2 none := g2
  go_wp2_with fail
  refine (rootOf_k w1.heap.size n v2 (stack l n) w2 (by omega) o2 (fun x hx => (gd.all x hx).2.1) (by have := gd.len; omega)).mono ?_
  rintro e w3 ⟨rfl, g3⟩
  go_wp2_with fail
  go_ret
  exact ⟨by rw [hlen.out]; rfl, (g1.trans g2).trans g3⟩
end Go.Proofs.Ytljjmoeplfcblaa
