/-
  slices.Sort; course.Needs.
-/
import Derived.Test.YtnkemoicgadefaaGreatDoorFlw
import Derived.Test.YtnkemoicgadefaaGreatDoorShelf
import Derived.Shelf.Slices.In.SortNone
namespace Go.Proofs.YtnkemoicgadefaaGreatDoor
open Go.RowKit
open Go.Sort (putRow grow)
attribute [local go_sem] get_mk extract_mk
theorem grown_grow (w : World) (os : Array Obj) (row : Option Nat) : w.grownBy (grow w os) row :=
  ⟨rfl, rfl, rfl, by simp, fun i hi _ => Go.Sort.heap_grow_old w os hi⟩
theorem grown_put {w : World} {n g : Nat} {D : Array Str} : w.grownBy (putRow encStr (Go.Sort.ahead w n) g 0 D) (some g) :=
  ⟨rfl, rfl, rfl, by simp [Go.Sort.ahead], fun i hi hne => by
    have : g ≠ i := fun e => hne (by rw [e])
    simp [putRow, Go.Sort.mapBlock, Array.getElem?_modify, this, Go.Sort.ahead]⟩
set_option maxRecDepth 100000 in
theorem sort_k {w : World} {base : Nat} {v : Value} {D : List Str} (h : OwnS w base v D) (hl : ∀ x ∈ D, x.length ≤ 1152921504606846976) (hD : D.length ≤ 1000) :
    Calls Tryz.prog 52 #[v] w fun e w' => e = .returned (.tuple #[]) ∧ ∃ A c, v = .slice A D.length c ∧ Strs w' A D.length c (D.mergeSort fun x y => decide (x ≤ y)) ∧ w.grownBy w' v.ownBlock := by
  have hp := List.mergeSort_perm D (fun x y => decide (x ≤ y))
  rcases h.2 with ⟨rfl, h0⟩ | ⟨g, cap, cur, rfl, hb, hg, h1, h2, h3, h4⟩
  · have hd : D = [] := List.eq_nil_of_length_eq_zero h0
    subst hd
    refine (Any.slices_Sort_string_none Tryz.lays190 none 0 w).mono ?_
    rintro e w' ⟨rfl, rfl⟩
    exact ⟨rfl, none, 0, rfl, by simpa using Strs.nil_ w', World.grownBy.refl _ _⟩
  · have hcell : ∀ j, (hj : j < D.length) → w.cell? ⟨g, j, none⟩ = some (.string ⟨(D[j]).toArray⟩) := fun j hj => by
      have : (D.map fun s => Value.string ⟨s.toArray⟩)[j]? = some (.string ⟨(D[j]).toArray⟩) := by simp [hj]
      rw [← h4, List.getElem?_take] at this
      split at this
      · simpa [World.cell?, hg] using this
      · cases this
    have hH : Go.Sort.Holds encStr w g 0 D.toArray := fun j hj => by
      have hj2 : j < D.length := by simpa using hj
      rw [Nat.zero_add]
      refine ⟨?_, by simp [World.frozen?, hg]⟩
      rw [hcell j hj2, getElem!_pos _ j hj]
      simp [encStr]
    refine (Tryz.slices_Sort_string g 0 cap D w hH (Array.getElem?_eq_some_iff.1 hg).1 (by omega)).mono ?_
    rintro e w' ⟨rfl, n, os, rfl⟩
    have hlen := hp.length_eq
    have hgr : w.grownBy (grow (putRow encStr (Go.Sort.ahead w n) g 0 (D.mergeSort fun x y => decide (x ≤ y)).toArray) os) (some g) := grown_put.trans (grown_grow _ os _)
    refine ⟨rfl, _, cap, rfl, ⟨⟨by simp [hlen], h1, by unfold maxLen at h2; omega, (fun h => by cases h), fun u hu => ?_, fun _ => ⟨_, rfl, ?_, fun j u hj => ?_⟩⟩, fun x hx => hl x (hp.mem_iff.1 hx)⟩, hgr⟩
    · obtain ⟨x, _, rfl⟩ := List.mem_map.1 hu; rfl
    · exact Nat.lt_of_lt_of_le (Array.getElem?_eq_some_iff.1 hg).1 hgr.size
    · rw [List.getElem?_map] at hj
      obtain ⟨x, hx, rfl⟩ := Option.map_eq_some_iff.1 hj
      have hj2 := (List.getElem?_eq_some_iff.1 hx).1
      have hs : (D.mergeSort fun x y => decide (x ≤ y)).toArray.size = D.toArray.size := by simp [hlen]
      have hH2 : Go.Sort.Holds encStr (Go.Sort.ahead w n) g 0 D.toArray := hH
      have hc := Go.Sort.cell?_putRow encStr (Go.Sort.ahead w n) g 0 D.toArray _ hH2 hs j (by simpa using hj2)
      rw [Nat.zero_add, getElem!_pos _ j (by simpa using hj2)] at hc
      have hx2 : (D.mergeSort fun x y => decide (x ≤ y)).toArray[j]'(by simpa using hj2) = x := by
        have := (List.getElem?_eq_some_iff.1 hx).2
        simpa using this
      rw [hx2] at hc
      rw [add_zero]
      exact gcell (grown_grow _ os none) hc
theorem own_off {w : World} {base e sz n x : Nat} {v : Value} {D : List Value} (h : w.ownsRow base e sz v n D) (hm : MapAt w x) : some x ≠ v.ownBlock := by
  rcases h.2 with ⟨rfl, _⟩ | ⟨g, cap, cur, rfl, hb, hg, _⟩
  · simp [Value.ownBlock]
  · intro e
    have e : some x = some g := e
    injection e with e
    subst e
    obtain ⟨o, ho, hc⟩ := hm
    rw [hg] at ho
    injection ho with ho
    subst ho
    cases hc
theorem new_vals (W : World) (t : TypeId) (vs : List Value) (n : Nat) (hn : n = vs.length) (h9 : n ≤ 1000) (h1 : ∀ v ∈ vs, v.oneCell' = true) : Vals (W.alloc (.cells vs.toArray t)) (some ⟨W.heap.size, 0, none⟩) n n 1 vs :=
  ⟨by omega, Nat.le_refl _, by omega, (fun h => by cases h), h1, fun _ => ⟨_, rfl, by simp, fun j v hj => by rw [add_zero, cell_at rfl]; simpa using hj⟩⟩
end Go.Proofs.YtnkemoicgadefaaGreatDoor
