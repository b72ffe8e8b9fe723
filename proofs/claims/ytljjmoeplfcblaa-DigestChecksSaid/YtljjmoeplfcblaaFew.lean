/-
  The laws' few, by its contract.
-/
import Derived.Test.YtljjmoeplfcblaaSane
import Derived.Deep.AppendLies
import Derived.Deep.RegionHeld3
namespace Go.Proofs.Ytljjmoeplfcblaa
open Go.RowKit
attribute [local go_sem] get_mk extract_mk

def fewL (l : List (List UInt8)) : List (List UInt8) := (l.take 20).map (·.take 12)
theorem fewL_snoc (l : List (List UInt8)) (k : Nat) (x : List UInt8) (h : l[k]? = some x) (hk : k < 20) : fewL (l.take (k + 1)) = fewL (l.take k) ++ [x.take 12] := by
  unfold fewL
  rw [List.take_take, List.take_take, Nat.min_eq_right (by omega), Nat.min_eq_right (by omega), take_one l k x h, List.map_append]
  rfl
theorem grown_of_drew {a c : World} {row : Option Nat} (h : a.drew.grownBy c row) : a.grownBy c row := ⟨h.os, h.tape, h.output, h.size, h.block⟩

def CRel (w : World) (l : List (List UInt8)) (i out : Value) (wr : World) : Prop :=
  ∃ k : Nat, k ≤ l.length ∧ k ≤ 20 ∧ i = .int .i64 k ∧ wr.ownsRow w.heap.size 9 1 out k ((fewL (l.take k)).map fun x => Value.string ⟨x.toArray⟩) ∧ w.grownBy wr none

theorem one_cell' {x : Value} (h : x.oneCell' = true) : ∀ u ∈ [x], u.oneCell' = true := by
  intro u hu
  rw [List.mem_singleton] at hu
  rw [hu]
  exact h
set_option maxRecDepth 100000 in
set_option maxHeartbeats 2000000 in
theorem few_k (A : Option Addr) (c n : Nat) (l : List (List UInt8)) (w : World) (hn : n = l.length) (_hm : c ≤ maxLen) (_hc : n ≤ c) (hls : ∀ x ∈ l, x.length ≤ 9223372036854775807)
    (hA : 0 < n → ∃ ad, A = some ad ∧ ad.block < w.heap.size ∧ ∀ j x, l[j]? = some x → w.cell? (ad.add j) = some (.string ⟨x.toArray⟩)) :
    Calls Try.prog 20 #[.slice A n c] w fun e w' => ∃ v, e = .returned v ∧ w'.ownsRow w.heap.size 9 1 v (fewL l).length ((fewL l).map fun x => .string ⟨x.toArray⟩) ∧ w.grownBy w' none := by
  unfold maxLen at _hm
  obtain ⟨i0, hi0, hz0, hz1, hz2⟩ := info_parts info9
  have hn' := Lib.hid hn
  have hle : n ≤ l.length := by omega
  have hge : l.length ≤ n := by omega
  clear hn
  go_enter Try.func20, Try.ntmps20
  go_wp2
  go_loopg [3, 4] 21 (fun g out i wr => (∃ k : Nat, i = .int .i64 k ∧ g = 21 - k) ∧ CRel w l i out wr)
  case atStart => exact ⟨⟨0, rfl, rfl⟩, 0, by omega, by omega, rfl, World.ownsRow_nil _ _ _ _, World.grownBy.refl _ _⟩
  case round =>
    obtain ⟨⟨k0, hk0, hgk⟩, k, hk, hk2, rfl, hown, hg⟩ := hrel
    obtain rfl : k0 = k := by injection hk0 with _ e; omega
    have Hgk := Lib.hid hgk
    clear hgk hk0
    by_cases hlt : k0 < n ∧ k0 < 20
    · obtain ⟨hlt1, hlt2⟩ := hlt
      obtain ⟨ad, rfl, hab, hcell⟩ := hA (by omega)
      obtain ⟨x, hx⟩ : ∃ x, l[k0]? = some x := ⟨_, List.getElem?_eq_getElem (by omega)⟩
      have hcx := ((below_of_grown hg).cell (p := ad.add k0) (by rw [add_block]; exact hab)).trans (hcell k0 x hx)
      have hxl := hls x (List.mem_of_getElem? hx)
      have Hx := Lib.hid hx
      clear hcell hx
      have hi1 : (k0 : Int) < (n : Int) := by omega
      have hi2 : (0 : Int) ≤ (k0 : Int) := by omega
      have hi3 : (k0 : Int) < 20 := by omega
      have hxl' : (x.length : Int) ≤ 9223372036854775807 := by omega
      have hne : some (ad.add k0).block ≠ u3.ownBlock := by
        intro e
        have := (hown.lt _ e.symm).1
        rw [add_block] at this
        omega
      have hsz : (ad.add k0).block < wr.heap.size := by rw [add_block]; have := hg.size; omega
      have Hne := Lib.hid hne
      clear hne
      by_cases h13 : (12 : Int) < (x.length : Int)
      · have h14 : (12 : Int) ≤ (x.length : Int) := by omega
        have h15 : 12 ≤ x.length := by omega
        have hm2 : (if (12 : Int) < (x.length : Int) then (12 : Int) else (x.length : Int)) = 12 := if_pos h13
        go_wp2_with fail
        go_region_held3 (fun w' => w'.cell? (ad.add k0) = some (.string ⟨x.toArray⟩)) (first | go_keep | (rw [hgrow.cell_far _ (by simp; omega) Hne.out]; assumption))
          ((refine step_append_lies _ (by rfl) _ _ _ (by rfl) w.heap.size 9 i0 _ 1 16 Try.underlying29 hi0 hz0 hz1 hz2 rfl (by omega) _ k0 _ (by rfl) ((hown.alloc _).drew) ⟨wr.heap.size, 0, none⟩ 1 1 [.string ⟨(List.take 12 x).toArray⟩] (by rfl) (by rfl) (World.news_of_block (cs := #[.string ⟨(List.take 12 x).toArray⟩]) (t := 9) (fr := (0, 0)) (heap_alloc_new wr _)) (one_cell' rfl) (by omega) (by simp only [maxLen]; omega) (by omega) (by have := hg.size; simp; omega) (wr.heap.size + 1) (by simp) ?_; intro gg cap w1 hown1 hgrow hat hlt))
        go_wp2
        go_roundg (20 - k0)
        case measure => have := Hgk.out; omega
        case rel =>
          refine ⟨⟨k0 + 1, by go_num, by omega⟩, k0 + 1, by omega, by omega, by go_num, ?_, ((hg.trans (World.grownBy_alloc wr _ none)).andThen (grown_of_drew hgrow) (fun j hj => .inl (hown.lt j hj).1))⟩
          rw [fewL_snoc l k0 x Hx.out hlt2, List.map_append]
          exact hown1
      · have h14 : (x.length : Int) ≤ 12 := by omega
        have h15 : (0 : Int) ≤ (x.length : Int) := by omega
        have hm2 : (if (12 : Int) < (x.length : Int) then (12 : Int) else (x.length : Int)) = x.length := if_neg h13
        go_wp2_with fail
        go_region_held3 (fun w' => w'.cell? (ad.add k0) = some (.string ⟨x.toArray⟩)) (first | go_keep | (rw [hgrow.cell_far _ (by simp; omega) Hne.out]; assumption))
          ((refine step_append_lies _ (by rfl) _ _ _ (by rfl) w.heap.size 9 i0 _ 1 16 Try.underlying29 hi0 hz0 hz1 hz2 rfl (by omega) _ k0 _ (by rfl) ((hown.alloc _).drew) ⟨wr.heap.size, 0, none⟩ 1 1 [.string ⟨x.toArray⟩] (by rfl) (by rfl) (World.news_of_block (cs := #[.string ⟨x.toArray⟩]) (t := 9) (fr := (0, 0)) (heap_alloc_new wr _)) (one_cell' rfl) (by omega) (by simp only [maxLen]; omega) (by omega) (by have := hg.size; simp; omega) (wr.heap.size + 1) (by simp) ?_; intro gg cap w1 hown1 hgrow hat hlt))
        go_wp2
        go_roundg (20 - k0)
        case measure => have := Hgk.out; omega
        case rel =>
          refine ⟨⟨k0 + 1, by go_num, by omega⟩, k0 + 1, by omega, by omega, by go_num, ?_, ((hg.trans (World.grownBy_alloc wr _ none)).andThen (grown_of_drew hgrow) (fun j hj => .inl (hown.lt j hj).1))⟩
          have e12 : Value.string ⟨x.toArray⟩ = Value.string ⟨(x.take 12).toArray⟩ := by rw [List.take_of_length_le (by omega)]
          rw [e12] at hown1
          rw [fewL_snoc l k0 x Hx.out hlt2, List.map_append]
          exact hown1
    · have hend : fewL (l.take k0) = fewL l := by
        by_cases h20 : k0 = 20
        · subst h20; unfold fewL; rw [List.take_take]; simp
        · rw [List.take_of_length_le (by omega)]
      have hlen : k0 = (fewL l).length := by
        have h1 := hown.1
        rw [hend, List.length_map] at h1
        omega
      rw [hend] at hown
      have Hown := Lib.hid hown
      have Hlen := Lib.hid hlen
      clear hown hlen hend
      by_cases h1 : k0 < n
      · have h20 : ¬ k0 < 20 := fun h => hlt ⟨h1, h⟩
        have hd : decide ((k0 : Int) < 20) = false := by simp; omega
        clear hlt
        go_wp2_with fail
        go_ret
        refine ⟨_, rfl, ?_, hg⟩
        rw [← Hlen.out]
        exact Hown.out
      · have hd : decide ((k0 : Int) < (n : Int)) = false := by simp; omega
        clear hlt
        go_wp2_with fail
        go_ret
        refine ⟨_, rfl, ?_, hg⟩
        rw [← Hlen.out]
        exact Hown.out
end Go.Proofs.Ytljjmoeplfcblaa
