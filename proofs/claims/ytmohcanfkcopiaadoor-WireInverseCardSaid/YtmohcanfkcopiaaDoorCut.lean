/-
  The law's own cut, by its contract.
-/
import Derived.Test.YtmohcanfkcopiaaDoorList
import Derived.Deep.RegionHeld3
import Derived.Deep.AppendLies
namespace Go.Proofs.YtmohcanfkcopiaaDoor
open Go.RowKit
attribute [local go_sem] get_mk extract_mk

def cutL (l : List (List UInt8)) : List (List UInt8) := (l.take 20).map (·.take 100)
theorem take_min' (l : List UInt8) : l.take (min (l.length : Int) 100).toNat = l.take 100 := by
  by_cases h : l.length ≤ 100
  · rw [List.take_of_length_le (by omega), List.take_of_length_le (by omega)]
  · congr 1; omega
theorem str_info : (Tryd.prog.info? 9).map (fun i => (i.zero, i.size, i.bytes)) = some (some (.string ⟨#[]⟩), 1, 16) := by kernel_rfl

theorem cutL_snoc (l : List (List UInt8)) (k : Nat) (x : List UInt8) (h : l[k]? = some x) (hk : k < 20) : cutL (l.take (k + 1)) = cutL (l.take k) ++ [x.take 100] := by
  unfold cutL
  rw [List.take_take, List.take_take, Nat.min_eq_right (by omega), Nat.min_eq_right (by omega), take_one l k x h, List.map_append]
  rfl
theorem grown_of_drew {a c : World} {row : Option Nat} (h : a.drew.grownBy c row) : a.grownBy c row := ⟨h.os, h.tape, h.output, h.size, h.block⟩

def CRel (w : World) (l : List (List UInt8)) (i out : Value) (wr : World) : Prop :=
  ∃ k : Nat, k ≤ l.length ∧ k ≤ 20 ∧ i = .int .i64 k ∧ wr.ownsRow w.heap.size 9 1 out k ((cutL (l.take k)).map fun x => Value.string ⟨x.toArray⟩) ∧ w.grownBy wr none

theorem one_cell' {x : Value} (h : x.oneCell' = true) : ∀ u ∈ [x], u.oneCell' = true := by
  intro u hu
  rw [List.mem_singleton] at hu
  rw [hu]
  exact h
set_option maxRecDepth 100000 in
set_option maxHeartbeats 2000000 in
theorem cut_k (A : Option Addr) (c n : Nat) (l : List (List UInt8)) (w : World) (hn : n = l.length) (_hm : c ≤ maxLen) (_hc : n ≤ c) (hls : ∀ x ∈ l, x.length ≤ 9223372036854775807)
    (hA : 0 < n → ∃ ad, A = some ad ∧ ad.block < w.heap.size ∧ ∀ j x, l[j]? = some x → w.cell? (ad.add j) = some (.string ⟨x.toArray⟩)) :
    Calls Tryd.prog 11 #[.slice A n c] w fun e w' => ∃ v, e = .returned v ∧ w'.ownsRow w.heap.size 9 1 v (cutL l).length ((cutL l).map fun x => .string ⟨x.toArray⟩) ∧ w.grownBy w' none := by
  unfold maxLen at _hm
  obtain ⟨i0, hi0, hz0, hz1, hz2⟩ := info_parts str_info
  have hn' := Lib.hid hn
  have hle : n ≤ l.length := by omega
  have hge : l.length ≤ n := by omega
  clear hn
  go_enter Tryd.func11, Tryd.ntmps11
  go_wp2
  go_loopg [3, 4] 21 (fun g out i wr => (∃ k : Nat, i = .int .i64 k ∧ g = 21 - k) ∧ CRel w l i out wr)
  case atStart => exact ⟨⟨0, rfl, rfl⟩, 0, by omega, by omega, rfl, World.ownsRow_nil _ _ _ _, World.grownBy.refl _ _⟩
  case round =>
    obtain ⟨⟨k0, hk0, hgk⟩, k, hk, hk2, rfl, hown, hg⟩ := hrel
    obtain rfl : k0 = k := by injection hk0 with _ e; omega
    have Hgk := Lib.hid hgk
    clear hgk hk0
    by_cases hlt : k0 < n ∧ k0 < 20
    · obtain ⟨hlt1, hlt2⟩ := hlt
      obtain ⟨ad, rfl, hab, hcell⟩ := hA (by omega)
      obtain ⟨x, hx⟩ : ∃ x, l[k0]? = some x := ⟨_, List.getElem?_eq_getElem (by omega)⟩
      have hcx := ((below_of_grown hg).cell (p := ad.add k0) (by rw [add_block]; exact hab)).trans (hcell k0 x hx)
      have hxl := hls x (List.mem_of_getElem? hx)
      have Hx := Lib.hid hx
      clear hcell hx
      have hi1 : (k0 : Int) < (n : Int) := by omega
      have hi2 : (0 : Int) ≤ (k0 : Int) := by omega
      have hi3 : (k0 : Int) < 20 := by omega
      have hi4 : (0 : Int) ≤ min (x.length : Int) 100 := by omega
      have hi5 : min (x.length : Int) 100 ≤ (x.length : Int) := by omega
      have hne : some (ad.add k0).block ≠ u3.ownBlock := by
        intro e
        have := (hown.lt _ e.symm).1
        rw [add_block] at this
        omega
      have hsz : (ad.add k0).block < wr.heap.size := by rw [add_block]; have := hg.size; omega
      have Hne := Lib.hid hne
      clear hne
      go_wp2_with fail
      go_region_held3 (fun w' => w'.cell? (ad.add k0) = some (.string ⟨x.toArray⟩)) (first | go_keep | (rw [hgrow.cell_far _ (by simp; omega) Hne.out]; assumption))
        ((refine step_append_lies _ (by rfl) _ _ _ (by rfl) w.heap.size 9 i0 _ 1 16 Tryd.underlying23 hi0 hz0 hz1 hz2 rfl (by omega) _ k0 _ (by rfl) ((hown.alloc _).drew) ⟨wr.heap.size, 0, none⟩ 1 1 [.string ⟨(List.take (min (x.length : Int) 100).toNat x).toArray⟩] (by rfl) (by rfl) (World.news_of_block (cs := #[.string ⟨(List.take (min (x.length : Int) 100).toNat x).toArray⟩]) (t := 9) (fr := (0, 0)) (heap_alloc_new wr _)) (one_cell' rfl) (by omega) (by simp only [maxLen]; omega) (by omega) (by have := hg.size; simp; omega) (wr.heap.size + 1) (by simp) ?_; intro gg cap w1 hown1 hgrow hat hlt))
      go_wp2
      go_roundg (20 - k0)
      case measure => have := Hgk.out; omega
      case rel =>
        refine ⟨⟨k0 + 1, by go_num, by omega⟩, k0 + 1, by omega, by omega, by go_num, ?_, ((hg.trans (World.grownBy_alloc wr _ none)).andThen (grown_of_drew hgrow) (fun j hj => .inl (hown.lt j hj).1))⟩
        rw [take_min'] at hown1
        rw [cutL_snoc l k0 x Hx.out hlt2, List.map_append]
        exact hown1
    · have hend : cutL (l.take k0) = cutL l := by
        by_cases h20 : k0 = 20
        · subst h20; unfold cutL; rw [List.take_take]; simp
        · rw [List.take_of_length_le (by omega)]
      have hlen : k0 = (cutL l).length := by
        have h1 := hown.1
        rw [hend, List.length_map] at h1
        omega
      rw [hend] at hown
      have Hown := Lib.hid hown
      have Hlen := Lib.hid hlen
      clear hown hlen hend
      by_cases h1 : k0 < n
      · have h20 : ¬ k0 < 20 := fun h => hlt ⟨h1, h⟩
        have hd : decide ((k0 : Int) < 20) = false := by simp; omega
        clear hlt
        go_wp2_with fail
        go_ret
        refine ⟨_, rfl, ?_, hg⟩
        rw [← Hlen.out]
        exact Hown.out
      · have hd : decide ((k0 : Int) < (n : Int)) = false := by simp; omega
        clear hlt
        go_wp2_with fail
        go_ret
        refine ⟨_, rfl, ?_, hg⟩
        rw [← Hlen.out]
        exact Hown.out
end Go.Proofs.YtmohcanfkcopiaaDoor
