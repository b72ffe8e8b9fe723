/-
  The reference's SameInts and SameTexts, by their contracts.
-/
import Derived.Test.YtmohcanfkcopiaaDoorList
import Derived.Deep.QuietTactic
import Derived.BigQuiet
namespace Go.Proofs.YtmohcanfkcopiaaDoor
open Go.RowKit
attribute [local go_sem] get_mk extract_mk

set_option maxRecDepth 100000 in
set_option maxHeartbeats 1000000 in
theorem isame_k (A B : Option Addr) (c d n m : Nat) (l r : List Int) (w : World) (hn : n = l.length) (hm : m = r.length) (hn0 : n ≤ 9223372036854775807) (hm0 : m ≤ 9223372036854775807)
    (hA : 0 < n → ∃ ad, A = some ad ∧ ∀ j x, l[j]? = some x → w.cell? (ad.add j) = some (.int .i64 x))
    (hB : 0 < m → ∃ ad, B = some ad ∧ ∀ j x, r[j]? = some x → w.cell? (ad.add j) = some (.int .i64 x)) :
    Calls Tryd.prog 26 #[.slice A n c, .slice B m d] w fun e w' => e = .returned (.bool (decide (l = r))) ∧ w.grownBy w' none := by
  by_cases hnm : n = m
  · have hb1 : ((n : Int) != (m : Int)) = false := by simp [hnm]
    have Hn := Lib.hid hn
    have Hm := Lib.hid hm
    have Hnm := Lib.hid hnm
    have hl1 : n ≤ l.length := by omega
    have hl2 : n ≤ r.length := by omega
    have hl3 : l.length ≤ n := by omega
    have hl4 : r.length ≤ n := by omega
    have hnm1 : n ≤ m := by omega
    clear hn hm hnm
    go_enter Tryd.func26, Tryd.ntmps26
    go_wp2
    go_loopw [5] (fun i wr => ∃ k : Nat, k ≤ n ∧ i = .int .i64 k ∧ l.take k = r.take k ∧ ∃ q, wr = w.drewN q) (fun i _ => n - (intOf i).toNat)
    case atStart => exact ⟨0, by omega, rfl, rfl, 0, rfl⟩
    case round =>
      obtain ⟨k, hk, rfl, htk, q, rfl⟩ := hrel
      have Htk := Lib.hid htk
      clear htk
      by_cases hlt : k < n
      · obtain ⟨a, rfl, hca⟩ := hA (by omega)
        obtain ⟨b, rfl, hcb⟩ := hB (by omega)
        obtain ⟨x, hx⟩ : ∃ x, l[k]? = some x := ⟨_, List.getElem?_eq_getElem (by omega)⟩
        obtain ⟨y, hy⟩ : ∃ y, r[k]? = some y := ⟨_, List.getElem?_eq_getElem (by omega)⟩
        have ca := hca k x hx
        have cb := hcb k y hy
        have Hx := Lib.hid hx
        have Hy := Lib.hid hy
        have hkm : k < m := by omega
        clear hca hcb hx hy
        by_cases hxy : x = y
        · have hxb : (x != y) = false := by simp [hxy]
          have Hxy := Lib.hid hxy
          clear hxy
          go_wp2
          go_quiet (fail)
          go_wp2
          exact ⟨⟨k + 1, by omega, by go_num, by rw [take_one l k x Hx.out, take_one r k y Hy.out, Htk.out, Hxy.out], _, rfl⟩, by simp [intOf]; omega⟩
        · have hxb : (x != y) = true := by simp [hxy]
          have Hxy := Lib.hid hxy
          clear hxy
          go_wp2
          go_quiet (fail)
          go_wp2
          go_ret
          refine ⟨?_, (grown_drewN w q _).trans (grown_drewN _ nq _)⟩
          have he : decide (l = r) = false := by
            rw [decide_eq_false_iff_not]
            rintro rfl
            have h1 := Hx.out
            rw [Hy.out] at h1
            injection h1 with h1
            exact Hxy.out h1.symm
          rw [he]
          rfl
      · go_wp2
        go_ret
        refine ⟨?_, grown_drewN w q _⟩
        have he : decide (l = r) = true := by
          have h1 := Htk.out
          rw [List.take_of_length_le (by omega), List.take_of_length_le (by omega)] at h1
          rw [h1]
          simp
        rw [he]
        rfl
  · have hb1 : ((n : Int) != (m : Int)) = true := by rw [bne_iff_ne]; omega
    have he : decide (l = r) = false := by
      rw [decide_eq_false_iff_not]
      rintro rfl
      omega
    rw [he]
    clear he hA hB hn hm hnm
    go_enter Tryd.func26, Tryd.ntmps26
    go_wp2
    go_ret
    exact ⟨rfl, World.grownBy.refl _ _⟩
set_option maxRecDepth 100000 in
set_option maxHeartbeats 1000000 in
theorem tsame_k (A B : Option Addr) (c d n m : Nat) (l r : List (List UInt8)) (w : World) (hn : n = l.length) (hm : m = r.length) (hn0 : n ≤ 9223372036854775807) (hm0 : m ≤ 9223372036854775807)
    (hA : 0 < n → ∃ ad, A = some ad ∧ ∀ j x, l[j]? = some x → w.cell? (ad.add j) = some (.string ⟨x.toArray⟩))
    (hB : 0 < m → ∃ ad, B = some ad ∧ ∀ j x, r[j]? = some x → w.cell? (ad.add j) = some (.string ⟨x.toArray⟩)) :
    Calls Tryd.prog 29 #[.slice A n c, .slice B m d] w fun e w' => e = .returned (.bool (decide (l = r))) ∧ w.grownBy w' none := by
  by_cases hnm : n = m
  · have hb1 : ((n : Int) != (m : Int)) = false := by simp [hnm]
    have Hn := Lib.hid hn
    have Hm := Lib.hid hm
    have Hnm := Lib.hid hnm
    have hl1 : n ≤ l.length := by omega
    have hl2 : n ≤ r.length := by omega
    have hl3 : l.length ≤ n := by omega
    have hl4 : r.length ≤ n := by omega
    have hnm1 : n ≤ m := by omega
    clear hn hm hnm
    go_enter Tryd.func29, Tryd.ntmps29
    go_wp2
    go_loopw [5] (fun i wr => ∃ k : Nat, k ≤ n ∧ i = .int .i64 k ∧ l.take k = r.take k ∧ ∃ q, wr = w.drewN q) (fun i _ => n - (intOf i).toNat)
    case atStart => exact ⟨0, by omega, rfl, rfl, 0, rfl⟩
    case round =>
      obtain ⟨k, hk, rfl, htk, q, rfl⟩ := hrel
      have Htk := Lib.hid htk
      clear htk
      by_cases hlt : k < n
      · obtain ⟨a, rfl, hca⟩ := hA (by omega)
        obtain ⟨b, rfl, hcb⟩ := hB (by omega)
        obtain ⟨x, hx⟩ : ∃ x, l[k]? = some x := ⟨_, List.getElem?_eq_getElem (by omega)⟩
        obtain ⟨y, hy⟩ : ∃ y, r[k]? = some y := ⟨_, List.getElem?_eq_getElem (by omega)⟩
        have ca := hca k x hx
        have cb := hcb k y hy
        have Hx := Lib.hid hx
        have Hy := Lib.hid hy
        have hkm : k < m := by omega
        clear hca hcb hx hy
        by_cases hxy : x = y
        · have hxb : (x == y) = true := by simp [hxy]
          have Hxy := Lib.hid hxy
          clear hxy
          go_wp2
          go_quiet (fail)
          go_wp2
          exact ⟨⟨k + 1, by omega, by go_num, by rw [take_one l k x Hx.out, take_one r k y Hy.out, Htk.out, Hxy.out], _, rfl⟩, by simp [intOf]; omega⟩
        · have hxb : (x == y) = false := by simp [hxy]
          have Hxy := Lib.hid hxy
          clear hxy
          go_wp2
          go_quiet (fail)
          go_wp2
          go_ret
          refine ⟨?_, (grown_drewN w q _).trans (grown_drewN _ nq _)⟩
          have he : decide (l = r) = false := by
            rw [decide_eq_false_iff_not]
            rintro rfl
            have h1 := Hx.out
            rw [Hy.out] at h1
            injection h1 with h1
            exact Hxy.out h1.symm
          rw [he]
          rfl
      · go_wp2
        go_ret
        refine ⟨?_, grown_drewN w q _⟩
        have he : decide (l = r) = true := by
          have h1 := Htk.out
          rw [List.take_of_length_le (by omega), List.take_of_length_le (by omega)] at h1
          rw [h1]
          simp
        rw [he]
        rfl
  · have hb1 : ((n : Int) != (m : Int)) = true := by rw [bne_iff_ne]; omega
    have he : decide (l = r) = false := by
      rw [decide_eq_false_iff_not]
      rintro rfl
      omega
    rw [he]
    clear he hA hB hn hm hnm
    go_enter Tryd.func29, Tryd.ntmps29
    go_wp2
    go_ret
    exact ⟨rfl, World.grownBy.refl _ _⟩
end Go.Proofs.YtmohcanfkcopiaaDoor
