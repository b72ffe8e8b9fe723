/-
  The reference's Ints and Texts, by their contracts.
-/
import Derived.Test.YtmohcanfkcopiaaDoorRef
namespace Go.Proofs.YtmohcanfkcopiaaDoor
open Go.RowKit
attribute [local go_sem] get_mk extract_mk

def RILoop (w : World) (l : List Int) (s i : Value) (wr : World) : Prop :=
  ∃ k : Nat, k ≤ l.length ∧ i = .int .i64 k ∧ s = .string ⟨(91 :: (l.take k).flatMap serI).toArray⟩ ∧ w.grownBy wr none

set_option maxRecDepth 100000 in
set_option maxHeartbeats 1000000 in
theorem rInts (A : Option Addr) (c n : Nat) (l : List Int) (w : World) (hn : n = l.length) (hi : ∀ x ∈ l, I64 x) (hs : (l.flatMap serI).length < 1000000) (hm : n ≤ 1000000)
    (hA : 0 < n → ∃ ad, A = some ad ∧ ad.block < w.heap.size ∧ ∀ j x, l[j]? = some x → w.cell? (ad.add j) = some (.int .i64 x)) :
    Calls Tryd.prog 17 #[.slice A n c] w fun e w' => e = .returned (.string ⟨(serL serI l).toArray⟩) ∧ w.grownBy w' none := by
  have hn' := Lib.hid hn
  have hle : n ≤ l.length := by omega
  have hge : l.length ≤ n := by omega
  clear hn
  go_enter Tryd.func17, Tryd.ntmps17
  go_wp2_with fail
  go_loopg [3, 4] (n + 1) (fun g s i wr => (∃ k : Nat, i = .int .i64 k ∧ g = n + 1 - k) ∧ RILoop w l s i wr)
  case atStart => exact ⟨⟨0, rfl, rfl⟩, 0, by omega, rfl, rfl, World.grownBy.refl _ _⟩
  case round =>
    obtain ⟨⟨k0, hk0, hgk⟩, k, hk, rfl, rfl, hg⟩ := hrel
    obtain rfl : k0 = k := by injection hk0 with _ e; omega
    have Hgk := Lib.hid hgk
    clear hgk hk0
    have hfl := flat_take_le serI l k0
    obtain ⟨p, hp⟩ : ∃ p, (l.take k0).flatMap serI = p := ⟨_, rfl⟩
    rw [hp] at hfl ⊢
    have Hp := Lib.hid hp
    clear hp
    by_cases hlt : k0 < n
    · obtain ⟨ad, rfl, hab, hcell⟩ := hA (by omega)
      obtain ⟨x, hx⟩ : ∃ x, l[k0]? = some x := ⟨_, List.getElem?_eq_getElem (by omega)⟩
      have hcx := ((below_of_grown hg).cell (p := ad.add k0) (by rw [add_block]; exact hab)).trans (hcell k0 x hx)
      have hix := hi x (List.mem_of_getElem? hx)
      have hxm := List.mem_of_getElem? hx
      have hx' := Lib.hid hx
      have hsl : (serI x).length ≤ (l.flatMap serI).length := by
        have h1 := take_one l k0 x hx
        have h2 := flat_take_le serI l (k0 + 1)
        rw [h1, List.flatMap_append, List.length_append] at h2
        simp only [List.flatMap_cons, List.flatMap_nil, List.append_nil] at h2
        omega
      clear hcell hx
      have hi1 : (k0 : Int) < (n : Int) := by omega
      have hno : ¬ 9223372036854775807 < p.length + 1 + (serI x).length := by omega
      clear hA hs hfl hi hxm
      have H := Lib.hid (rInt x hix wr)
      clear hix
      go_wp2_with (go_at_call 13; refine H.out.mono ?_; rintro e w1 ⟨rfl, hg1⟩)
      go_roundg (n - k0)
      case measure => have := Hgk.out; omega
      case rel =>
        refine ⟨⟨k0 + 1, by go_num, by omega⟩, k0 + 1, by omega, by go_num, ?_, hg.trans hg1⟩
        rw [take_one l k0 x hx'.out, List.flatMap_append, Hp.out, str_app]
        simp
    · have he : p = l.flatMap serI := by
        have := Hp.out
        rw [List.take_of_length_le (by omega)] at this
        exact this.symm
      have He := Lib.hid he
      clear he hA hi Hp
      have hno : ¬ 9223372036854775807 < p.length + 1 + 1 := by omega
      go_wp2_with fail
      go_ret
      exact ⟨ret_str (by rw [He.out, show ByteArray.mk #[93] = ⟨[93].toArray⟩ from rfl, str_app]; rfl), hg⟩

def RTLoop (w : World) (l : List (List UInt8)) (s i : Value) (wr : World) : Prop :=
  ∃ k : Nat, k ≤ l.length ∧ i = .int .i64 k ∧ s = .string ⟨(91 :: (l.take k).flatMap serT).toArray⟩ ∧ w.grownBy wr none

set_option maxRecDepth 100000 in
set_option maxHeartbeats 1000000 in
theorem rTexts (A : Option Addr) (c n : Nat) (l : List (List UInt8)) (w : World) (hn : n = l.length) (hi : ∀ x ∈ l, x.length ≤ 1000000) (hs : (l.flatMap serT).length < 1000000) (hm : n ≤ 1000000)
    (hA : 0 < n → ∃ ad, A = some ad ∧ ad.block < w.heap.size ∧ ∀ j x, l[j]? = some x → w.cell? (ad.add j) = some (.string ⟨x.toArray⟩)) :
    Calls Tryd.prog 19 #[.slice A n c] w fun e w' => e = .returned (.string ⟨(serL serT l).toArray⟩) ∧ w.grownBy w' none := by
  have hn' := Lib.hid hn
  have hle : n ≤ l.length := by omega
  have hge : l.length ≤ n := by omega
  clear hn
  go_enter Tryd.func19, Tryd.ntmps19
  go_wp2_with fail
  go_loopg [3, 4] (n + 1) (fun g s i wr => (∃ k : Nat, i = .int .i64 k ∧ g = n + 1 - k) ∧ RTLoop w l s i wr)
  case atStart => exact ⟨⟨0, rfl, rfl⟩, 0, by omega, rfl, rfl, World.grownBy.refl _ _⟩
  case round =>
    obtain ⟨⟨k0, hk0, hgk⟩, k, hk, rfl, rfl, hg⟩ := hrel
    obtain rfl : k0 = k := by injection hk0 with _ e; omega
    have Hgk := Lib.hid hgk
    clear hgk hk0
    have hfl := flat_take_le serT l k0
    obtain ⟨p, hp⟩ : ∃ p, (l.take k0).flatMap serT = p := ⟨_, rfl⟩
    rw [hp] at hfl ⊢
    have Hp := Lib.hid hp
    clear hp
    by_cases hlt : k0 < n
    · obtain ⟨ad, rfl, hab, hcell⟩ := hA (by omega)
      obtain ⟨x, hx⟩ : ∃ x, l[k0]? = some x := ⟨_, List.getElem?_eq_getElem (by omega)⟩
      have hcx := ((below_of_grown hg).cell (p := ad.add k0) (by rw [add_block]; exact hab)).trans (hcell k0 x hx)
      have hix := hi x (List.mem_of_getElem? hx)
      have hxm := List.mem_of_getElem? hx
      have hx' := Lib.hid hx
      have hsl : (serT x).length ≤ (l.flatMap serT).length := by
        have h1 := take_one l k0 x hx
        have h2 := flat_take_le serT l (k0 + 1)
        rw [h1, List.flatMap_append, List.length_append] at h2
        simp only [List.flatMap_cons, List.flatMap_nil, List.append_nil] at h2
        omega
      clear hcell hx
      have hi1 : (k0 : Int) < (n : Int) := by omega
      have hno : ¬ 9223372036854775807 < p.length + 1 + (serT x).length := by omega
      clear hA hs hfl hi hxm
      have H := Lib.hid (rText x (Nat.le_trans hix (by decide)) wr)
      clear hix
      go_wp2_with (go_at_call 15; refine H.out.mono ?_; rintro e w1 ⟨rfl, hg1⟩)
      go_roundg (n - k0)
      case measure => have := Hgk.out; omega
      case rel =>
        refine ⟨⟨k0 + 1, by go_num, by omega⟩, k0 + 1, by omega, by go_num, ?_, hg.trans hg1⟩
        rw [take_one l k0 x hx'.out, List.flatMap_append, Hp.out, str_app]
        simp
    · have he : p = l.flatMap serT := by
        have := Hp.out
        rw [List.take_of_length_le (by omega)] at this
        exact this.symm
      have He := Lib.hid he
      clear he hA hi Hp
      have hno : ¬ 9223372036854775807 < p.length + 1 + 1 := by omega
      go_wp2_with fail
      go_ret
      exact ⟨ret_str (by rw [He.out, show ByteArray.mk #[93] = ⟨[93].toArray⟩ from rfl, str_app]; rfl), hg⟩
end Go.Proofs.YtmohcanfkcopiaaDoor
