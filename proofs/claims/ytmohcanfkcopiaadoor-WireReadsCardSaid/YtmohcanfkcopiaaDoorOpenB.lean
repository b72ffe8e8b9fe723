/-
  What a law's argument of bytes reads as.
-/
import Derived.Test.YtmohcanfkcopiaaDoorOpen
namespace Go.Proofs.YtmohcanfkcopiaaDoor
open Go.ChangeShapes Go.WideShapes Go.RowKit Go.Deep
section
variable {H : Type} {enc : TypeId × Value → H} {w : World} {base : Nat} {sp : Nat → Bool} {held : Bool}

theorem elem_u8 : ∀ n cs x, DataW.trod enc Tryd.prog w base sp held n 5 cs = some x → ∃ z : Nat, cs = [.int .u8 (z : Int)] ∧ z ≤ 255 := by
  intro n cs x h
  obtain ⟨z, rfl, _, hw⟩ := DataW.trod_int Tryd.underlying5 h
  have h1 : 0 ≤ z ∧ z ≤ 255 := (Lit.wf_int_iff _ _).1 hw
  obtain ⟨m, rfl⟩ := Int.eq_ofNat_of_zero_le h1.1
  exact ⟨m, rfl, by omega⟩
set_option maxRecDepth 100000 in
theorem open_bytes {r : Reach} {b0 : Nat} {v : Value} {d : DataW H} {ps : List MemPlace} (hv : Value.okWide Tryd.prog w r b0 31 v) (h : DataW.Trod enc Tryd.prog w base sp held 31 v d ps) :
    ∃ (A : Option Addr) (n c : Nat) (l : List Nat), v = .slice A n c ∧ n = l.length ∧ n ≤ c ∧ c ≤ maxLen ∧ (∀ z ∈ l, z ≤ 255) ∧ (0 < n → ∃ ad, A = some ad ∧ ad.block < w.heap.size ∧ ∀ (j z : Nat), l[j]? = some z → w.cell? (ad.add j) = some (.int .u8 (z : Int))) := by
  obtain ⟨a, len, cap, rfl⟩ := okWide_slice Tryd.underlying31 hv
  obtain ⟨fuel, hf⟩ := h
  obtain ⟨A, n, c, l, e, h1⟩ := open_list (f := fun z : Nat => Value.int .u8 (z : Int)) Tryd.underlying31 cells5 elem_u8 hf
  injection e with e _
  exact ⟨A, n, c, l, e, h1⟩
end
end Go.Proofs.YtmohcanfkcopiaaDoor
