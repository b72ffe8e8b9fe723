/-
  The law's catalogs are small.
-/
import Derived.Test.YtnkemoicgadefaaGreatDoorCdm
import Derived.Test.YtnkemoicgadefaaGreatDoorCut
import Derived.Test.YtnkemoicgadefaaGreatDoorMmd
import Derived.Test.YtnkemoicgadefaaGreatDoorOdw
namespace Go.Proofs.YtnkemoicgadefaaGreatDoor
open Go.RowKit
theorem offs_mem {w : World} {A : Option Addr} {n c : Nat} {vs : List V} {l : List O} (h : Offs w A n c vs l) {o : O} (ho : o ∈ l) : ∃ v, VIs w v o := by
  obtain ⟨j, hj⟩ := List.getElem?_of_mem ho
  have h1 := (List.getElem?_eq_some_iff.1 hj).1
  exact ⟨_, h.is j _ o (List.getElem?_eq_getElem (by rw [h.vlen]; exact h1)) hj⟩
theorem tiny_cut {w : World} {A : Option Addr} {n c : Nat} {vs : List V} {l : List O} (h : Offs w A n c vs (cutV l)) : Tiny (cutV l) := by
  refine ⟨cut_len l, fun o ho => ?_⟩
  obtain ⟨v, hv⟩ := offs_mem h ho
  obtain ⟨x, _, rfl⟩ := List.mem_map.1 ho
  refine ⟨?_, hv.ok.2.1, hv.ok.2.2, ⟨?_, hv.slots.ok⟩, txt_len x.needs, fun y hy => ?_⟩
  · unfold cutO
    simp only [List.length_take]
    omega
  · unfold cutO
    simp only [List.length_take]
    omega
  · obtain ⟨z, _, rfl⟩ := List.mem_map.1 hy
    simp only [List.length_take]
    omega
theorem tiny_made {w : World} {A : Option Addr} {n c : Nat} {vs : List V} {l : List O} (hm : MadeL 6 l) (h : Offs w A n c vs l) : Tiny l := by
  have hc : ∀ s ∈ codesL, s.length ≤ 12 := by decide
  have hin : ∀ s ∈ l.map (·.code), s ∈ codesL := fun s hs => List.mem_of_mem_take (hm.codes.subset hs)
  refine ⟨made_len hm, fun o ho => ?_⟩
  obtain ⟨v, hv⟩ := offs_mem h ho
  obtain ⟨j, hj⟩ := List.getElem?_of_mem ho
  have hO := hm.each j o hj
  have hf := made_few hm o ho
  refine ⟨hc _ (hin _ (List.mem_map.2 ⟨o, ho, rfl⟩)), hv.ok.2.1, hv.ok.2.2, ⟨by omega, hv.slots.ok⟩, by omega, fun y hy => ?_⟩
  have h1 := hO.needs.1.subset hy
  obtain ⟨z, hz, rfl⟩ := List.mem_map.1 h1
  exact hc _ (hin _ (List.mem_map.2 ⟨z, List.mem_of_mem_take hz, rfl⟩))
end Go.Proofs.YtnkemoicgadefaaGreatDoor
