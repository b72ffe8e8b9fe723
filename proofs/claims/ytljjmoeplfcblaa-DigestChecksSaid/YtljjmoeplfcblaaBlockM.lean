/-
  digest.blocks, where the loop's body is told that what it gets is one of the blocks.
-/
import Derived.RangeFuncBox
import Derived.RangeFuncNested
import Derived.RangeFuncBound
import Derived.RangeFuncCalls
import Derived.RangeFuncLeaves
import Derived.Shelf.Abstract
import Derived.Shelf.RegionOpen
import Derived.OwnWalkIn
import Derived.TacticsInMore
import Derived.LoopNIn
import Derived.LoopIn
import Derived.Test.YtljjmoeplfcblaaCount
namespace Go.Proofs.Ytljjmoeplfcblaa
open Go.RowKit Go.Shelf
attribute [local go_sem] get_mk extract_mk Oper.semAt_some

set_option maxRecDepth 100000 in
set_option maxHeartbeats 2000000 in
/-- THE ITERATOR, where the loop's body is told that what it gets is one of the blocks. -/
theorem blocks_stopsM (Bi Bj : Nat) (i j : Nat) (hj : j ≤ 2305843009213693952) (w : World) (hBi : w.heap[Bi]? = some (.cells #[.int .i64 (i : Nat)] 3 (0, 0))) (hBj : w.heap[Bj]? = some (.cells #[.int .i64 (j : Nat)] 3 (0, 0))) :
    SeqStopsK Fence.wide (3 - 1) Try.prog 70 #[.pointer (some ⟨Bi, 0, none⟩), .pointer (some ⟨Bj, 0, none⟩)] (fun x : {b : Nat × Nat // b ∈ blocks i j} => encB x.val) (KeepB Bi Bj) (fun ys => ys.map Subtype.val = blocks i j) (fun pre => pre.map Subtype.val <+: blocks i j) (blocks i j).length w := fun l J Jx W hW hJ _ hY h0 => by
  have hBi := (hW.block Bi (Array.getElem?_eq_some_iff.1 hBi).1).trans hBi
  have hBj := (hW.block Bj (Array.getElem?_eq_some_iff.1 hBj).1).trans hBj
  have hJg : ∀ pre W W', J pre W → W.grownBy W' none → J pre W' := fun pre A B h g => hJ pre A B none h g (by simp)
  have ci : W.cell? ⟨Bi, 0, none⟩ = some (.int .i64 (i : Nat)) := cell_of_heap hBi
  have HB := Lib.hid hBj
  clear hBi hBj hJ hW
  show CallsIn Fence.wide (3 - 1) Try.prog 70 #[.func (.yield l) #[] #[], .pointer (some ⟨Bi, 0, none⟩), .pointer (some ⟨Bj, 0, none⟩)] W _
  refine callsIn_of_wp Try.func70 rfl trivial ?_ rfl
  simp only [Try.ntmps70, List.size_toArray, List.length_cons, List.length_nil, Nat.reduceAdd, Nat.reduceSub, Array.replicate_succ, Array.replicate_zero, List.push_toArray, List.append_toArray, List.nil_append, List.cons_append]
  gi_wp2
  gi_loopw [4] (fun p wr => ∃ (pre : List {b : Nat × Nat // b ∈ blocks i j}) (m : Nat), p = .int .i64 m ∧ blocks i j = pre.map Subtype.val ++ blocks m j ∧ J pre wr ∧ wr.heap[Bj]? = some (.cells #[.int .i64 (j : Nat)] 3 (0, 0))) (fun p _ => j - (intOf p).toNat)
  case atStart => exact ⟨[], i, rfl, rfl, h0, HB.out⟩
  case round =>
    obtain ⟨pre, m, rfl, hx, hJp, hB⟩ := hrel
    have cj : wr.cell? ⟨Bj, 0, none⟩ = some (.int .i64 (j : Nat)) := cell_of_heap hB
    by_cases hm : m < j
    · have hg := great_bound hm
      rw [blocks_cons hm] at hx
      have hmem : (m, great m j) ∈ blocks i j := by rw [hx]; simp
      have HX := Lib.hid hx
      have HBr := Lib.hid hB
      clear hx hB
      have HG := Lib.hid (greatest_k m j hm hj wr)
      generalize great m j = G at hg HG HX hmem ⊢
      gi_wp2_with (refine ⟨trivial, ?_⟩; gi_at_call 71; refine (callsIn_wide.2 HG.out).mono ?_; rintro e w' ⟨rfl, hg2⟩; obtain ⟨fn, tmps, assign, body, hy, hR⟩ := hY pre ⟨(m, G), hmem⟩ (w'.alloc (.cells #[.int .i64 (m : Nat), .int .i64 (G : Nat)] 75)) (hJg _ _ _ hJp (grown_al hg2)) (by have := congrArg List.length HX.out; simp at this; omega); dsimp only [encB] at hy)
      have cb : (w'.alloc (.cells #[.int .i64 (m : Nat), .int .i64 (G : Nat)] 75)).heap[w'.heap.size]? = some (.cells #[.int .i64 (m : Nat), .int .i64 (G : Nat)] 75 (0, 0)) := heap_alloc_new _ _
      have cbj := ((grown_al (o := .cells #[.int .i64 (m : Nat), .int .i64 (G : Nat)] 75) hg2).block Bj (Array.getElem?_eq_some_iff.1 HBr.out).1 (by simp)).trans HBr.out
      refine hR.mono ?_
      rintro e W3 (⟨rfl, hJ3, hk3⟩ | ⟨rfl, hJx3⟩)
      · have cb3 := cell_of_heap (j := 1) (hk3 _ _ cb (.inr (.inr ⟨_, _, rfl⟩)))
        have cj3 := Lib.hid (hk3 _ _ cbj (.inr (.inl rfl)))
        clear cb cbj
        gi_wp2
        go_roundw
        case rel => exact ⟨pre ++ [⟨(m, G), hmem⟩], m + G, by go_num, HX.out.trans (by simp), hJ3, cj3.out⟩
        case measure => simp [intOf]; omega
      · gi_wp2
        refine bodyPost_ret (results_none rfl _ _ _) rfl ?_
        exact ⟨⟨_, rfl⟩, .inr ⟨pre ++ [⟨(m, G), hmem⟩], ⟨blocks (m + G) j, (HX.out.trans (by simp)).symm⟩, hJx3⟩⟩
    · rw [blocks_nil hm, List.append_nil] at hx
      have HX := Lib.hid hx
      clear hx
      gi_wp2
      go_end0
      exact ⟨⟨_, rfl⟩, .inl ⟨pre, HX.out.symm, hJp⟩⟩
end Go.Proofs.Ytljjmoeplfcblaa
