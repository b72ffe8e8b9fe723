/-
  Blocks of a list, by their contracts.
-/
import Derived.RangeFuncBox
import Derived.RangeFuncNested
import Derived.RangeFuncBound
import Derived.RangeFuncCalls
import Derived.RangeFuncLeaves
import Derived.Shelf.Abstract
import Derived.Shelf.RegionOpen
import Derived.OwnWalkIn
import Derived.TacticsInMore
import Derived.LoopNIn
import Derived.LoopIn
import Derived.Test.YtljjmoeplfcblaaBMath
import Derived.Test.YtljjmoeplfcblaaOf
namespace Go.Proofs.Ytljjmoeplfcblaa
open Go.RowKit Go.Shelf
attribute [local go_sem] get_mk extract_mk Oper.semAt_some

/-- digest.leaf -/
theorem leaf_k (s : Str) (hs : s.length ≤ 4611686018427387904) (w : World) : Calls Try.prog 58 #[.string ⟨s.toArray⟩] w fun e w' => e = .returned (.string ⟨(leafD s).toArray⟩) ∧ w.grownBy w' none := by
  go_enter Try.func58, Try.ntmps58
  go_wp2_with fail
  refine (together_new [[3], s] w 2 rfl (by simpa using hs) (by omega) _ rfl).mono ?_
  rintro e w' ⟨rfl, hg⟩
  go_wp2_with fail
  go_ret
  exact ⟨ret_str (by simp [leafD]), hg⟩
/-- digest.pair -/
theorem pair_k (a b : Str) (ha : a.length ≤ 4611686018427387904) (hb : b.length ≤ 4611686018427387904) (w : World) : Calls Try.prog 69 #[.string ⟨a.toArray⟩, .string ⟨b.toArray⟩] w fun e w' => e = .returned (.string ⟨(pairD a b).toArray⟩) ∧ w.grownBy w' none := by
  go_enter Try.func69, Try.ntmps69
  go_wp2_with fail
  refine (together_new [[4], a, b] w 3 rfl (by simp [ha, hb]) (by omega) _ rfl).mono ?_
  rintro e w' ⟨rfl, hg⟩
  go_wp2_with fail
  go_ret
  exact ⟨ret_str (by simp [pairD]), hg⟩
theorem mod_cast2 (i s : Nat) : (i : Int) % (2 * (s : Int)) = ((i % (2 * s) : Nat) : Int) := by simp
set_option maxHeartbeats 1000000 in
/-- digest.greatest -/
theorem greatest_k (i j : Nat) (hij : i < j) (hj : j ≤ 2305843009213693952) (w : World) :
    Calls Try.prog 71 #[.int .i64 i, .int .i64 j] w fun e w' => e = .returned (.agg #[.int .i64 i, .int .i64 (great i j : Nat)]) ∧ w.grownBy w' none := by
  go_enter Try.func71, Try.ntmps71
  go_wp2
  go_loop [5] (fun z => ∃ s f : Nat, z = .int .i64 s ∧ 1 ≤ s ∧ s ≤ j - i ∧ j - i < s + f ∧ gr f s i j = great i j) (fun z => j - i + 1 - (intOf z).toNat)
  case atStart => exact ⟨1, j - i, rfl, Nat.le_refl _, by omega, by omega, rfl⟩
  case round =>
    obtain ⟨s, f, rfl, h1, h2, h3, h4⟩ := hrel
    by_cases hc : i % (2 * s) = 0 ∧ 2 * s ≤ j - i
    · obtain ⟨g, rfl, hg, hg2⟩ := gr_go hc h3 h1
      have H4 := Lib.hid (hg.symm.trans h4)
      have c1 : ((i : Int) % (2 * (s : Int)) == 0) = true := by rw [mod_cast2, hc.1]; rfl
      have c2 : (2 * (s : Int)) ≤ (j : Int) - i := by omega
      clear hg h4 hc
      go_wp2
      exact ⟨⟨2 * s, g, by rw [ret_i64]; omega, by omega, by omega, by omega, H4.out⟩, by simp [intOf]; omega⟩
    · have H4 := Lib.hid ((gr_stop hc f).symm.trans h4)
      clear h4
      by_cases hm : i % (2 * s) = 0
      · have c1 : ((i : Int) % (2 * (s : Int)) == 0) = true := by rw [mod_cast2, hm]; rfl
        have c2 : decide (2 * (s : Int) ≤ (j : Int) - i) = false := by
          rw [decide_eq_false_iff_not]; have : ¬ 2 * s ≤ j - i := fun h => hc ⟨hm, h⟩; omega
        clear hc hm
        go_wp2
        refine bodyPost_ret (v := .agg #[.int .i64 i, .int .i64 s]) (by simp [results, Try.results71, go_sem]) rfl ⟨by rw [H4.out], World.grownBy_alloc w _ none⟩
      · have c1 : ((i : Int) % (2 * (s : Int)) == 0) = false := by
          rw [mod_cast2, beq_eq_false_iff_ne]; omega
        clear hc hm
        go_wp2
        refine bodyPost_ret (v := .agg #[.int .i64 i, .int .i64 s]) (by simp [results, Try.results71, go_sem]) rfl ⟨by rw [H4.out], World.grownBy_alloc w _ none⟩

/-- digest.blocks: what it captures -/
theorem blocks_k (i j : Int) (w : World) : Calls Try.prog 63 #[.int .i64 i, .int .i64 j] w fun e w' => e = .returned (.func (.func 70) #[] #[.pointer (some ⟨w.heap.size, 0, none⟩), .pointer (some ⟨w.heap.size + 1, 0, none⟩)]) ∧ w' = (w.alloc (.cells #[.int .i64 i] 3)).alloc (.cells #[.int .i64 j] 3) := by
  go_enter Try.func63, Try.ntmps63
  go_wp2
  go_ret
  exact ⟨rfl, rfl⟩

/-- a block, as the iterator yields it -/
def encB (b : Nat × Nat) : Array Value := #[.agg #[.int .i64 (b.1 : Nat), .int .i64 (b.2 : Nat)]]

/-- what a round leaves alone: what the iterator captured, and whatever block of the heap is one of digest.block -/
def KeepB (Bi Bj : Nat) (W W' : World) : Prop := ∀ k o, W.heap[k]? = some o → (k = Bi ∨ k = Bj ∨ ∃ cs fr, o = .cells cs 75 fr) → W'.heap[k]? = some o
theorem keepB_t {Bi Bj : Nat} {A B C : World} (h : KeepB Bi Bj A B) (k : KeepB Bi Bj B C) : KeepB Bi Bj A C := fun i o hi ho => k i o (h i o hi ho) ho
theorem keepB_b {Bi Bj : Nat} {w : World} (hi : Bi < w.heap.size) (hj : Bj < w.heap.size) (W : World) (l : Nat) (o o' : Obj) (hl : w.heap.size ≤ l) (h : W.heap[l]? = some o) (hc : o.isCells = false) (_ : o.isWalk = false) : KeepB Bi Bj W (W.putObj l o') := by
  intro k ob hk hor
  have hkl : k ≠ l := by
    rintro rfl
    rcases hor with rfl | rfl | ⟨cs, fr, rfl⟩
    · omega
    · omega
    · rw [h] at hk; cases hk; cases hc
  rw [World.putObj_heap_other hkl]
  exact hk
theorem keepB_none {Bi Bj : Nat} {W W' : World} (hg : W.grownBy W' none) : KeepB Bi Bj W W' := fun k o hk _ => (hg.block k (Array.getElem?_eq_some_iff.1 hk).1 (by simp)).trans hk
theorem keepB_row {Bi Bj g : Nat} {W W' : World} {cs : Array Value} {t : TypeId} {fr : Nat × Nat} (hg : W.grownBy W' (some g)) (hb : W.heap[g]? = some (.cells cs t fr)) (ht : t ≠ 75) (hi : g ≠ Bi) (hj : g ≠ Bj) : KeepB Bi Bj W W' := by
  intro k o hk hor
  refine (hg.block k (Array.getElem?_eq_some_iff.1 hk).1 ?_).trans hk
  intro e
  injection e with e
  subst e
  rcases hor with rfl | rfl | ⟨cs', fr', rfl⟩
  · exact hi rfl
  · exact hj rfl
  · rw [hb] at hk; cases hk; exact ht rfl
theorem heap_alloc_new (w : World) (o : Obj) : (w.alloc o).heap[w.heap.size]? = some o := World.alloc_heap_new w o
theorem cell_of_heap {w : World} {b j : Nat} {cs : Array Value} {t : TypeId} {fr : Nat × Nat} (h : w.heap[b]? = some (.cells cs t fr)) : w.cell? ⟨b, j, none⟩ = cs[j]? := by
  simp [World.cell?, h]
set_option maxRecDepth 100000 in
set_option maxHeartbeats 2000000 in
/-- THE ITERATOR: for every loop body that leaves alone what KeepB says. -/
theorem blocks_stops (Bi Bj : Nat) (i j : Nat) (hj : j ≤ 2305843009213693952) (w : World) (hBi : w.heap[Bi]? = some (.cells #[.int .i64 (i : Nat)] 3 (0, 0))) (hBj : w.heap[Bj]? = some (.cells #[.int .i64 (j : Nat)] 3 (0, 0))) :
    SeqStopsK Fence.wide (3 - 1) Try.prog 70 #[.pointer (some ⟨Bi, 0, none⟩), .pointer (some ⟨Bj, 0, none⟩)] encB (KeepB Bi Bj) (fun ys => ys = blocks i j) (fun pre => pre <+: blocks i j) (blocks i j).length w := fun l J Jx W hW hJ _ hY h0 => by
  have hBi := (hW.block Bi (Array.getElem?_eq_some_iff.1 hBi).1).trans hBi
  have hBj := (hW.block Bj (Array.getElem?_eq_some_iff.1 hBj).1).trans hBj
  have hJg : ∀ pre W W', J pre W → W.grownBy W' none → J pre W' := fun pre A B h g => hJ pre A B none h g (by simp)
  have ci : W.cell? ⟨Bi, 0, none⟩ = some (.int .i64 (i : Nat)) := cell_of_heap hBi
  have HB := Lib.hid hBj
  clear hBi hBj hJ hW
  show CallsIn Fence.wide (3 - 1) Try.prog 70 #[.func (.yield l) #[] #[], .pointer (some ⟨Bi, 0, none⟩), .pointer (some ⟨Bj, 0, none⟩)] W _
  refine callsIn_of_wp Try.func70 rfl trivial ?_ rfl
  simp only [Try.ntmps70, List.size_toArray, List.length_cons, List.length_nil, Nat.reduceAdd, Nat.reduceSub, Array.replicate_succ, Array.replicate_zero, List.push_toArray, List.append_toArray, List.nil_append, List.cons_append]
  gi_wp2
  gi_loopw [4] (fun p wr => ∃ (pre : List (Nat × Nat)) (m : Nat), p = .int .i64 m ∧ blocks i j = pre ++ blocks m j ∧ J pre wr ∧ wr.heap[Bj]? = some (.cells #[.int .i64 (j : Nat)] 3 (0, 0))) (fun p _ => j - (intOf p).toNat)
  case atStart => exact ⟨[], i, rfl, rfl, h0, HB.out⟩
  case round =>
    obtain ⟨pre, m, rfl, hx, hJp, hB⟩ := hrel
    have cj : wr.cell? ⟨Bj, 0, none⟩ = some (.int .i64 (j : Nat)) := cell_of_heap hB
    by_cases hm : m < j
    · have hg := great_bound hm
      rw [blocks_cons hm] at hx
      have HX := Lib.hid hx
      have HBr := Lib.hid hB
      clear hx hB
      have HG := Lib.hid (greatest_k m j hm hj wr)
      generalize great m j = G at hg HG HX ⊢
      gi_wp2_with (refine ⟨trivial, ?_⟩; gi_at_call 71; refine (callsIn_wide.2 HG.out).mono ?_; rintro e w' ⟨rfl, hg2⟩; obtain ⟨fn, tmps, assign, body, hy, hR⟩ := hY pre (m, G) (w'.alloc (.cells #[.int .i64 (m : Nat), .int .i64 (G : Nat)] 75)) (hJg _ _ _ hJp (grown_al hg2)) (by rw [HX.out]; simp); dsimp only [encB] at hy)
      have cb : (w'.alloc (.cells #[.int .i64 (m : Nat), .int .i64 (G : Nat)] 75)).heap[w'.heap.size]? = some (.cells #[.int .i64 (m : Nat), .int .i64 (G : Nat)] 75 (0, 0)) := heap_alloc_new _ _
      have cbj := ((grown_al (o := .cells #[.int .i64 (m : Nat), .int .i64 (G : Nat)] 75) hg2).block Bj (Array.getElem?_eq_some_iff.1 HBr.out).1 (by simp)).trans HBr.out
      refine hR.mono ?_
      rintro e W3 (⟨rfl, hJ3, hk3⟩ | ⟨rfl, hJx3⟩)
      · have cb3 := cell_of_heap (j := 1) (hk3 _ _ cb (.inr (.inr ⟨_, _, rfl⟩)))
        have cj3 := Lib.hid (hk3 _ _ cbj (.inr (.inl rfl)))
        clear cb cbj
        gi_wp2
        go_roundw
        case rel => exact ⟨pre ++ [(m, G)], m + G, by go_num, by rw [HX.out]; simp, hJ3, cj3.out⟩
        case measure => simp [intOf]; omega
      · gi_wp2
        refine bodyPost_ret (results_none rfl _ _ _) rfl ?_
        exact ⟨⟨_, rfl⟩, .inr ⟨pre ++ [(m, G)], by rw [HX.out]; exact ⟨blocks (m + G) j, by simp⟩, hJx3⟩⟩
    · rw [blocks_nil hm, List.append_nil] at hx
      have HX := Lib.hid hx
      clear hx
      gi_wp2
      go_end0
      exact ⟨⟨_, rfl⟩, .inl ⟨pre, HX.out.symm, hJp⟩⟩
end Go.Proofs.Ytljjmoeplfcblaa
