/-
  digest.count, by its contract.
-/
import Derived.Test.YtljjmoeplfcblaaBlock
namespace Go.Proofs.Ytljjmoeplfcblaa
open Go.RowKit Go.Shelf
attribute [local go_sem] get_mk extract_mk Oper.semAt_some

theorem keepB_set {Bi Bj g : Nat} {W : World} {u : Value} {t : TypeId} (v : Value) (hb : Boxed W g t u) (ht : t ≠ 75) (hi : g ≠ Bi) (hj : g ≠ Bj) : KeepB Bi Bj W (W.setCell ⟨g, 0, none⟩ v) :=
  keepB_row (grownBy_setCell' W g v) (show W.heap[g]? = some (.cells #[u] t (0, 0)) from hb) ht hi hj
/-- the two boxes that digest.blocks lays, and the world behind them -/
theorem two_boxes (w : World) (i j : Int) : ((w.alloc (.cells #[.int .i64 i] 3)).alloc (.cells #[.int .i64 j] 3)).heap[w.heap.size]? = some (.cells #[.int .i64 i] 3 (0, 0)) ∧ ((w.alloc (.cells #[.int .i64 i] 3)).alloc (.cells #[.int .i64 j] 3)).heap[w.heap.size + 1]? = some (.cells #[.int .i64 j] 3 (0, 0)) := by
  refine ⟨((World.grownBy_alloc _ _ none).block _ (by simp) (by simp)).trans (heap_alloc_new w _), ?_⟩
  have := heap_alloc_new (w.alloc (.cells #[.int .i64 i] 3)) (.cells #[.int .i64 j] 3)
  simpa using this

set_option maxRecDepth 100000 in
set_option maxHeartbeats 2000000 in
/-- digest.count -/
theorem count_k (i j : Nat) (hj : j ≤ 2305843009213693952) (w : World) : Calls Try.prog 67 #[.int .i64 i, .int .i64 j] w fun e w' => e = .returned (.int .i64 (blocks i j).length) ∧ w.grownBy w' none := by
  have hlen := blocks_len' i j
  refine (callsIn_wide (n := 3)).1 ?_
  refine callsIn_of_wp_marks Try.func67 rfl trivial ?_ rfl
  simp only [Try.ntmps67, List.size_toArray, List.length_cons, List.length_nil, Nat.reduceAdd, Nat.reduceSub, Array.replicate_succ, Array.replicate_zero, List.push_toArray, List.append_toArray, List.nil_append, List.cons_append]
  gi_wp2_with (refine ⟨trivial, ?_⟩; gi_at_call 63; refine (callsIn_wide.2 (blocks_k _ _ _)).mono ?_; rintro e w' ⟨rfl, rfl⟩)
  have b0 := Boxed.new w 3 (.int .i64 0)
  have hB0 : Below w.heap.size w (((w.alloc (.cells #[.int .i64 0] 3)).alloc (.cells #[.int .i64 i] 3)).alloc (.cells #[.int .i64 j] 3)) := (((Below.refl _ w).alloc (Nat.le_refl _) _).alloc (by simp) _).alloc (by simp; omega) _
  obtain ⟨h1, h2⟩ := two_boxes (w.alloc (.cells #[.int .i64 0] 3)) i j
  rw [World.size_alloc] at h1 h2
  refine wpIn_rangeFunc_ownG rfl (by omega) (gf := 70) (lb := #[.pointer (some ⟨w.heap.size + 1, 0, none⟩), .pointer (some ⟨w.heap.size + 1 + 1, 0, none⟩)]) rfl trivial (enters_of Try.func70 (by kernel_rfl) rfl)
    (blocks_stops (w.heap.size + 1) (w.heap.size + 1 + 1) i j hj _ h1 h2) keepB_t (keepB_b (by simp) (by simp)) (Below.refl _ _) (fun _ => rfl)
    (fun pre W => Boxed W w.heap.size 3 (.int .i64 pre.length) ∧ Below w.heap.size w W)
    (fun _ _ _ => False)
    (OwnFrom.and (Own.from (boxed_own _ _ _) _) (ownFrom_below (Nat.le_refl _) (by simp; omega)))
    (fun _ _ _ _ _ hs _ _ => hs)
    ⟨(b0.alloc _).alloc _, hB0⟩
    (fun x => { tmps := #[.int .i64 i, .int .i64 j, undef, undef, .int .i64 0, .pointer (some ⟨w.heap.size, 0, none⟩), .int .i64 i, .int .i64 j, .func (.func 70) #[] #[.pointer (some ⟨w.heap.size + 1, 0, none⟩), .pointer (some ⟨w.heap.size + 1 + 1, 0, none⟩)], .agg #[.int .i64 (x.1 : Nat), .int .i64 (x.2 : Nat)], undef, undef, undef], defers := [] }) ?assign ?body ?done ?stop
  case assign =>
    intro l x W K hK
    unfold encB
    gi_wp2
    simpa using hK
  case body =>
    rintro l pre x W ⟨hv, hB⟩ hlt
    have hc := hv.cell
    have hf := hv.frozen
    gi_wp2
    have hk := keepB_set (Bi := w.heap.size + 1) (Bj := w.heap.size + 1 + 1) (.int .i64 (pre.length + 1 : Nat)) hv (by decide) (by omega) (by omega)
    exact ⟨(KeepsOthers.setCell _ _ _).from _, hk, by simpa using hv.set _, hB.setCell (p := ⟨w.heap.size, 0, none⟩) (Nat.le_refl _) _⟩
  case done =>
    rintro D ys W hD rfl ⟨hv, hB⟩ hK
    have hc := hv.cell
    gi_wp2
    refine ⟨by simp, .inl ⟨_, _, rfl, run_takeDeferred hK, ?_⟩⟩
    exact ⟨_, results_tmp rfl _ _ _, rfl, grown_of_below (hB.trans (belowK_b (w := w) (Nat.le_refl _) W D _ _ (by simp at hD; omega) hK rfl rfl))⟩
  case stop =>
    rintro D c pre W _ _ h _
    exact h.elim
end Go.Proofs.Ytljjmoeplfcblaa
