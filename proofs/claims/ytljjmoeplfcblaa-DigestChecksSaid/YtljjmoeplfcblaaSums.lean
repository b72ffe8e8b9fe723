/-
  digest.sums, by its contract.
-/
import Derived.Test.YtljjmoeplfcblaaTop
import Derived.Test.YtljjmoeplfcblaaBlockM
import Derived.Test.YtljjmoeplfcblaaHeldIn
namespace Go.Proofs.Ytljjmoeplfcblaa
open Go.RowKit Go.Shelf
attribute [local go_sem] get_mk extract_mk Oper.semAt_some

theorem info9 : (Try.prog.info? 9).map (fun i => (i.zero, i.size, i.bytes)) = some (some (.string ⟨#[]⟩), 1, 16) := by kernel_rfl
theorem grown_alr {a w : World} {row : Option Nat} {o : Obj} (h : a.grownBy w row) : a.grownBy (w.alloc o) row := h.trans (World.grownBy_alloc w o row)
theorem kept_cells {W W' : World} {row : Option Nat} {B b : Nat} {cs : Array Value} {t : TypeId} {fr : Nat × Nat} (hg : W.grownBy W' row) (hr : ∀ r, row = some r → B ≤ r ∧ ∃ o : Obj, W.heap[r]? = some o ∧ o.isCells = false) (h : W.heap[b]? = some (.cells cs t fr)) :
    W'.heap[b]? = some (.cells cs t fr) := by
  refine (hg.block b (Array.getElem?_eq_some_iff.1 h).1 ?_).trans h
  intro e
  obtain ⟨_, o, ho, hc⟩ := hr b e.symm
  rw [h] at ho
  cases ho
  cases hc
theorem own_form {w : World} {b e size n : Nat} {v : Value} {xs : List Value} (h : w.ownsRow b e size v n xs) : v.ownBlock = none ∨ ∃ g cs fr, v.ownBlock = some g ∧ w.heap[g]? = some (.cells cs e fr) := by
  rcases h.2 with ⟨rfl, _⟩ | ⟨g, cap, cur, rfl, _, hc, _⟩
  · exact .inl rfl
  · exact .inr ⟨g, cur, (0, 0), rfl, hc⟩
theorem own_not {w : World} {b e size n B t : Nat} {v : Value} {xs : List Value} {cs : Array Value} {fr : Nat × Nat} (h : w.ownsRow b e size v n xs) (hB : w.heap[B]? = some (.cells cs t fr)) (ht : t ≠ e) : v.ownBlock ≠ some B := by
  intro he
  rcases own_form h with h | ⟨g, cs', fr', h, hc⟩
  · rw [h] at he; cases he
  · rw [h] at he
    have : g = B := by injection he
    rw [this, hB] at hc
    cases hc
    exact ht rfl
theorem own_kept {W W' : World} {row : Option Nat} {B b e size n : Nat} {v : Value} {xs : List Value} (h : W.ownsRow b e size v n xs) (hg : W.grownBy W' row) (hr : ∀ r, row = some r → B ≤ r ∧ ∃ o : Obj, W.heap[r]? = some o ∧ o.isCells = false) : W'.ownsRow b e size v n xs :=
  h.kept hg (by
    rcases own_form h with h | ⟨g, cs, fr, h, hc⟩
    · exact .inl h
    · right
      intro e
      obtain ⟨_, o, ho, hc'⟩ := hr g (by rw [← e, h])
      rw [hc] at ho
      cases ho
      cases hc')
theorem others_of {W W' : World} {row : Option Nat} (hg : W.grownBy W' row) (hr : row = none ∨ ∃ g cs t fr, row = some g ∧ W.heap[g]? = some (.cells cs t fr)) : KeepsOthers W W' :=
  ⟨hg.size, fun k o hk hc => (hg.block k (Array.getElem?_eq_some_iff.1 hk).1 (by
    rcases hr with rfl | ⟨g, cs, t, fr, rfl, hgc⟩
    · simp
    · intro e
      injection e with e
      subst e
      rw [hk] at hgc
      cases hgc
      cases hc)).trans hk⟩
theorem keepB_own {Bi Bj b size n : Nat} {W W' : World} {v : Value} {xs : List Value} {e : Nat} {csi csj : Array Value} {fi fj : Nat × Nat} {t : Nat} (h : W.ownsRow b e size v n xs) (hg : W.grownBy W' v.ownBlock) (he : e ≠ 75) (hi : W.heap[Bi]? = some (.cells csi t fi)) (hj : W.heap[Bj]? = some (.cells csj t fj)) (ht : t ≠ e) : KeepB Bi Bj W W' := by
  have n1 := own_not h hi ht
  have n2 := own_not h hj ht
  rcases own_form h with h0 | ⟨g, cs, fr, h0, hc⟩
  · rw [h0] at hg; exact keepB_none hg
  · rw [h0] at hg n1 n2
    exact keepB_row hg hc he (fun e => n1 (by rw [e])) (fun e => n2 (by rw [e]))
/-- append, at an operation inside a round -/
theorem append_in {F : Fence} {n : Nat} {P : Program} (w : World) {o : Oper} {a : Act} {K : Act → World → Prop} {Q : Exit → Act → World → Prop} {ops : Array Oper} {E : Prop} (hgd : o.guard = none) (s x : Operand) (t : TypeId)
    (ho : o.op = .call { callee := .builtin .append, args := #[s, x], argTypes := #[t, t] })
    (base : Nat) (e : TypeId) (i : TypeInfo) (z : Value) (size bytes : Nat) (ht : P.underlying t = some (.slice e)) (hi : P.info? e = some i) (hz : i.zero = some z)
    (hsize : i.size = size) (hby : i.bytes = bytes) (hzs : z.cells.size = size) (hsz : 0 < size)
    (v : Value) (k : Nat) (xs : List Value) (hs : a.eval s = v) (hown : w.ownsRow base e size v k xs)
    (ad : Addr) (m c : Nat) (news : List Value) (hx : a.eval x = .slice (some ad) m c) (hl : news.length = m * size) (hnews : ∀ j u, news[j]? = some u → w.cell? (ad.add j) = some u) (h1 : ∀ u ∈ news, u.oneCell' = true)
    (hm : 0 < m) (h63 : k + m ≤ maxLen) (hbytes : (k + m) * bytes ≤ 140737488355328) (hbase : base ≤ w.heap.size)
    (h : ∀ g cap w', w'.ownsRow base e size (.slice (some ⟨g, 0, none⟩) (k + m) cap) (k + m) (xs ++ news) → w.grownBy w' v.ownBlock → K (a.put o.dst (.slice (some ⟨g, 0, none⟩) (k + m) cap)) w') :
    if Region.wanted o (yielded ops a.tmps) = true then Oper.wpIn F n P o a w K Q else E := by
  have hw : Region.wanted o (yielded ops a.tmps) = true := by simp [Region.wanted, hgd]
  rw [if_pos hw]
  obtain ⟨g, cap, w', hr, h2, h3, h4, h5⟩ := run_append_lies (P := P) w t o.type base e i z size bytes ht hi hz hsize hby hzs hsz v k xs hown ad m c news hl hnews h1 hm h63 hbytes hbase w.heap.size rfl
  unfold Oper.wpIn
  refine ⟨?_, ?_⟩
  · simp [Oper.about, ho, resolve, Target.leads, Sem.run_pure]
  · rw [Oper.semAt_plain F _ _ (by rw [ho]; intro c hc'; cases hc')]
    simp [execOp, ho, resolve, invoke, builtin, hs, hx, hr, Result.andThen]
    exact h g cap w' h2 h3
/-- what the rounds keep: the variable's box holds a slice that the function owns -/
def SInv (w : World) (B : Nat) (ds : List Str) (W : World) : Prop :=
  ∃ v, Boxed W B 29 v ∧ W.ownsRow w.heap.size 9 1 v ds.length (ds.map fun s => .string ⟨s.toArray⟩) ∧ v.ownBlock ≠ some B ∧ Below w.heap.size w W

set_option maxRecDepth 100000 in
set_option maxHeartbeats 4000000 in
/-- digest.sums -/
theorem sums_k (A : Option Addr) (n c : Nat) (l : List Str) (hn : n ≤ 1099511627776) (i j : Nat) (hj : j ≤ n) (w : World) (hl : Strs w A n c l) :
    Calls Try.prog 48 #[.slice A n c, .int .i64 i, .int .i64 j] w fun e w' => ∃ v, e = .returned v ∧ w'.ownsRow w.heap.size 9 1 v (sums l i j).length ((sums l i j).map fun s => .string ⟨s.toArray⟩) ∧ w.grownBy w' none := by
  obtain ⟨i0, hi0, hz0, hz1, hz2⟩ := info_parts info9
  refine (callsIn_wide (n := 3)).1 ?_
  refine callsIn_of_wp_marks Try.func48 rfl trivial ?_ rfl
  simp only [Try.ntmps48, List.size_toArray, List.length_cons, List.length_nil, Nat.reduceAdd, Nat.reduceSub, Array.replicate_succ, Array.replicate_zero, List.push_toArray, List.append_toArray, List.nil_append, List.cons_append]
  gi_wp2_with (refine ⟨trivial, ?_⟩; gi_at_call 63; refine (callsIn_wide.2 (blocks_k _ _ _)).mono ?_; rintro e w' ⟨rfl, rfl⟩)
  have hbA := heap_alloc_new w (.cells #[.slice A n c] 29)
  have b0 := Boxed.new (w.alloc (.cells #[.slice A n c] 29)) 29 (.slice none 0 0)
  rw [World.size_alloc] at b0
  obtain ⟨h1, h2⟩ := two_boxes ((w.alloc (.cells #[.slice A n c] 29)).alloc (.cells #[.slice none 0 0] 29)) i j
  rw [World.size_alloc, World.size_alloc] at h1 h2
  have hB0 : Below w.heap.size w ((((w.alloc (.cells #[.slice A n c] 29)).alloc (.cells #[.slice none 0 0] 29)).alloc (.cells #[.int .i64 i] 3)).alloc (.cells #[.int .i64 j] 3)) :=
    ((((Below.refl _ w).alloc (Nat.le_refl _) _).alloc (by simp) _).alloc (by simp; omega) _).alloc (by simp; omega) _
  refine wpIn_rangeFunc_ownH rfl (by omega) (gf := 70) (lb := #[.pointer (some ⟨w.heap.size + 1 + 1, 0, none⟩), .pointer (some ⟨w.heap.size + 1 + 1 + 1, 0, none⟩)]) rfl trivial (enters_of Try.func70 (by kernel_rfl) rfl)
    (blocks_stopsM (w.heap.size + 1 + 1) (w.heap.size + 1 + 1 + 1) i j (by omega) _ h1 h2) keepB_t (keepB_b (by simp) (by simp)) (Below.refl _ _) (fun _ => rfl)
    (fun pre W => SInv w (w.heap.size + 1) (pre.map (fun x => sumB l x.val)) W ∧ W.heap[w.heap.size]? = some (.cells #[.slice A n c] 29 (0, 0)) ∧ W.heap[w.heap.size + 1 + 1]? = some (.cells #[.int .i64 i] 3 (0, 0)) ∧ W.heap[w.heap.size + 1 + 1 + 1]? = some (.cells #[.int .i64 j] 3 (0, 0)))
    (fun _ _ _ => False)
    ?own
    (fun _ _ _ _ _ hs _ _ => hs)
    ⟨⟨_, (b0.alloc _).alloc _, World.ownsRow_nil _ _ _ _, by simp [Value.ownBlock], hB0⟩, ?first, h1, h2⟩
    (fun x a' W => ∃ bp, a' = { tmps := #[.slice A n c, .int .i64 i, .int .i64 j, .pointer (some ⟨w.heap.size, 0, none⟩), undef, undef, .slice none 0 0, .pointer (some ⟨w.heap.size + 1, 0, none⟩), .pointer (some ⟨bp, 0, none⟩), .int .i64 i, .int .i64 j,
      .func (.func 70) #[] #[.pointer (some ⟨w.heap.size + 1 + 1, 0, none⟩), .pointer (some ⟨w.heap.size + 1 + 1 + 1, 0, none⟩)], .agg #[.int .i64 (x.val.1 : Nat), .int .i64 (x.val.2 : Nat)], undef, undef, undef, undef, undef, undef, undef], defers := [] } ∧ W.heap[bp]? = some (.cells #[.int .i64 (x.val.1 : Nat), .int .i64 (x.val.2 : Nat)] 75 (0, 0)))
    ?ax ?assign ?body ?done ?stop
  case own =>
    rintro ds W W' row ⟨⟨v, hv, ho, hvb, hB⟩, hA, hBi, hBj⟩ hg hr
    exact ⟨⟨v, kept_cells hg hr hv, own_kept ho hg hr, hvb, hB.grown hg hB.size (fun k e => Nat.le_trans (by simp; omega) (hr k e).1)⟩, kept_cells hg hr hA, kept_cells hg hr hBi, kept_cells hg hr hBj⟩
  case first =>
    refine ((World.grownBy_alloc _ _ none).block _ (by simp; omega) (by simp)).trans (((World.grownBy_alloc _ _ none).block _ (by simp; omega) (by simp)).trans (((World.grownBy_alloc _ _ none).block _ (by simp) (by simp)).trans hbA))
  case ax =>
    rintro x a' u W W' row ⟨bp, rfl, hb⟩ hg hr
    exact ⟨bp, rfl, kept_cells hg hr hb⟩
  case assign =>
    rintro lv pre x W K ⟨⟨v, hv, ho, hvb, hB⟩, hA, hBi, hBj⟩ hK
    have hga := World.grownBy_alloc W (.cells #[.int .i64 (x.val.1 : Nat), .int .i64 (x.val.2 : Nat)] 75) none
    have hfin := hK _ (W.alloc (.cells #[.int .i64 (x.val.1 : Nat), .int .i64 (x.val.2 : Nat)] 75)) ((others_of hga (.inl rfl)).from _) (keepB_none hga)
      ⟨⟨v, (hga.block _ hv.lt (by simp)).trans hv, ho.kept hga (Classical.em _), hvb, hB.grown hga hB.size (by simp)⟩, (hga.block _ (Array.getElem?_eq_some_iff.1 hA).1 (by simp)).trans hA, (hga.block _ (Array.getElem?_eq_some_iff.1 hBi).1 (by simp)).trans hBi, (hga.block _ (Array.getElem?_eq_some_iff.1 hBj).1 (by simp)).trans hBj⟩
      ⟨W.heap.size, rfl, heap_alloc_new _ _⟩
    clear hK
    unfold encB
    gi_wp2
    exact hfin
  case body =>
    rintro lv pre x a' W hlv hloop ⟨⟨v, hv, ho, hvb, hB⟩, hA, hBi, hBj⟩ ⟨bp, rfl, hbp⟩ hlt
    obtain ⟨⟨x1, x2⟩, hmem⟩ := x
    simp only at hbp
    have hNA : v.ownBlock ≠ some w.heap.size := own_not ho hA (by decide)
    have hNB : v.ownBlock ≠ some bp := own_not ho hbp (by decide)
    obtain ⟨m1, m2, m3⟩ := blocks_mem hmem
    simp only at m1 m2 m3
    have hLW : Hid (Strs W A n c l) := Lib.hid (hl.kept (grown_of_below hB))
    have HS : Hid (∀ W', W.grownBy W' v.ownBlock → W'.cell? ⟨w.heap.size, 0, none⟩ = some (.slice A n c) ∧ W'.cell? ⟨w.heap.size + 1, 0, none⟩ = some v ∧ W'.cell? ⟨bp, 0, none⟩ = some (.int .i64 x1) ∧ W'.cell? ⟨bp, 1, none⟩ = some (.int .i64 x2) ∧ W.grownBy W' v.ownBlock) := by
      refine Lib.hid (fun W' g => ?_)
      have k0 := (g.block _ (Array.getElem?_eq_some_iff.1 hA).1 (fun e => hNA e.symm)).trans hA
      have k1 := (g.block _ hv.lt (fun e => hvb e.symm)).trans hv
      have k2 := (g.block _ (Array.getElem?_eq_some_iff.1 hbp).1 (fun e => hNB e.symm)).trans hbp
      refine ⟨by simp [World.cell?, k0], by simp [World.cell?, k1], by simp [World.cell?, k2], by simp [World.cell?, k2], g⟩
    have g0 : W.grownBy W v.ownBlock := World.grownBy.refl _ _
    have gn : W.grownBy W none := World.grownBy.refl _ _
    have hpl := hlt
    gi_wp2
    refine wpIn_region_held 6 (S := (fun W' => W'.cell? ⟨w.heap.size, 0, none⟩ = some (.slice A n c) ∧ W'.cell? ⟨w.heap.size + 1, 0, none⟩ = some v ∧ W'.cell? ⟨bp, 0, none⟩ = some (.int .i64 x1) ∧ W'.cell? ⟨bp, 1, none⟩ = some (.int .i64 x2) ∧ W.grownBy W' v.ownBlock)) (by kernel_rfl) ?_ (fun hHeld => ?_)
    · (try dsimp only); (first | (exact HS.out _ (by assumption)) | (exact HS.out _ (grown_drr (by assumption))) | (exact HS.out _ (grown_alr (by assumption))) | (exact HS.out _ (grown_alr (grown_drr (by assumption)))))
    refine wpAnyInH_take (i := 0) (oi := _) (v := ?_) (by kernel_rfl) rfl (by kernel_rfl) (by kernel_rfl) (by kernel_rfl) (by kernel_rfl) (by kernel_rfl) (fun _ _ _ h => h) ⟨Or.inl ⟨by rfl, ?_⟩, fun _ _ => rfl⟩ (by assumption) ?_
    rotate_left 1
    · (intro w hSw; (try dsimp only at hSw); go_simp; first | done | with_reducible rfl)
    try go_simp
    refine wpAnyInH_take (i := 1) (oi := _) (v := ?_) (by kernel_rfl) rfl (by kernel_rfl) (by kernel_rfl) (by kernel_rfl) (by kernel_rfl) (by kernel_rfl) (fun _ _ _ h => h) ⟨Or.inl ⟨by rfl, ?_⟩, fun _ _ => rfl⟩ (by assumption) ?_
    rotate_left 1
    · (intro w hSw; (try dsimp only at hSw); go_simp; first | done | with_reducible rfl)
    try go_simp
    refine wpAnyInH_take (i := 2) (oi := _) (v := ?_) (by kernel_rfl) rfl (by kernel_rfl) (by kernel_rfl) (by kernel_rfl) (by kernel_rfl) (by kernel_rfl) (fun _ _ _ h => h) ⟨Or.inl ⟨by rfl, ?_⟩, fun _ _ => rfl⟩ (by assumption) ?_
    rotate_left 1
    · (intro w hSw; (try dsimp only at hSw); go_simp; first | done | with_reducible rfl)
    try go_simp
    refine wpAnyInH_one (i := 3) (o := _) (by kernel_rfl) rfl (fun K hK => ?_)
    go_simp
    refine ⟨trivial, (CallsIn.inRound lv (callsIn_wide.2 (sum_k A n c l hn n W.drew x1 x2 m2 (by omega) (by omega) (hLW.out.kept (grown_dr gn))))).mono ?_⟩
    rintro e W3 ⟨rfl, g3⟩
    have gg3 : W.grownBy W3 none := (grown_dr gn).trans g3
    have gv3 := grown_any gg3 v.ownBlock
    refine hK.out _ _ ?_ (fun hHeld => ?_)
    · (try dsimp only); (first | (exact HS.out _ (by assumption)) | (exact HS.out _ (grown_drr (by assumption))) | (exact HS.out _ (grown_alr (by assumption))) | (exact HS.out _ (grown_alr (grown_drr (by assumption)))))
    clear hK K
    refine wpAnyInH_one (i := 4) (o := _) (by kernel_rfl) rfl (fun K hK => ?_)
    go_simp
    refine hK.out _ _ ?_ (fun hHeld => ?_)
    · (try dsimp only); (first | (exact HS.out _ (by assumption)) | (exact HS.out _ (grown_drr (by assumption))) | (exact HS.out _ (grown_alr (by assumption))) | (exact HS.out _ (grown_alr (grown_drr (by assumption)))))
    clear hK K
    have ga3 := World.grownBy_alloc W3 (.cells #[.string ⟨(sumB l (x1, x2)).toArray⟩] 9) none
    have ho3 := (ho.kept gg3 (Classical.em _)).alloc (.cells #[.string ⟨(sumB l (x1, x2)).toArray⟩] 9)
    have hpre : pre.length ≤ 1099511627776 := by have := blocks_len' i j; omega
    have hsz := hB.size
    refine wpAnyInH_one (i := 5) (o := _) (by kernel_rfl) rfl (fun K hK => ?_)
    refine append_in _ rfl _ _ 29 rfl w.heap.size 9 i0 _ 1 16 Try.underlying29 hi0 hz0 hz1 hz2 rfl (by omega) v pre.length _ (by rfl) (by simpa using ho3) ⟨W3.heap.size, 0, none⟩ 1 1 [.string ⟨(sumB l (x1, x2)).toArray⟩] (by rfl) rfl (World.news_of_block (cs := #[.string ⟨(sumB l (x1, x2)).toArray⟩]) (t := 9) (fr := (0, 0)) (heap_alloc_new W3 _)) (by intro u hu; rw [List.mem_singleton] at hu; rw [hu]; rfl) (by omega) (by simp only [maxLen]; omega) (by omega) (by have := gg3.size; simp; omega) ?_
    intro g cap W5 hown5 hgrow5
    have gv5 : W.grownBy W5 v.ownBlock := (grown_any (gg3.trans ga3) _).trans hgrow5
    refine hK.out _ _ ?_ (fun hHeld => ?_)
    · (try dsimp only); (first | (exact HS.out _ (by assumption)) | (exact HS.out _ (grown_drr (by assumption))) | (exact HS.out _ (grown_alr (by assumption))) | (exact HS.out _ (grown_alr (grown_drr (by assumption)))))
    clear hK K
    try go_simp
    have hb5 := (gv5.block _ hv.lt (fun e => hvb e.symm)).trans hv
    have f5 : W5.frozen? ⟨w.heap.size + 1, 0, none⟩ = false := by simp [World.frozen?, hb5]
    refine wpAnyInH_last (k := 6) (o := _) (by kernel_rfl) rfl (fun K hK => ?_)
    go_simp
    have hv5 : Boxed W5 (w.heap.size + 1) 29 v := hb5
    have hA5 := (gv5.block _ (Array.getElem?_eq_some_iff.1 hA).1 (fun e => hNA e.symm)).trans hA
    have hNi : v.ownBlock ≠ some (w.heap.size + 1 + 1) := own_not ho hBi (by decide)
    have hNj : v.ownBlock ≠ some (w.heap.size + 1 + 1 + 1) := own_not ho hBj (by decide)
    have hBi5 := (gv5.block _ (Array.getElem?_eq_some_iff.1 hBi).1 (fun e => hNi e.symm)).trans hBi
    have hBj5 := (gv5.block _ (Array.getElem?_eq_some_iff.1 hBj).1 (fun e => hNj e.symm)).trans hBj
    have hne5 : (Value.slice (some ⟨g, 0, none⟩) (pre.length + 1) cap).ownBlock ≠ some (w.heap.size + 1) := own_not hown5 hb5 (by decide)
    have g6 := grow_cell W5 (w.heap.size + 1) 0 (.slice (some ⟨g, 0, none⟩) (pre.length + 1) cap)
    have hf : KeepsFrom (((((w.alloc (.cells #[.slice A n c] 29)).alloc (.cells #[.slice none 0 0] 29)).alloc (.cells #[.int .i64 i] 3)).alloc (.cells #[.int .i64 j] 3)).heap.size) W (W5.setCell ⟨w.heap.size + 1, 0, none⟩ (.slice (some ⟨g, 0, none⟩) (pre.length + 1) cap)) :=
      ((others_of gv5 (by rcases own_form ho with h | ⟨g, cs, fr, h, hc⟩; exact .inl h; exact .inr ⟨g, cs, 9, fr, h, hc⟩)).from _).trans ((KeepsOthers.setCell _ _ _).from _)
    have hk : KeepB (w.heap.size + 1 + 1) (w.heap.size + 1 + 1 + 1) W (W5.setCell ⟨w.heap.size + 1, 0, none⟩ (.slice (some ⟨g, 0, none⟩) (pre.length + 1) cap)) :=
      keepB_t (keepB_own ho gv5 (by decide) hBi hBj (by decide)) (keepB_set _ hv5 (by decide) (by omega) (by omega))
    have hI : SInv w (w.heap.size + 1) ((pre ++ [(⟨(x1, x2), hmem⟩ : {b : Nat × Nat // b ∈ blocks i j})]).map (fun x => sumB l x.val)) (W5.setCell ⟨w.heap.size + 1, 0, none⟩ (.slice (some ⟨g, 0, none⟩) (pre.length + 1) cap)) := by
      refine ⟨_, hv5.set _, ?_, hne5, (hB.grown gv5 hB.size (fun k e => (ho.lt k e).1)).setCell (p := ⟨w.heap.size + 1, 0, none⟩) (Nat.le_succ _) _⟩
      have := hown5.kept g6 (.inr hne5)
      simpa using this
    refine hK.out _ _ ?_
    clear hK K
    refine wpAnyInH_done (by kernel_rfl) ?_ _
    have hend := And.intro hf (And.intro hk (And.intro hI (And.intro ((g6.block _ (Array.getElem?_eq_some_iff.1 hA5).1 (by intro e; injection e with e; omega)).trans hA5) (And.intro ((g6.block _ (Array.getElem?_eq_some_iff.1 hBi5).1 (by intro e; injection e with e; omega)).trans hBi5) ((g6.block _ (Array.getElem?_eq_some_iff.1 hBj5).1 (by intro e; injection e with e; omega)).trans hBj5)))))
    clear hf hk hI
    exact hend
  case done =>
    rintro D ys W hD hys ⟨⟨v, hv, ho, hvb, hB⟩, hA, hBi, hBj⟩ hK
    have hsu : ys.map (fun x => sumB l x.val) = sums l i j := (show ys.map (fun x => sumB l x.val) = (ys.map Subtype.val).map (sumB l) by rw [List.map_map]; rfl).trans (congrArg (List.map (sumB l)) hys)
    rw [hsu] at ho
    clear hsu hys
    have hc := hv.cell
    gi_wp2
    refine ⟨by simp, .inl ⟨_, _, rfl, run_takeDeferred hK, ?_⟩⟩
    have hgp := fun o' => grownBy_putObj' W D o'
    refine ⟨_, results_tmp rfl _ _ _, v, rfl, own_kept (B := 0) ho (hgp _) (fun r e => ?_), grown_of_below (hB.trans (belowK_b (w := w) (Nat.le_refl _) W D _ _ (by simp at hD; omega) hK rfl rfl))⟩
    cases e
    exact ⟨Nat.zero_le _, _, hK, rfl⟩
  case stop =>
    rintro D c pre W _ _ h _
    exact h.elim
end Go.Proofs.Ytljjmoeplfcblaa
