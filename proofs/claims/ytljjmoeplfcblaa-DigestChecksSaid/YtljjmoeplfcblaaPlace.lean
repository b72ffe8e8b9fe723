/-
  digest.place, by its contract.
-/
import Derived.Test.YtljjmoeplfcblaaSums
import Derived.Test.YtljjmoeplfcblaaGood
namespace Go.Proofs.Ytljjmoeplfcblaa
open Go.RowKit Go.Shelf
attribute [local go_sem] get_mk extract_mk Oper.semAt_some

/-- what the rounds keep -/
def PInv (w : World) (base : Nat) (v0 : Value) (S : List Nd) (L M : Nat) (DA : Option Addr) (m c i j k : Nat) (W : World) : Prop :=
  ∃ v, Boxed W (w.heap.size) 62 v ∧ W.ownsRow base 77 3 v S.length (ndcs S.reverse) ∧ Good S L M ∧ (v.ownBlock = v0.ownBlock ∨ ∃ g, v.ownBlock = some g ∧ w.heap.size ≤ g) ∧ w.grownBy W v0.ownBlock ∧
    W.heap[w.heap.size + 1]? = some (.cells #[.slice DA m c] 29 (0, 0)) ∧ W.heap[w.heap.size + 1 + 1]? = some (.cells #[.int .i64 (k : Nat)] 3 (0, 0)) ∧
    W.heap[w.heap.size + 1 + 1 + 1]? = some (.cells #[.int .i64 i] 3 (0, 0)) ∧ W.heap[w.heap.size + 1 + 1 + 1 + 1]? = some (.cells #[.int .i64 j] 3 (0, 0))
theorem PInv.kept {w W W' : World} {base : Nat} {v0 : Value} {S : List Nd} {L M : Nat} {DA : Option Addr} {m c i j k B : Nat} {row : Option Nat} (h : PInv w base v0 S L M DA m c i j k W) (hg : W.grownBy W' row)
    (hr : ∀ r, row = some r → B ≤ r ∧ ∃ o : Obj, W.heap[r]? = some o ∧ o.isCells = false) (hB : w.heap.size ≤ B) : PInv w base v0 S L M DA m c i j k W' := by
  obtain ⟨v, h1, h2, h3, h4, h5, h6, h7, h8, h9⟩ := h
  exact ⟨v, kept_cells hg hr h1, own_kept h2 hg hr, h3, h4, h5.andThen hg (fun r e => .inl (Nat.le_trans hB (hr r e).1)), kept_cells hg hr h6, kept_cells hg hr h7, kept_cells hg hr h8, kept_cells hg hr h9⟩

set_option maxRecDepth 100000 in
set_option maxHeartbeats 4000000 in
/-- digest.place -/
theorem place_k (base : Nat) (v0 : Value) (st : List Nd) (L M : Nat) (DA : Option Addr) (m c : Nat) (D : List Str) (i j : Nat) (hj : j ≤ 1099511627776) (w : World) (hown : w.ownsRow base 77 3 v0 st.length (ndcs st.reverse)) (hbase : base ≤ w.heap.size) (hgood : Good st L M)
    (hD : ∀ W, w.grownBy W v0.ownBlock → Strs W DA m c D) (hD8 : ∀ d ∈ D, d.length ≤ 8) (hN : (blocks i j).length ≤ D.length) (hN2 : (blocks i j).length ≤ 1000) (hL : L ≤ 1000000) (hM : M ≤ 1125899906842624) :
    Calls Try.prog 47 #[v0, .int .i64 i, .int .i64 j, .slice DA m c] w fun e w' => ∃ v, e = .returned v ∧ w'.ownsRow base 77 3 v (pushesW st (nodes (blocks i j) (D.take (blocks i j).length))).length (ndcs (pushesW st (nodes (blocks i j) (D.take (blocks i j).length))).reverse) ∧
      Good (pushesW st (nodes (blocks i j) (D.take (blocks i j).length))) (L + (blocks i j).length) (M + (blocks i j).length * 1099511627776) ∧ w.grownBy w' v0.ownBlock ∧ (v.ownBlock = v0.ownBlock ∨ ∃ g, v.ownBlock = some g ∧ w.heap.size ≤ g) := by
  obtain ⟨A0, c0, rfl, _⟩ := slice_of hown
  refine (callsIn_wide (n := 3)).1 ?_
  refine callsIn_of_wp_marks Try.func47 rfl trivial ?_ rfl
  simp only [Try.ntmps47, List.size_toArray, List.length_cons, List.length_nil, Nat.reduceAdd, Nat.reduceSub, Array.replicate_succ, Array.replicate_zero, List.push_toArray, List.append_toArray, List.nil_append, List.cons_append]
  gi_wp2_with (refine ⟨trivial, ?_⟩; gi_at_call 63; refine (callsIn_wide.2 (blocks_k _ _ _)).mono ?_; rintro e w' ⟨rfl, rfl⟩)
  have a1 := World.grownBy_alloc w (.cells #[(Value.slice A0 st.length c0)] 62) none
  have a2 := World.grownBy_alloc (w.alloc (.cells #[(Value.slice A0 st.length c0)] 62)) (.cells #[.slice DA m c] 29) none
  have a3 := World.grownBy_alloc ((w.alloc (.cells #[(Value.slice A0 st.length c0)] 62)).alloc (.cells #[.slice DA m c] 29)) (.cells #[.int .i64 0] 3) none
  have a4 := World.grownBy_alloc (((w.alloc (.cells #[(Value.slice A0 st.length c0)] 62)).alloc (.cells #[.slice DA m c] 29)).alloc (.cells #[.int .i64 0] 3)) (.cells #[.int .i64 i] 3) none
  have a5 := World.grownBy_alloc ((((w.alloc (.cells #[(Value.slice A0 st.length c0)] 62)).alloc (.cells #[.slice DA m c] 29)).alloc (.cells #[.int .i64 0] 3)).alloc (.cells #[.int .i64 i] 3)) (.cells #[.int .i64 j] 3) none
  have c1 := heap_alloc_new w (.cells #[(Value.slice A0 st.length c0)] 62)
  have c2 := heap_alloc_new (w.alloc (.cells #[(Value.slice A0 st.length c0)] 62)) (.cells #[.slice DA m c] 29)
  have c3 := heap_alloc_new ((w.alloc (.cells #[(Value.slice A0 st.length c0)] 62)).alloc (.cells #[.slice DA m c] 29)) (.cells #[.int .i64 0] 3)
  rw [World.size_alloc] at c2
  rw [World.size_alloc, World.size_alloc] at c3
  obtain ⟨h1, h2⟩ := two_boxes (((w.alloc (.cells #[(Value.slice A0 st.length c0)] 62)).alloc (.cells #[.slice DA m c] 29)).alloc (.cells #[.int .i64 0] 3)) i j
  rw [World.size_alloc, World.size_alloc, World.size_alloc] at h1 h2
  have g5 := (((a1.trans a2).trans a3).trans a4).trans a5
  have hsz : (((((w.alloc (.cells #[(Value.slice A0 st.length c0)] 62)).alloc (.cells #[.slice DA m c] 29)).alloc (.cells #[.int .i64 0] 3)).alloc (.cells #[.int .i64 i] 3)).alloc (.cells #[.int .i64 j] 3)).heap.size = w.heap.size + 5 := by simp
  have hI0 : PInv w base (Value.slice A0 st.length c0) st L M DA m c i j 0 (((((w.alloc (.cells #[(Value.slice A0 st.length c0)] 62)).alloc (.cells #[.slice DA m c] 29)).alloc (.cells #[.int .i64 0] 3)).alloc (.cells #[.int .i64 i] 3)).alloc (.cells #[.int .i64 j] 3)) := by
    refine ⟨(Value.slice A0 st.length c0), ?_, hown.kept g5 (Classical.em _), hgood, .inl rfl, grown_any g5 _, ?_, ?_, h1, h2⟩
    · exact ((((a2.trans a3).trans a4).trans a5).block _ (by simp) (by simp)).trans c1
    · exact (((a3.trans a4).trans a5).block _ (by simp) (by simp)).trans c2
    · exact ((a4.trans a5).block _ (by simp) (by simp)).trans c3
  clear a1 a2 a3 a4 a5 c1 c2 c3
  refine wpIn_rangeFunc_ownH rfl (by omega) (gf := 70) (lb := #[.pointer (some ⟨w.heap.size + 1 + 1 + 1, 0, none⟩), .pointer (some ⟨w.heap.size + 1 + 1 + 1 + 1, 0, none⟩)]) rfl trivial (enters_of Try.func70 (by kernel_rfl) rfl)
    (blocks_stopsM (w.heap.size + 1 + 1 + 1) (w.heap.size + 1 + 1 + 1 + 1) i j (by omega) _ h1 h2) keepB_t (keepB_b (by simp) (by simp)) (Below.refl _ _) (fun _ => rfl)
    (fun pre W => PInv w base (Value.slice A0 st.length c0) (pushesW st (nodes (pre.map Subtype.val) (D.take pre.length))) (L + pre.length) (M + pre.length * 1099511627776) DA m c i j pre.length W)
    (fun _ _ _ => False)
    ?own
    (fun _ _ _ _ _ hs _ _ => hs)
    (by simpa [nodes, pushesW] using hI0)
    (fun x a' W => ∃ bp, a' = { tmps := #[(Value.slice A0 st.length c0), .int .i64 i, .int .i64 j, .slice DA m c, .pointer (some ⟨w.heap.size, 0, none⟩), undef, undef, .pointer (some ⟨w.heap.size + 1, 0, none⟩), .slice none 0 0, .pointer (some ⟨w.heap.size + 1 + 1, 0, none⟩), .pointer (some ⟨bp, 0, none⟩), .int .i64 i, .int .i64 j,
      .func (.func 70) #[] #[.pointer (some ⟨w.heap.size + 1 + 1 + 1, 0, none⟩), .pointer (some ⟨w.heap.size + 1 + 1 + 1 + 1, 0, none⟩)], .agg #[.int .i64 (x.val.1 : Nat), .int .i64 (x.val.2 : Nat)], undef, undef, undef, undef, undef, undef, undef, undef, undef, undef, undef], defers := [] } ∧ W.heap[bp]? = some (.cells #[.int .i64 (x.val.1 : Nat), .int .i64 (x.val.2 : Nat)] 75 (0, 0)))
    ?ax ?assign ?body ?done ?stop
  case own =>
    intro pre W W' row h hg hr
    exact h.kept hg hr (by omega)
  case ax =>
    rintro x a' u W W' row ⟨bp, rfl, hb⟩ hg hr
    exact ⟨bp, rfl, kept_cells hg hr hb⟩
  case assign =>
    intro lv pre x W K hP hK
    have hga := World.grownBy_alloc W (.cells #[.int .i64 (x.val.1 : Nat), .int .i64 (x.val.2 : Nat)] 75) none
    have hfin := hK _ (W.alloc (.cells #[.int .i64 (x.val.1 : Nat), .int .i64 (x.val.2 : Nat)] 75)) ((others_of hga (.inl rfl)).from _) (keepB_none hga) (hP.kept hga (B := w.heap.size) (by simp) (Nat.le_refl _)) ⟨W.heap.size, rfl, heap_alloc_new _ _⟩
    clear hK
    unfold encB
    gi_wp2
    exact hfin
  case body =>
    rintro lv pre x a' W hlv hloop ⟨v, p1, p2, p3, p4, p5, p6, p7, p8, p9⟩ ⟨bp, rfl, hbp⟩ hlt
    obtain ⟨⟨x1, x2⟩, hmem⟩ := x
    simp only at hbp
    obtain ⟨m1, m2, m3⟩ := blocks_mem hmem
    simp only at m1 m2 m3
    have n0 : v.ownBlock ≠ some w.heap.size := own_not p2 p1 (by decide)
    have nb : v.ownBlock ≠ some bp := own_not p2 hbp (by decide)
    have n1 : v.ownBlock ≠ some (w.heap.size + 1) := own_not p2 p6 (by decide)
    have n2 : v.ownBlock ≠ some (w.heap.size + 1 + 1) := own_not p2 p7 (by decide)
    have n3 : v.ownBlock ≠ some (w.heap.size + 1 + 1 + 1) := own_not p2 p8 (by decide)
    have n4 : v.ownBlock ≠ some (w.heap.size + 1 + 1 + 1 + 1) := own_not p2 p9 (by decide)
    have hgw : ∀ W', W.grownBy W' v.ownBlock → w.grownBy W' (Value.slice A0 st.length c0).ownBlock := fun W' g => p5.andThen g (fun r e => by
      rcases p4 with h | ⟨g, h, hh⟩
      · right; rw [← h, e]
      · left; rw [h] at e; injection e with e; omega)
    have hDW := hD W p5
    have hpl : pre.length < D.length := by omega
    obtain ⟨d, hd⟩ : ∃ d, D[pre.length]? = some d := ⟨_, List.getElem?_eq_getElem hpl⟩
    have hd8 := hD8 d (List.mem_of_getElem? hd)
    obtain ⟨ad, rfl, _, _⟩ := hDW.cell (by have := hDW.len; omega)
    have hcap := hDW.le
    have e2 : (pre.length : Int) < (m : Int) := by have := hDW.len; omega
    have HlenD := Lib.hid hDW.len
    have hfine : Fine (pushesW st (nodes (pre.map Subtype.val) (D.take pre.length))) ⟨x1, x2, d⟩ := p3.fine (by omega) (by have := Nat.mul_le_mul_right 1099511627776 (show pre.length ≤ 1000 by omega); simp only; omega) m2 hd8 (by simp only; omega)
    have HS : Hid (∀ W', W.grownBy W' v.ownBlock → W'.cell? ⟨w.heap.size, 0, none⟩ = some v ∧ W'.cell? ⟨bp, 0, none⟩ = some (.int .i64 x1) ∧ W'.cell? ⟨bp, 1, none⟩ = some (.int .i64 x2) ∧ W'.cell? ⟨w.heap.size + 1, 0, none⟩ = some (.slice (some ad) m c) ∧ W'.cell? ⟨w.heap.size + 1 + 1, 0, none⟩ = some (.int .i64 pre.length) ∧ W'.cell? (ad.add pre.length) = some (.string ⟨d.toArray⟩) ∧ W.grownBy W' v.ownBlock) := by
      refine Lib.hid (fun W' g => ?_)
      have k0 := (g.block _ p1.lt (fun e => n0 e.symm)).trans p1
      have kb := (g.block _ (Array.getElem?_eq_some_iff.1 hbp).1 (fun e => nb e.symm)).trans hbp
      have k1 := (g.block _ (Array.getElem?_eq_some_iff.1 p6).1 (fun e => n1 e.symm)).trans p6
      have k2 := (g.block _ (Array.getElem?_eq_some_iff.1 p7).1 (fun e => n2 e.symm)).trans p7
      have hs := hD W' (hgw W' g)
      obtain ⟨ad', e, _, hc⟩ := hs.cell (by have := HlenD.out; omega)
      injection e with e
      subst e
      exact ⟨by simp [World.cell?, k0], by simp [World.cell?, kb], by simp [World.cell?, kb], by simp [World.cell?, k1], by simp [World.cell?, k2], hc _ _ hd, g⟩
    have g0 : W.grownBy W v.ownBlock := World.grownBy.refl _ _
    have e1 : (0 : Int) ≤ (pre.length : Int) := by omega
    have Hgw := Lib.hid hgw
    have HD := Lib.hid hD
    clear hgw hD hDW
    gi_wp2
    refine wpIn_region_held 8 (S := (fun W' => W'.cell? ⟨w.heap.size, 0, none⟩ = some v ∧ W'.cell? ⟨bp, 0, none⟩ = some (.int .i64 x1) ∧ W'.cell? ⟨bp, 1, none⟩ = some (.int .i64 x2) ∧ W'.cell? ⟨w.heap.size + 1, 0, none⟩ = some (.slice (some ad) m c) ∧ W'.cell? ⟨w.heap.size + 1 + 1, 0, none⟩ = some (.int .i64 pre.length) ∧ W'.cell? (ad.add pre.length) = some (.string ⟨d.toArray⟩) ∧ W.grownBy W' v.ownBlock)) (by kernel_rfl) ?_ (fun hHeld => ?_)
    · (try dsimp only); (first | (exact HS.out _ (by assumption)) | (exact HS.out _ (grown_drr (by assumption))))
    refine wpAnyInH_take (i := 0) (oi := _) (v := ?_) (by kernel_rfl) rfl (by kernel_rfl) (by kernel_rfl) (by kernel_rfl) (by kernel_rfl) (by kernel_rfl) (fun _ _ _ h => h) ⟨Or.inl ⟨by rfl, ?_⟩, fun _ _ => rfl⟩ (by assumption) ?_
    rotate_left 1
    · (intro w hSw; (try dsimp only at hSw); go_simp; first | done | with_reducible rfl)
    try go_simp
    refine wpAnyInH_take (i := 1) (oi := _) (v := ?_) (by kernel_rfl) rfl (by kernel_rfl) (by kernel_rfl) (by kernel_rfl) (by kernel_rfl) (by kernel_rfl) (fun _ _ _ h => h) ⟨Or.inl ⟨by rfl, ?_⟩, fun _ _ => rfl⟩ (by assumption) ?_
    rotate_left 1
    · (intro w hSw; (try dsimp only at hSw); go_simp; first | done | with_reducible rfl)
    try go_simp
    refine wpAnyInH_take (i := 2) (oi := _) (v := ?_) (by kernel_rfl) rfl (by kernel_rfl) (by kernel_rfl) (by kernel_rfl) (by kernel_rfl) (by kernel_rfl) (fun _ _ _ h => h) ⟨Or.inl ⟨by rfl, ?_⟩, fun _ _ => rfl⟩ (by assumption) ?_
    rotate_left 1
    · (intro w hSw; (try dsimp only at hSw); go_simp; first | done | with_reducible rfl)
    try go_simp
    refine wpAnyInH_take (i := 3) (oi := _) (v := ?_) (by kernel_rfl) rfl (by kernel_rfl) (by kernel_rfl) (by kernel_rfl) (by kernel_rfl) (by kernel_rfl) (fun _ _ _ h => h) ⟨Or.inl ⟨by rfl, ?_⟩, fun _ _ => rfl⟩ (by assumption) ?_
    rotate_left 1
    · (intro w hSw; (try dsimp only at hSw); go_simp; first | done | with_reducible rfl)
    try go_simp
    refine wpAnyInH_take (i := 4) (oi := _) (v := ?_) (by kernel_rfl) rfl (by kernel_rfl) (by kernel_rfl) (by kernel_rfl) (by kernel_rfl) (by kernel_rfl) (fun _ _ _ h => h) ⟨Or.inl ⟨by rfl, ?_⟩, fun _ _ => rfl⟩ (by assumption) ?_
    rotate_left 1
    · (intro w hSw; (try dsimp only at hSw); go_simp; first | done | with_reducible rfl)
    try go_simp
    refine wpAnyInH_take (i := 5) (oi := _) (v := ?_) (by kernel_rfl) rfl (by kernel_rfl) (by kernel_rfl) (by kernel_rfl) (by kernel_rfl) (by kernel_rfl) (fun _ _ _ h => h) ⟨Or.inl ⟨by rfl, ?_⟩, fun _ _ => rfl⟩ (by assumption) ?_
    rotate_left 1
    · (intro w hSw; (try dsimp only at hSw); go_simp; first | done | with_reducible rfl)
    try go_simp
    refine wpAnyInH_take (i := 6) (oi := _) (v := ?_) (by kernel_rfl) rfl (by kernel_rfl) (by kernel_rfl) (by kernel_rfl) (by kernel_rfl) (by kernel_rfl) (fun _ _ _ h => h) ⟨Or.inl ⟨by rfl, ?_⟩, fun _ _ => rfl⟩ (by assumption) ?_
    rotate_left 1
    · (intro w hSw; (try dsimp only at hSw); go_simp; first | done | with_reducible rfl)
    try go_simp
    refine wpAnyInH_one (i := 7) (o := _) (by kernel_rfl) rfl (fun K hK => ?_)
    go_simp
    refine ⟨trivial, (CallsIn.inRound lv (callsIn_wide.2 (add_k base v (pushesW st (nodes (pre.map Subtype.val) (D.take pre.length))) ⟨x1, x2, d⟩ W.drew p2.drew hfine (Nat.le_trans hbase p5.size)))).mono ?_⟩
    rintro e W3 ⟨v', rfl, o3, g3, l3⟩
    have gv3 : W.grownBy W3 v.ownBlock := (grown_drr g0).trans g3
    refine hK.out _ _ ?_ (fun hHeld => ?_)
    · (try dsimp only); (first | (exact HS.out _ (by assumption)) | (exact HS.out _ (grown_drr (by assumption))))
    clear hK K
    obtain ⟨A3, c3, rfl, _⟩ := slice_of o3
    generalize hS3 : pushW (pushesW st (nodes (pre.map Subtype.val) (D.take pre.length))) ⟨x1, x2, d⟩ = S3 at *
    have hb0 := (gv3.block _ p1.lt (fun e => n0 e.symm)).trans p1
    have hb1 := (gv3.block _ (Array.getElem?_eq_some_iff.1 p6).1 (fun e => n1 e.symm)).trans p6
    have hb2 := (gv3.block _ (Array.getElem?_eq_some_iff.1 p7).1 (fun e => n2 e.symm)).trans p7
    have hb3 := (gv3.block _ (Array.getElem?_eq_some_iff.1 p8).1 (fun e => n3 e.symm)).trans p8
    have hb4 := (gv3.block _ (Array.getElem?_eq_some_iff.1 p9).1 (fun e => n4 e.symm)).trans p9
    have f0 : W3.frozen? ⟨w.heap.size, 0, none⟩ = false := by simp [World.frozen?, hb0]
    have y0 : W3.cell? ⟨w.heap.size, 0, none⟩ = some v := by simp [World.cell?, hb0]
    refine wpAnyInH_last (k := 8) (o := _) (by kernel_rfl) rfl (fun K hK => ?_)
    go_simp
    have g4 := grow_cell W3 w.heap.size 0 (.slice A3 S3.length c3)
    have hc0 : Boxed (W3.setCell ⟨w.heap.size, 0, none⟩ (.slice A3 S3.length c3)) w.heap.size 62 (.slice A3 S3.length c3) := Boxed.set (v := v) _ hb0
    have k40 : KeepsOthers W3 (W3.setCell ⟨w.heap.size, 0, none⟩ (.slice A3 S3.length c3)) := KeepsOthers.setCell _ _ _
    have kb40 := keepB_set (Bi := w.heap.size + 1 + 1 + 1) (Bj := w.heap.size + 1 + 1 + 1 + 1) (.slice A3 S3.length c3) (show Boxed W3 w.heap.size 62 v from hb0) (by decide) (by omega) (by omega)
    have o4 := o3.kept g4 (.inr (own_not o3 hb0 (by decide)))
    refine hK.out _ _ ?_
    clear hK K y0 f0
    generalize W3.setCell ⟨w.heap.size, 0, none⟩ (.slice A3 S3.length c3) = W4 at *
    have hc1 := (g4.block _ (Array.getElem?_eq_some_iff.1 hb1).1 (by intro e; injection e with e; omega)).trans hb1
    have hc2 := (g4.block _ (Array.getElem?_eq_some_iff.1 hb2).1 (by intro e; injection e with e; omega)).trans hb2
    have hc3 := (g4.block _ (Array.getElem?_eq_some_iff.1 hb3).1 (by intro e; injection e with e; omega)).trans hb3
    have hc4 := (g4.block _ (Array.getElem?_eq_some_iff.1 hb4).1 (by intro e; injection e with e; omega)).trans hb4
    have f2 : W4.frozen? ⟨w.heap.size + 1 + 1, 0, none⟩ = false := by simp [World.frozen?, hc2]
    have y2 : W4.cell? ⟨w.heap.size + 1 + 1, 0, none⟩ = some (.int .i64 pre.length) := by simp [World.cell?, hc2]
    have gw3 : w.grownBy W3 (Value.slice A0 st.length c0).ownBlock := Hgw.out W3 gv3
    have gw4 := gw3.andThen g4 (fun r e => .inl (by injection e with e; omega))
    have hg1 := pushW_good (pushesW st (nodes (pre.map Subtype.val) (D.take pre.length))) ⟨x1, x2, d⟩ _ _ p3 m2 hd8 (by simp only; omega)
    rw [hS3] at hg1
    have hg2 : Good S3 (L + (pre.length + 1)) (M + (pre.length + 1) * 1099511627776) := ⟨by have := hg1.len; omega, by have := hg1.sum; simp only at this; omega, hg1.all⟩
    have hS : pushesW st (nodes ((pre ++ [(⟨(x1, x2), hmem⟩ : {b : Nat × Nat // b ∈ blocks i j})]).map Subtype.val) (D.take (pre.length + 1))) = S3 := by
      rw [take_one D pre.length d hd, List.map_append, List.map_cons, List.map_nil, nodes_snoc _ _ _ _ (by simp; omega), pushesW_snoc]
      exact hS3
    have l4 : (Value.slice A3 S3.length c3).ownBlock = (Value.slice A0 st.length c0).ownBlock ∨ ∃ g, (Value.slice A3 S3.length c3).ownBlock = some g ∧ w.heap.size ≤ g := by
      rcases l3 with h | ⟨g, h, hh⟩
      · rw [h]; exact p4
      · exact .inr ⟨g, h, Nat.le_trans p5.size hh⟩
    have g5' := grow_cell W4 (w.heap.size + 1 + 1) 0 (.int .i64 ((pre.length : Int) + 1))
    have hf : KeepsFrom (w.heap.size + 5) W (W4.setCell ⟨w.heap.size + 1 + 1, 0, none⟩ (.int .i64 ((pre.length : Int) + 1))) :=
      ((((others_of gv3 (by rcases own_form p2 with h | ⟨g, cs, fr, h, hc⟩; exact .inl h; exact .inr ⟨g, cs, 77, fr, h, hc⟩)).from _).trans (k40.from _))).trans ((KeepsOthers.setCell _ _ _).from _)
    have hk : KeepB (w.heap.size + 1 + 1 + 1) (w.heap.size + 1 + 1 + 1 + 1) W (W4.setCell ⟨w.heap.size + 1 + 1, 0, none⟩ (.int .i64 ((pre.length : Int) + 1))) :=
      keepB_t (keepB_t (keepB_own p2 gv3 (by decide) p8 p9 (by decide)) kb40) (keepB_set _ (show Boxed W4 (w.heap.size + 1 + 1) 3 (.int .i64 pre.length) from hc2) (by decide) (by omega) (by omega))
    have hP : PInv w base (Value.slice A0 st.length c0) (pushesW st (nodes ((pre ++ [(⟨(x1, x2), hmem⟩ : {b : Nat × Nat // b ∈ blocks i j})]).map Subtype.val) (D.take (pre ++ [(⟨(x1, x2), hmem⟩ : {b : Nat × Nat // b ∈ blocks i j})]).length))) (L + (pre ++ [(⟨(x1, x2), hmem⟩ : {b : Nat × Nat // b ∈ blocks i j})]).length) (M + (pre ++ [(⟨(x1, x2), hmem⟩ : {b : Nat × Nat // b ∈ blocks i j})]).length * 1099511627776) (some ad) m c i j (pre ++ [(⟨(x1, x2), hmem⟩ : {b : Nat × Nat // b ∈ blocks i j})]).length (W4.setCell ⟨w.heap.size + 1 + 1, 0, none⟩ (.int .i64 ((pre.length : Int) + 1))) := by
      rw [show (pre ++ [(⟨(x1, x2), hmem⟩ : {b : Nat × Nat // b ∈ blocks i j})]).length = pre.length + 1 by simp, hS]
      refine ⟨_, hc0.kept g5' (by intro e; injection e with e; omega), o4.kept g5' (.inr (own_not o4 hc2 (by decide))), hg2, l4, gw4.andThen g5' (fun r e => .inl (by injection e with e; omega)), (g5'.block _ (Array.getElem?_eq_some_iff.1 hc1).1 (by intro e; injection e with e; omega)).trans hc1, ?_, (g5'.block _ (Array.getElem?_eq_some_iff.1 hc3).1 (by intro e; injection e with e; omega)).trans hc3, (g5'.block _ (Array.getElem?_eq_some_iff.1 hc4).1 (by intro e; injection e with e; omega)).trans hc4⟩
      have := Go.heap_setCell_same W4 (w.heap.size + 1 + 1) 0 _ 3 (.int .i64 ((pre.length : Int) + 1)) hc2
      simpa using this
    have Hend := Lib.hid (And.intro hf (And.intro hk hP))
    clear hf hk hP
    have w1 : IntKind.i64.wrap ((pre.length : Int) + 1) = (pre.length : Int) + 1 := by rw [IntKind.wrap_i64]; omega
    refine wpAnyInH_done (by kernel_rfl) ?_ _
    go_simp
    gi_wp2
    have hend := Hend.out
    exact ⟨hend.1, hend.2.1, hend.2.2⟩
  case done =>
    rintro E ys W hE hys ⟨v, p1, p2, p3, p4, p5, p6, p7, p8, p9⟩ hK
    have hlen : ys.length = (blocks i j).length := by have := congrArg List.length hys; simpa using this
    rw [hlen] at p2 p3
    rw [show nodes (ys.map Subtype.val) (D.take (blocks i j).length) = nodes (blocks i j) (D.take (blocks i j).length) from congrArg (fun z => nodes z (D.take (blocks i j).length)) hys] at p2 p3
    have hc := p1.cell
    clear hys
    gi_wp2
    refine ⟨by simp, .inl ⟨_, _, rfl, run_takeDeferred hK, ?_⟩⟩
    have hgp := fun o' => grownBy_putObj' W E o'
    refine ⟨_, results_tmp rfl _ _ _, v, rfl, own_kept (B := 0) p2 (hgp _) (fun r e => ?_), p3, p5.andThen (hgp _) (fun r e => ?_), p4⟩
    · cases e
      exact ⟨Nat.zero_le _, _, hK, rfl⟩
    · cases e
      left; omega
  case stop =>
    rintro E c' pre W _ _ h _
    exact h.elim
end Go.Proofs.Ytljjmoeplfcblaa
