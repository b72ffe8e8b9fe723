/-
  key.Current, by its range over slices.Backward.
-/
import Derived.Test.YtecobgjkodmaiaaDoorCur
namespace Go.Proofs.YtecobgjkodmaiaaDoor
open Go.RowKit Go.Shelf
attribute [local go_sem] get_mk extract_mk Oper.semAt_some
theorem kept_cells {W W' : World} {row : Option Nat} {B b : Nat} {cs : Array Value} {t : TypeId} {fr : Nat × Nat} (hg : W.grownBy W' row) (hr : ∀ r, row = some r → B ≤ r ∧ ∃ o : Obj, W.heap[r]? = some o ∧ o.isCells = false) (h : W.heap[b]? = some (.cells cs t fr)) :
    W'.heap[b]? = some (.cells cs t fr) := by
  refine (hg.block b (Array.getElem?_eq_some_iff.1 h).1 ?_).trans h
  intro e
  obtain ⟨_, o, ho, hc⟩ := hr b e.symm
  rw [h] at ho
  cases ho
  cases hc
theorem others_none {W W' : World} (hg : W.grownBy W' none) : KeepsOthers W W' :=
  ⟨hg.size, fun k o hk _ => (hg.block k (Array.getElem?_eq_some_iff.1 hk).1 (by simp)).trans hk⟩
theorem below_weak {n : Nat} {W W' : World} (h : W.grownBy W' none) (hn : n ≤ W.heap.size) : Below n W W' := ⟨h.os, h.tape, h.output, h.size, fun i hi => h.block i (by omega) (by simp)⟩
/-- what the iterator hands to a round: an index, and a key -/
abbrev EK := { p : Int × K // p.2.ok }
def encE (x : EK) : Array Value := #[.int .i64 x.val.1, .agg #[.int .i64 x.val.2.id, .string ⟨x.val.2.sec.toArray⟩, .int .i64 x.val.2.frm, .int .i64 x.val.2.stl]]
theorem K0_ok : K0.ok := by unfold K0 K.ok i64; simp
def el (l : List K) (h : ∀ x ∈ l, x.ok) (j : Nat) : EK := if hj : l.length - 1 - j < l.length then ⟨(((l.length - 1 - j : Nat) : Int), l[l.length - 1 - j]), h _ (List.getElem_mem hj)⟩ else ⟨(0, K0), K0_ok⟩
def upto (f : Nat → EK) (k : Nat) : List EK := (List.range k).map f
theorem upto_succ (f : Nat → EK) (k : Nat) : upto f (k + 1) = upto f k ++ [f k] := by simp [upto, List.range_succ]
theorem upto_length (f : Nat → EK) (k : Nat) : (upto f k).length = k := by simp [upto]
theorem el_at {l : List K} {h : ∀ x ∈ l, x.ok} {j k : Nat} {x : K} (hk : k + 1 + j = l.length) (hx : l[k]? = some x) : el l h j = ⟨((k : Int), x), h x (List.mem_of_getElem? hx)⟩ := by
  have e : l.length - 1 - j = k := by omega
  obtain ⟨hlt, rfl⟩ := List.getElem?_eq_some_iff.1 hx
  unfold el
  rw [dif_pos (by omega)]
  subst e
  rfl
theorem upto_rev (l : List K) (h : ∀ x ∈ l, x.ok) : ∀ k, k ≤ l.length → (upto (el l h) k).map (fun p => p.val.2) = l.reverse.take k
  | 0, _ => by simp [upto]
  | k + 1, hk => by
    obtain ⟨x, hx⟩ : ∃ x, l[l.length - 1 - k]? = some x := ⟨_, List.getElem?_eq_getElem (by omega)⟩
    have hr : l.reverse[k]? = some x := by rw [List.getElem?_reverse (by omega), ← hx]
    rw [upto_succ, List.map_append, upto_rev l h k (by omega), take_one l.reverse k x hr, el_at (k := l.length - 1 - k) (by omega) hx]
    rfl
theorem back_k (A : Option Addr) (n c : Nat) (w : World) : Calls Tryd.prog 40 #[.slice A n c] w fun e w' => e = .returned (.func (.func 52) #[] #[.pointer (some ⟨w.heap.size, 0, none⟩)]) ∧ w' = w.alloc (.cells #[.slice A n c] 32) := by
  go_enter Tryd.func40, Tryd.ntmps40
  go_wp2
  go_ret
  exact ⟨rfl, rfl⟩
/-- the keys lie below n₀ -/
def KeysB (n₀ : Nat) (w : World) (A : Option Addr) (n c : Nat) (l : List K) : Prop := Keys w A n c l ∧ ∀ ad, A = some ad → 0 < n → ad.block < n₀
theorem KeysB.below {n₀ : Nat} {w w' : World} {A : Option Addr} {n c : Nat} {l : List K} (h : KeysB n₀ w A n c l) (g : Below n₀ w w') : KeysB n₀ w' A n c l := by
  refine ⟨⟨h.1.len, h.1.le, h.1.cap, h.1.nil, h.1.ok, fun hn => ?_⟩, h.2⟩
  obtain ⟨ad, e, hb, hc⟩ := h.1.cell hn
  refine ⟨ad, e, Nat.lt_of_lt_of_le hb g.size, fun j x hj i v hv => ?_⟩
  exact (g.cell (p := (ad.add (j * 4)).add i) (by rw [add_block, add_block]; exact h.2 ad e hn)).trans (hc j x hj i v hv)
set_option maxRecDepth 100000 in
set_option maxHeartbeats 2000000 in
/-- THE ITERATOR: for every loop body that leaves alone what lay below n₀. -/
theorem back_stops (Bs n₀ : Nat) (A : Option Addr) (n c : Nat) (l : List K) (h : ∀ x ∈ l, x.ok) (w : World) (hBs : Bs < n₀) (hn₀ : n₀ ≤ w.heap.size) (hc : w.cell? ⟨Bs, 0, none⟩ = some (.slice A n c)) (hk : KeysB n₀ w A n c l) :
    SeqStopsK Fence.wide (3 - 1) Tryd.prog 52 #[.pointer (some ⟨Bs, 0, none⟩)] encE (Below n₀) (fun ys => ys = upto (el l h) n) (fun pre => ∃ k, k ≤ n ∧ pre = upto (el l h) k) n w := fun lv J Jx W hW hJ _ hY h0 => by
  have HL := Lib.hid hk.1.len
  have hle := hk.1.le
  have hcap := hk.1.cap
  have hcW := (hW.cell (p := ⟨Bs, 0, none⟩) (by show Bs < w.heap.size; omega)).trans hc
  have HK := Lib.hid (hk.below (hW.mono hn₀))
  have hwn : IntKind.i64.wrap ((n : Int) - 1) = (n : Int) - 1 := by rw [IntKind.wrap_i64]; omega
  clear hk hc hW hJ
  refine callsIn_of_wp Tryd.func52 rfl trivial ?_ rfl
  simp only [Tryd.ntmps52, List.size_toArray, List.length_cons, List.length_nil, Nat.reduceAdd, Nat.reduceSub, Array.replicate_succ, Array.replicate_zero, List.push_toArray, List.append_toArray, List.nil_append, List.cons_append]
  gi_wp2
  gi_loopw [3] (fun i wr => ∃ k j : Nat, k + j = n ∧ i = .int .i64 ((k : Int) - 1) ∧ J (upto (el l h) j) wr ∧ Below n₀ W wr)
    (fun i _ => (intOf i + 1).toNat)
  case atStart => exact ⟨n, 0, rfl, by go_num, h0, Below.refl _ _⟩
  case round =>
    obtain ⟨k, j, hkj, rfl, hJs, hnx⟩ := hrel
    have hcx := (hnx.cell (p := ⟨Bs, 0, none⟩) hBs).trans hcW
    cases k with
    | zero =>
      obtain rfl : j = n := by omega
      gi_wp2
      go_end0
      exact ⟨⟨_, rfl⟩, .inl ⟨_, rfl, hJs⟩⟩
    | succ k =>
      have hji : ((k + 1 : Nat) : Int) - 1 = (k : Int) := by omega
      rw [hji]
      obtain ⟨ad, x, hx, rfl, hbl, ⟨o1, o2, o3, o4⟩, x0, x1, x2, x3⟩ := (HK.out.below hnx).1.at k (by omega)
      have he := el_at (h := h) (j := j) (k := k) (by have := HL.out; omega) hx
      obtain ⟨fn, tmps, assign, body, hy, hR⟩ := hY _ (el l h j) wr hJs (by rw [upto_length]; omega)
      rw [he] at hy
      unfold encE at hy
      dsimp only at hy
      have hkn : k < n := by omega
      clear hji
      gi_wp2
      refine hR.mono ?_
      rintro e W3 (⟨rfl, hJ3, hk3⟩ | ⟨rfl, hJx3⟩)
      · have hw2 : IntKind.i64.wrap ((k : Int) - 1) = (k : Int) - 1 := by rw [IntKind.wrap_i64]; omega
        gi_wp2
        go_roundw
        case rel => exact ⟨k, j + 1, by omega, by go_num, by rw [upto_succ]; exact hJ3, hnx.trans hk3⟩
        case measure => first | (simp [intOf]; done) | (simp [intOf]; omega)
      · gi_wp2
        refine bodyPost_ret (results_none rfl _ _ _) rfl ?_
        exact ⟨⟨_, rfl⟩, .inr ⟨_, ⟨j + 1, by omega, (upto_succ _ _).symm⟩, hJx3⟩⟩
def CurIx (B2 B3 : Nat) (day : Int) (w : World) (c : Code) (pre : List EK) (W : World) : Prop := c = .ret ∧ (∃ ini last, pre = ini ++ [last] ∧ (∀ p ∈ ini, curP day p.val.2 = false) ∧ curP day last.val.2 = true ∧ W.cell? ⟨B2, 0, none⟩ = some (.int .i64 last.val.2.id) ∧ W.cell? ⟨B3, 0, none⟩ = some (.bool true)) ∧ Below w.heap.size w W
set_option maxRecDepth 100000 in
set_option maxHeartbeats 4000000 in
/-- key.Current -/
theorem current_k (s : Int) (A : Option Addr) (n c : Nat) (l : List K) (day : Int) (hday : i64 day) (w : World) (hk : Keys w A n c l) :
    Calls Tryd.prog 18 #[.agg #[.int .i64 s, .slice A n c], .int .i64 day] w fun e w' => e = .returned (.tuple #[.int .i64 (curI l day), .bool (curB l day)]) ∧ w.grownBy w' none := by
  have hok := hk.ok
  obtain ⟨w1, e1, H0, g1⟩ := row_of w 34 #[.int .i64 s, .slice A n c]
  obtain ⟨w2, e2, H1, g2⟩ := row_of w1 3 #[.int .i64 day]
  obtain ⟨w3, e3, H2, g3⟩ := row_of w2 3 #[.int .i64 0]
  obtain ⟨w4, e4, H3, g4⟩ := row_of w3 4 #[.bool false]
  obtain ⟨w5, e5, H4, g5⟩ := row_of w4 32 #[.slice A n c]
  have hs1 : w1.heap.size = w.heap.size + 1 := by rw [e1]; simp
  have hs2 : w2.heap.size = w.heap.size + 1 + 1 := by rw [e2]; simp [hs1]
  have hs3 : w3.heap.size = w.heap.size + 1 + 1 + 1 := by rw [e3]; simp [hs2]
  have hs4 : w4.heap.size = w.heap.size + 1 + 1 + 1 + 1 := by rw [e4]; simp [hs3]
  have hs5 : w5.heap.size = w.heap.size + 1 + 1 + 1 + 1 + 1 := by rw [e5]; simp [hs4]
  have E4 : (((w.alloc (.cells #[.int .i64 s, .slice A n c] 34)).alloc (.cells #[.int .i64 day] 3)).alloc (.cells #[.int .i64 0] 3)).alloc (.cells #[.bool false] 4) = w4 := by rw [e4, e3, e2, e1]
  have gg := (((g1.trans g2).trans g3).trans g4).trans g5
  have b1 : w4.cell? ⟨w.heap.size, 1, none⟩ = some (.slice A n c) := (H0.kept ((g2.trans g3).trans g4)).c 1 rfl
  replace H1 := H1.kept ((g3.trans g4).trans g5)
  replace H2 := H2.kept (g4.trans g5)
  replace H3 := H3.kept g5
  rw [hs1] at H1
  rw [hs2] at H2
  rw [hs3] at H3
  rw [hs4] at H4
  have E4h := Lib.hid E4
  have E5h := Lib.hid e5
  have hkb : KeysB w5.heap.size w5 A n c l := ⟨hk.kept gg, fun ad e hn => by
    obtain ⟨ad', e', hb, _⟩ := hk.cell hn
    rw [e] at e'
    injection e' with e'
    subst e'
    have := gg.size
    omega⟩
  have HL := Lib.hid hk.len
  have hB0 : Below w.heap.size w w5 := below_weak gg (Nat.le_refl _)
  clear E4 e1 e2 e3 e4 e5 g1 g2 g3 g4 g5 H0
  refine (callsIn_wide (n := 3)).1 ?_
  refine callsIn_of_wp_marks Tryd.func18 rfl trivial ?_ rfl
  simp only [Tryd.ntmps18, List.size_toArray, List.length_cons, List.length_nil, Nat.reduceAdd, Nat.reduceSub, Array.replicate_succ, Array.replicate_zero, List.push_toArray, List.append_toArray, List.nil_append, List.cons_append]
  gi_wp2_with (refine ⟨trivial, ?_⟩; gi_at_call 40; rw [E4h.out]; refine (callsIn_wide.2 (back_k _ _ _ _)).mono ?_; rintro e w' ⟨rfl, rfl⟩; rw [← E5h.out, hs4])
  clear E4h E5h hs1 hs2 hs3 hs4 b1
  obtain ⟨B0, hb0⟩ : ∃ B0, w.heap.size = B0 := ⟨_, rfl⟩
  obtain ⟨B1, hb1⟩ : ∃ B1, w.heap.size + 1 = B1 := ⟨_, rfl⟩
  obtain ⟨B2, hb2⟩ : ∃ B2, w.heap.size + 1 + 1 = B2 := ⟨_, rfl⟩
  obtain ⟨B3, hb3⟩ : ∃ B3, w.heap.size + 1 + 1 + 1 = B3 := ⟨_, rfl⟩
  obtain ⟨B4, hb4⟩ : ∃ B4, w.heap.size + 1 + 1 + 1 + 1 = B4 := ⟨_, rfl⟩
  rw [hb4] at H4
  rw [hb3] at H3
  rw [hb2] at H2
  rw [hb1] at H1
  rw [hb4, hb3, hb2, hb1, hb0]
  have hwB : w5.heap.size = w.heap.size + 1 + 1 + 1 + 1 + 1 := hs5
  refine wpIn_rangeFunc_ownH rfl (by omega) (gf := 52) (lb := #[.pointer (some ⟨B4, 0, none⟩)]) rfl trivial (enters_of Tryd.func52 (by kernel_rfl) rfl)
    (back_stops B4 w5.heap.size A n c l hok w5 (by omega) (Nat.le_refl _) (H4.c 0 rfl) hkb) belowK_t (belowK_b (Nat.le_refl _)) (Below.refl _ _) (fun _ => rfl)
    (fun pre W => (∀ p ∈ pre, curP day p.val.2 = false) ∧ Below w5.heap.size w5 W)
    (CurIx B2 B3 day w)
    (OwnFrom.and (ownFrom_pure _ _) (ownFrom_below (Nat.le_refl _) (Nat.le_refl _)))
    ?ownx
    ⟨(fun p h => by cases h), Below.refl _ _⟩
    (fun x a' W => ∃ bp, a' = { tmps := #[.agg #[.int .i64 s, .slice A n c], .int .i64 day, .pointer (some ⟨B0, 0, none⟩), .pointer (some ⟨B1, 0, none⟩), .pointer (some ⟨B2, 0, none⟩), .pointer (some ⟨B3, 0, none⟩), undef, .pointer (some ⟨bp, 0, none⟩), .pointer (some ⟨B0, 1, none⟩), .slice A n c, .func (.func 52) #[] #[.pointer (some ⟨B4, 0, none⟩)], .int .i64 x.val.1, .agg #[.int .i64 x.val.2.id, .string ⟨x.val.2.sec.toArray⟩, .int .i64 x.val.2.frm, .int .i64 x.val.2.stl], undef, undef, undef, undef, undef, undef, undef, undef, undef, undef, undef, undef], defers := [] } ∧ W.heap[bp]? = some (.cells #[.int .i64 x.val.2.id, .string ⟨x.val.2.sec.toArray⟩, .int .i64 x.val.2.frm, .int .i64 x.val.2.stl] 28 (0, 0)))
    ?ax ?assign ?body ?done ?stop
  case ownx =>
    intro cd pre W W' row h hg hr
    obtain ⟨e0, ⟨ini, last, e1, e2, e3, e4, e5⟩, hB⟩ := h
    have hr2 : ∀ r, row = some r → ∃ o : Obj, W.heap[r]? = some o ∧ o.isCells = false := fun r e => (hr r e).2
    exact ⟨e0, ⟨ini, last, e1, e2, e3, cell_kept e4 hg hr2, cell_kept e5 hg hr2⟩, hB.grown hg (hB.size) (fun k e => by have := (hr k e).1; omega)⟩
  case ax =>
    rintro x a' u W W' row ⟨bp, rfl, hb⟩ hg hr
    exact ⟨bp, rfl, kept_cells hg hr hb⟩
  case assign =>
    rintro lv pre x W K hP hK
    have hga := World.grownBy_alloc W (.cells #[.int .i64 x.val.2.id, .string ⟨x.val.2.sec.toArray⟩, .int .i64 x.val.2.frm, .int .i64 x.val.2.stl] 28) none
    have hfin := hK _ (W.alloc (.cells #[.int .i64 x.val.2.id, .string ⟨x.val.2.sec.toArray⟩, .int .i64 x.val.2.frm, .int .i64 x.val.2.stl] 28)) ((others_none hga).from _) (below_weak hga hP.2.size) ⟨hP.1, hP.2.trans (below_weak hga hP.2.size)⟩ ⟨W.heap.size, rfl, World.alloc_heap_new _ _⟩
    clear hK
    unfold encE
    gi_wp2
    exact hfin
  case body =>
    rintro lv pre ⟨⟨xi, xk⟩, xok⟩ a' W hlv hloop ⟨hp, hB⟩ ⟨bp, rfl, hbp⟩ hlt
    obtain ⟨i, sc, f, t⟩ := xk
    obtain ⟨o1, o2, o3, o4⟩ := xok
    obtain ⟨p1, p2⟩ := id o2
    obtain ⟨d1, d2⟩ := id hday
    have hW5 := hB.size
    have HBW : Below w.heap.size w W := hB0.trans (hB.mono (by omega))
    have Q1 : Row W B1 3 #[.int .i64 day] := (hB.block B1 (by omega)).trans H1
    have Q2 : Row W B2 3 #[.int .i64 0] := (hB.block B2 (by omega)).trans H2
    have Q3 : Row W B3 4 #[.bool false] := (hB.block B3 (by omega)).trans H3
    have QB : Row W bp 28 #[.int .i64 i, .string ⟨sc.toArray⟩, .int .i64 f, .int .i64 t] := hbp
    have c1 : W.cell? ⟨B1, 0, none⟩ = some (.int .i64 day) := Q1.c 0 rfl
    have z0 : W.cell? ⟨bp, 0, none⟩ = some (.int .i64 i) := QB.c 0 rfl
    have z1 : W.cell? ⟨bp, 1, none⟩ = some (.string ⟨sc.toArray⟩) := QB.c 1 rfl
    have z2 : W.cell? ⟨bp, 2, none⟩ = some (.int .i64 f) := QB.c 2 rfl
    have z3 : W.cell? ⟨bp, 3, none⟩ = some (.int .i64 t) := QB.c 3 rfl
    have h1n : 1 ≤ 3 - 1 - 1 := by omega
    have HBH := Lib.hid hB
    have HBWH := Lib.hid HBW
    have HP := Lib.hid hp
    have h23 : B2 ≠ B3 := by omega
    have h2w : w.heap.size ≤ B2 := by omega
    have h3w : w.heap.size ≤ B3 := by omega
    clear hB HBW hbp Q1 hp
    by_cases c0 : f ≤ day
    · have h0 : decide (f ≤ day) = true := by simpa using c0
      have K41 := Lib.hid (stolen_k i sc f t day o3 hday)
      by_cases hst : stolenB ⟨i, sc, f, t⟩ day = true
      · rw [hst] at K41
        have HNO : Hid (curP day ⟨i, sc, f, t⟩ = false) := Lib.hid (by simp [curP, hst])
        clear c0 hst Q2 Q3
        gi_wp2_with (refine ⟨trivial, ?_⟩; gi_at_call 41; refine (CallsIn.inRound lv (callsIn_wide.2 (K41.out _))).mono ?_; rintro e w8 ⟨rfl, g8⟩)
        exact ⟨(others_none g8).from _, below_weak g8 hW5, ⟨fun p hp' => (List.mem_append.1 hp').elim (HP.out p) (fun e => by rw [List.mem_singleton.1 e]; exact HNO.out), HBH.out.trans (below_weak g8 hW5)⟩⟩
      · have hsf : stolenB ⟨i, sc, f, t⟩ day = false := by simpa using hst
        rw [hsf] at K41
        have HYES : Hid (curP day ⟨i, sc, f, t⟩ = true) := Lib.hid (by simp [curP, hsf, c0])
        clear c0 hst hsf
        gi_wp2_with (refine ⟨trivial, ?_⟩; gi_at_call 41; refine (CallsIn.inRound lv (callsIn_wide.2 (K41.out _))).mono ?_; rintro e w8 ⟨rfl, g8⟩; replace Q2 := Q2.kept g8; replace Q3 := Q3.kept g8; have y0 : w8.cell? ⟨bp, 0, none⟩ = some (.int .i64 i) := gcell g8 z0; have k2 : w8.cell? ⟨B2, 0, none⟩ = some (.int .i64 0) := Q2.c 0 rfl; have k3 : w8.cell? ⟨B3, 0, none⟩ = some (.bool false) := Q3.c 0 rfl; have f2 := Q2.fz 0; have f3 := Q3.fz 0; have l2 := Q2.lt; have l3 := Q3.lt)
        have R2 : Row _ B2 3 #[.int .i64 i] := (Q2.set 0 (.int .i64 i)).far (o := B3) (i := 0) (v := .bool true) h23
        have R3 : Row _ B3 4 #[.bool true] := (Q3.far (o := B2) (i := 0) (v := .int .i64 i) h23.symm).set 0 (.bool true)
        exact ⟨((others_none g8).trans ((KeepsOthers.setCell _ _ _).trans (KeepsOthers.setCell _ _ _))).from _, rfl, ⟨pre, _, rfl, HP.out, HYES.out, R2.c 0 rfl, R3.c 0 rfl⟩, ((HBWH.out.trans (below_weak g8 (HBWH.out.size))).setCell (p := ⟨B2, 0, none⟩) h2w _).setCell (p := ⟨B3, 0, none⟩) h3w _⟩
    · have h0 : decide (f ≤ day) = false := by simpa using c0
      have HNO : Hid (curP day ⟨i, sc, f, t⟩ = false) := Lib.hid (by simp [curP, c0])
      clear c0 Q2 Q3
      gi_wp2
      refine ⟨trivial, ?_⟩
      gi_wp2
      exact ⟨KeepsFrom.refl _ _, Below.refl _ _, ⟨fun p hp' => (List.mem_append.1 hp').elim (HP.out p) (fun e => by rw [List.mem_singleton.1 e]; exact HNO.out), HBH.out⟩⟩
  case done =>
    rintro D ys W hD rfl ⟨hp, hB⟩ hK
    have HC : Hid (curO l day = none) := Lib.hid (curO_none (fun y hy => by
      have hm := upto_rev l hok n (by rw [HL.out]; exact Nat.le_refl _)
      rw [HL.out, ← List.length_reverse, List.take_length] at hm
      rw [← hm] at hy
      obtain ⟨p, hpm, rfl⟩ := List.mem_map.1 hy
      exact hp p (by rw [HL.out]; simpa using hpm)))
    have Q2 : Row W B2 3 #[.int .i64 0] := (hB.block B2 (by omega)).trans H2
    have Q3 : Row W B3 4 #[.bool false] := (hB.block B3 (by omega)).trans H3
    have k2 : W.cell? ⟨B2, 0, none⟩ = some (.int .i64 0) := Q2.c 0 rfl
    have k3 : W.cell? ⟨B3, 0, none⟩ = some (.bool false) := Q3.c 0 rfl
    have f2 := Q2.fz 0
    have f3 := Q3.fz 0
    have h23 : B2 ≠ B3 := by omega
    have l2 := Q2.lt
    have l3 := Q3.lt
    have R2 : Row _ B2 3 #[.int .i64 0] := (Q2.set 0 (.int .i64 0)).far (o := B3) (i := 0) (v := .bool false) h23
    have R3 : Row _ B3 4 #[.bool false] := (Q3.far (o := B2) (i := 0) (v := .int .i64 0) h23.symm).set 0 (.bool false)
    have HBW : Below w.heap.size w W := hB0.trans (hB.mono (by omega))
    have HW2 := (HBW.setCell (p := ⟨B2, 0, none⟩) (show w.heap.size ≤ B2 by omega) (.int .i64 0)).setCell (p := ⟨B3, 0, none⟩) (show w.heap.size ≤ B3 by omega) (.bool false)
    have hK2 := ((KeepsOthers.setCell W ⟨B2, 0, none⟩ (.int .i64 0)).trans (KeepsOthers.setCell _ ⟨B3, 0, none⟩ (.bool false))).same D _ hK rfl
    clear hB hp HBW hK
    gi_wp2
    refine ⟨by simp, .inl ⟨_, _, rfl, run_takeDeferred hK2, ?_⟩⟩
    have hc4 := cell_kept (R2.c 0 rfl) (grownBy_putObj' _ D (.deferred none)) (fun r e => by cases e; exact ⟨_, hK2, rfl⟩)
    have hc5 := cell_kept (R3.c 0 rfl) (grownBy_putObj' _ D (.deferred none)) (fun r e => by cases e; exact ⟨_, hK2, rfl⟩)
    refine ⟨.tuple #[.int .i64 0, .bool false], ?_, by unfold curI curB; rw [HC.out]; rfl, grown_of_below (HW2.trans (belowK_b (w := w) (Nat.le_refl _) _ D _ _ (by omega) hK2 rfl rfl))⟩
    simp [results, Tryd.f18, go_sem, hc4, hc5]
  case stop =>
    rintro D cd pre W hD ⟨k, hk2, rfl⟩ ⟨rfl, ⟨ini, last, e1, e2, e3, e4, e5⟩, hB⟩ hK
    have HC : Hid (curO l day = some last.val.2) := Lib.hid (by
      have hm := upto_rev l hok k (by have := HL.out; omega)
      rw [e1, List.map_append] at hm
      refine curO_of (r := l.reverse.drop k) (ini := ini.map (fun p => p.val.2)) ?_ (fun y hy => ?_) e3
      · have e := (List.take_append_drop k l.reverse).symm
        rw [← hm] at e
        refine e.trans ?_
        simp
      · obtain ⟨p, hpm, rfl⟩ := List.mem_map.1 hy
        exact e2 p hpm)
    clear e1 e2 e3
    gi_wp2
    refine ⟨by simp, .inl ⟨_, _, rfl, run_takeDeferred hK, ?_⟩⟩
    have hc4 := cell_kept e4 (grownBy_putObj' _ D (.deferred none)) (fun r e => by cases e; exact ⟨_, hK, rfl⟩)
    have hc5 := cell_kept e5 (grownBy_putObj' _ D (.deferred none)) (fun r e => by cases e; exact ⟨_, hK, rfl⟩)
    refine ⟨.tuple #[.int .i64 last.val.2.id, .bool true], ?_, by unfold curI curB; rw [HC.out]; rfl, grown_of_below (hB.trans (belowK_b (w := w) (Nat.le_refl _) _ D _ _ (by omega) hK rfl rfl))⟩
    simp [results, Tryd.f18, go_sem, hc4, hc5]
end Go.Proofs.YtecobgjkodmaiaaDoor
