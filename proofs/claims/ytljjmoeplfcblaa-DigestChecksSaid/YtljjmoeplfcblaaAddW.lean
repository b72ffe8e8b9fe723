/-
  digest.add, by its contract.
-/
import Derived.Test.YtljjmoeplfcblaaNd
import Derived.Test.YtljjmoeplfcblaaPushW
import Derived.OwnWalk
import Derived.Deep.AppendLies
import Derived.Deep.RegionHeld3
import Derived.Deep.QuietTactic
namespace Go.Proofs.Ytljjmoeplfcblaa
open Go.RowKit Go.Shelf
attribute [local go_sem] get_mk extract_mk

def slen : Value → Nat
  | .slice _ n _ => n
  | _ => 0
theorem grown_any {w w' : World} (h : w.grownBy w' none) (b : Option Nat) : w.grownBy w' b := ⟨h.os, h.tape, h.output, h.size, fun i hi _ => h.block i hi (by simp)⟩
theorem grown_drr {a w : World} {row : Option Nat} (h : a.grownBy w row) : a.grownBy w.drew row := ⟨h.os, h.tape, h.output, h.size, h.block⟩
theorem grow_cell (w : World) (b i : Nat) (v : Value) : w.grownBy (w.setCell ⟨b, i, none⟩ v) (some b) :=
  ⟨rfl, rfl, rfl, by simp [World.setCell], fun k _ hk => Below.heap_setCell _ _ _ _ (fun e => hk (by simp [e]))⟩
theorem grown_sc {a w : World} {b : Nat} (h : a.grownBy w (some b)) (i : Nat) (v : Value) : a.grownBy (w.setCell ⟨b, i, none⟩ v) (some b) := h.trans (grow_cell w b i v)
theorem set3 {w : World} {b : Nat} {c0 c1 c2 : Value} {t : TypeId} (h : w.heap[b]? = some (.cells #[c0, c1, c2] t (0, 0))) (v0 v1 v2 : Value) :
    (((w.setCell ⟨b, 0, none⟩ v0).setCell ⟨b, 1, none⟩ v1).setCell ⟨b, 2, none⟩ v2).heap[b]? = some (.cells #[v0, v1, v2] t (0, 0)) :=
  Go.heap_setCell_same _ b 2 _ t v2 (Go.heap_setCell_same _ b 1 _ t v1 (Go.heap_setCell_same w b 0 _ t v0 h))
theorem eql_no {α : Type} {z1 x1 z2 x2 : Nat} {T F : α} (h : ¬ (z1 = x1 ∧ z2 = x2)) : (if (z1 : Int) = x1 then if (z2 : Int) = x2 then T else F else F) = F := by
  split
  · split
    · exact absurd ⟨by omega, by omega⟩ h
    · rfl
  · rfl
theorem slice_of {w : World} {b e size n : Nat} {v : Value} {xs : List Value} (h : w.ownsRow b e size v n xs) : ∃ A c, v = .slice A n c ∧ n ≤ c ∧ c ≤ 9223372036854775807 := by
  rcases h.2 with ⟨rfl, rfl⟩ | ⟨g, cap, cur, rfl, _, _, h1, h2, _⟩
  · exact ⟨none, 0, rfl, Nat.le_refl _, by decide⟩
  · exact ⟨_, cap, rfl, h1, h2⟩
def AInv (base : Nat) (v : Value) (B : Nat) (st : List Nd) (n : Nd) (w0 : World) (l : Value) (r : List Nd) (m : Nd) (wr : World) : Prop :=
  wr.ownsRow base 77 3 l r.length (ndcs r.reverse) ∧ l.ownBlock = v.ownBlock ∧ pushW r m = pushW st n ∧ Fine r m ∧ wr.heap[B]? = some (.cells #[.int .i64 m.b, .int .i64 m.s, .string ⟨m.d.toArray⟩] 77 (0, 0)) ∧ w0.grownBy wr (some B)

theorem add_next {base B g k cap mb ms ab az x1 x2 : Nat} {v l : Value} {st r : List Nd} {n : Nd} {md ad : Str} {w0 wr w6 : World} (hk : r.length = k) (hX : whole mb ms = (x1, x2)) (hcond : whole ab az = whole mb ms)
    (ho : wr.ownsRow base 77 3 (.slice (some ⟨g, 0, none⟩) k cap) k (ndcs r.reverse)) (hgB : g < B) (hlo : l.ownBlock = v.ownBlock) (hl : l.ownBlock = some g) (hpu : pushW (⟨ab, az, ad⟩ :: r) ⟨mb, ms, md⟩ = pushW st n)
    (hfi : Fine (⟨ab, az, ad⟩ :: r) ⟨mb, ms, md⟩) (hg6 : wr.grownBy w6 (some B)) (hgr : w0.grownBy wr (some B))
    (hb : w6.heap[B]? = some (.cells #[.int .i64 x1, .int .i64 x2, .string ⟨(pairD ad md).toArray⟩] 77 (0, 0))) :
    ∃ r' m', AInv base v B st n w0 (.slice (some ⟨g, 0, none⟩) k cap) r' m' w6 := by
  subst hk
  have hn := hfi.next hcond
  simp only [hX] at hn
  refine ⟨r, ⟨x1, x2, pairD ad md⟩, ho.kept hg6 (.inr (by intro e; injection e with e; exact absurd e (Nat.ne_of_lt hgB))), ?_, ?_, hn, hb, hgr.trans hg6⟩
  · rw [← hlo, hl]; rfl
  · rw [← hpu, pushW_merge (a := ⟨ab, az, ad⟩) (n := ⟨mb, ms, md⟩) hcond]
    simp only [hX]
theorem add_end {base : Nat} {v l : Value} {st R : List Nd} {n m : Nd} {w wx w9 : World} {gg cap H N B : Nat} (hB : w.heap.size = B) (hN : N = R.length) (hp : m :: R = pushW st n)
    (hown : w9.ownsRow base 77 3 (.slice (some ⟨gg, 0, none⟩) (N + 1) cap) (N + 1) (ndcs R.reverse ++ [.int .i64 m.b, .int .i64 m.s, .string ⟨m.d.toArray⟩]))
    (hg : wx.grownBy w9 l.ownBlock) (hw : w.grownBy wx none) (hlo : l.ownBlock = v.ownBlock) (hat : l.ownBlock = some gg ∨ gg = H) (hH : w.heap.size ≤ H) :
    ∃ v', Ending.returned (.slice (some ⟨gg, 0, none⟩) (N + 1) cap) = .returned v' ∧ w9.ownsRow base 77 3 v' (pushW st n).length (ndcs (pushW st n).reverse) ∧ w.grownBy w9 v.ownBlock ∧
      (v'.ownBlock = v.ownBlock ∨ ∃ g, v'.ownBlock = some g ∧ B ≤ g) := by
  subst hN hB
  refine ⟨_, rfl, ?_, ?_, ?_⟩
  · rw [← hp, List.reverse_cons, ndcs_snoc]
    exact hown
  · rw [← hlo]
    exact (grown_any hw _).trans hg
  · rcases hat with h | h
    · left; rw [← hlo, h]; rfl
    · right; exact ⟨gg, rfl, by omega⟩
set_option maxRecDepth 100000 in
set_option maxHeartbeats 4000000 in
/-- digest.add -/
theorem add_k (base : Nat) (v : Value) (st : List Nd) (n : Nd) (w : World) (hown : w.ownsRow base 77 3 v st.length (ndcs st.reverse)) (hfi : Fine st n) (hbase : base ≤ w.heap.size) :
    Calls Try.prog 57 #[v, .agg #[.int .i64 n.b, .int .i64 n.s, .string ⟨n.d.toArray⟩]] w fun e w' => ∃ v', e = .returned v' ∧ w'.ownsRow base 77 3 v' (pushW st n).length (ndcs (pushW st n).reverse) ∧ w.grownBy w' v.ownBlock ∧
      (v'.ownBlock = v.ownBlock ∨ ∃ g, v'.ownBlock = some g ∧ w.heap.size ≤ g) := by
  obtain ⟨i0, hi0, hz0, hz1, hz2⟩ := info_parts info77
  have hln := hfi.len
  have hbox := heap_alloc_new w (.cells #[.int .i64 n.b, .int .i64 n.s, .string ⟨n.d.toArray⟩] 77)
  have hg0 := World.grownBy_alloc w (.cells #[.int .i64 n.b, .int .i64 n.s, .string ⟨n.d.toArray⟩] 77) none
  have HI : Hid (AInv base v w.heap.size st n (w.alloc (.cells #[.int .i64 n.b, .int .i64 n.s, .string ⟨n.d.toArray⟩] 77)) v st n (w.alloc (.cells #[.int .i64 n.b, .int .i64 n.s, .string ⟨n.d.toArray⟩] 77))) :=
    Lib.hid ⟨hown.kept hg0 (Classical.em _), rfl, rfl, hfi, hbox, World.grownBy.refl _ _⟩
  have Hown := Lib.hid hown
  obtain ⟨A0, c0, hv0, _⟩ := slice_of hown
  have hvB : Hid (∀ j, v.ownBlock = some j → j < w.heap.size) := Lib.hid (fun j hj => (hown.lt j hj).2)
  subst hv0
  clear hown hfi hbox
  go_enter Try.func57, Try.ntmps57
  go_wp2_with fail
  generalize hw0 : w.alloc (.cells #[.int .i64 n.b, .int .i64 n.s, .string ⟨n.d.toArray⟩] 77) = w0 at *
  have hsz : w0.heap.size = w.heap.size + 1 := by rw [← hw0]; simp
  generalize hB : w.heap.size = B at *
  have Hw0 := Lib.hid hw0
  clear hw0
  go_loopw [0] (fun l wr => ∃ r m, AInv base (.slice A0 st.length c0) B st n w0 l r m wr) (fun l _ => slen l)
  case atStart => exact ⟨st, n, HI.out⟩
  case round =>
    clear HI
    obtain ⟨r, ⟨mb, ms, md⟩, ho, hlo, hpu, hfi, hbx, hgr⟩ := hrel
    simp only at hbx
    obtain ⟨hms, hmd, b3⟩ := hfi.all ⟨mb, ms, md⟩ List.mem_cons_self
    simp only at hms hmd b3
    have b4 : ms ≤ 1152921504606846976 := by have := hfi.mass; simp only at this; omega
    have lbx := (Array.getElem?_eq_some_iff.1 hbx).1
    obtain ⟨A, c, rfl, hlc, hc63⟩ := slice_of ho
    cases r with
    | nil =>
      have HS : Hid (∀ w', wr.grownBy w' none → w'.cell? ⟨B, 0, none⟩ = some (.int .i64 mb) ∧ w'.cell? ⟨B, 1, none⟩ = some (.int .i64 ms) ∧ w'.cell? ⟨B, 2, none⟩ = some (.string ⟨md.toArray⟩) ∧ wr.grownBy w' none) := by
        refine Lib.hid (fun w' g => ?_)
        have hblk := (g.block B lbx (by simp)).trans hbx
        refine ⟨?_, ?_, ?_, g⟩ <;> simp [World.cell?, hblk]
      have g0 : wr.grownBy wr none := World.grownBy.refl _ _
      obtain ⟨y0, y1, y2, _⟩ := HS.out wr g0
      have Ho := Lib.hid ho
      have Hpu := Lib.hid hpu
      have Hgr := Lib.hid hgr
      have Hlo := Lib.hid hlo
      simp only [List.length_nil] at *
      clear ho hpu hgr hlo hfi hbx hlc
      have Hww : Hid (w.grownBy wr none) := Lib.hid (hg0.andThen Hgr.out (fun j hj => .inl (by injection hj with hj; omega)))
      go_wp2_with fail
      refine wp_region_noPanic ?_
      refine wp_region_held_drew (S := (fun w' => w'.cell? ⟨B, 0, none⟩ = some (.int .i64 mb) ∧ w'.cell? ⟨B, 1, none⟩ = some (.int .i64 ms) ∧ w'.cell? ⟨B, 2, none⟩ = some (.string ⟨md.toArray⟩) ∧ wr.grownBy w' none)) (by kernel_rfl) ?_ (fun hHeld => ?_)
      · (try dsimp only); (go_split_ands; (first | (exact HS.out _ (by assumption)) | (exact HS.out _ (grown_dr (by assumption))) | (exact HS.out _ (grown_al (by assumption))) | (exact HS.out _ (grown_dr (grown_al (by assumption))))))
      refine wpAnyH_take (i := 0) (oi := _) (v := ?_) rfl (by kernel_rfl) (by kernel_rfl) (by kernel_rfl) (fun _ _ _ h => h) (Or.inl ⟨by rfl, ?_⟩) (by assumption) ?_
      rotate_left 1
      · (intro w hSw; (try dsimp only at hSw); go_simp; first | done | with_reducible rfl)
      try go_simp
      refine wpAnyH_take (i := 1) (oi := _) (v := ?_) rfl (by kernel_rfl) (by kernel_rfl) (by kernel_rfl) (fun _ _ _ h => h) (Or.inl ⟨by rfl, ?_⟩) (by assumption) ?_
      rotate_left 1
      · (intro w hSw; (try dsimp only at hSw); go_simp; first | done | with_reducible rfl)
      try go_simp
      refine wpAnyH_take (i := 2) (oi := _) (v := ?_) rfl (by kernel_rfl) (by kernel_rfl) (by kernel_rfl) (fun _ _ _ h => h) (Or.inl ⟨by rfl, ?_⟩) (by assumption) ?_
      rotate_left 1
      · (intro w hSw; (try dsimp only at hSw); go_simp; first | done | with_reducible rfl)
      try go_simp
      refine wpAnyH_take (i := 3) (oi := _) (v := ?_) rfl (by kernel_rfl) (by kernel_rfl) (by kernel_rfl) (fun _ _ _ h => h) (Or.inl ⟨by rfl, ?_⟩) (by assumption) ?_
      rotate_left 1
      · (intro w hSw; (try dsimp only at hSw); go_simp; first | done | with_reducible rfl)
      try go_simp
      refine wpAnyH_take (i := 4) (oi := _) (v := undef) rfl (by kernel_rfl) (by kernel_rfl) (by kernel_rfl) (fun _ _ _ h => h) (Or.inr ⟨by kernel_rfl, rfl⟩) (by assumption) ?_
      try go_simp
      refine wpAnyH_take (i := 5) (oi := _) (v := undef) rfl (by kernel_rfl) (by kernel_rfl) (by kernel_rfl) (fun _ _ _ h => h) (Or.inr ⟨by kernel_rfl, rfl⟩) (by assumption) ?_
      try go_simp
      refine wpAnyH_take (i := 6) (oi := _) (v := undef) rfl (by kernel_rfl) (by kernel_rfl) (by kernel_rfl) (fun _ _ _ h => h) (Or.inr ⟨by kernel_rfl, rfl⟩) (by assumption) ?_
      try go_simp
      refine wpAnyH_take (i := 7) (oi := _) (v := undef) rfl (by kernel_rfl) (by kernel_rfl) (by kernel_rfl) (fun _ _ _ h => h) (Or.inr ⟨by kernel_rfl, rfl⟩) (by assumption) ?_
      try go_simp
      refine wpAnyH_take (i := 8) (oi := _) (v := undef) rfl (by kernel_rfl) (by kernel_rfl) (by kernel_rfl) (fun _ _ _ h => h) (Or.inr ⟨by kernel_rfl, rfl⟩) (by assumption) ?_
      try go_simp
      refine wpAnyH_take (i := 9) (oi := _) (v := undef) rfl (by kernel_rfl) (by kernel_rfl) (by kernel_rfl) (fun _ _ _ h => h) (Or.inr ⟨by kernel_rfl, rfl⟩) (by assumption) ?_
      try go_simp
      refine wpAnyH_take (i := 10) (oi := _) (v := undef) rfl (by kernel_rfl) (by kernel_rfl) (by kernel_rfl) (fun _ _ _ h => h) (Or.inr ⟨by kernel_rfl, rfl⟩) (by assumption) ?_
      try go_simp
      refine wpAnyH_take (i := 11) (oi := _) (v := undef) rfl (by kernel_rfl) (by kernel_rfl) (by kernel_rfl) (fun _ _ _ h => h) (Or.inr ⟨by kernel_rfl, rfl⟩) (by assumption) ?_
      try go_simp
      refine wpAnyH_take (i := 12) (oi := _) (v := undef) rfl (by kernel_rfl) (by kernel_rfl) (by kernel_rfl) (fun _ _ _ h => h) (Or.inr ⟨by kernel_rfl, rfl⟩) (by assumption) ?_
      try go_simp
      refine wpAnyH_take (i := 13) (oi := _) (v := undef) rfl (by kernel_rfl) (by kernel_rfl) (by kernel_rfl) (fun _ _ _ h => h) (Or.inr ⟨by kernel_rfl, rfl⟩) (by assumption) ?_
      try go_simp
      refine wpAnyH_take (i := 14) (oi := _) (v := undef) rfl (by kernel_rfl) (by kernel_rfl) (by kernel_rfl) (fun _ _ _ h => h) (Or.inr ⟨by kernel_rfl, rfl⟩) (by assumption) ?_
      try go_simp
      refine wpAnyH_take (i := 15) (oi := _) (v := undef) rfl (by kernel_rfl) (by kernel_rfl) (by kernel_rfl) (fun _ _ _ h => h) (Or.inr ⟨by kernel_rfl, rfl⟩) (by assumption) ?_
      try go_simp
      refine wpAnyH_take (i := 16) (oi := _) (v := .bool false) rfl (by kernel_rfl) (by kernel_rfl) (by kernel_rfl) (fun _ _ _ h => h) (Or.inl ⟨by kernel_rfl, fun _ _ => by kernel_rfl⟩) (by assumption) ?_
      try go_simp
      refine wpAnyH_done (by kernel_rfl) ?_ _
      refine NoPanic.normal ?_
      go_simp
      go_wp2_with (at_builtin; refine wpList_append_lies _ rfl _ _ 62 rfl base 77 i0 _ 3 32 Try.underlying62 hi0 hz0 hz1 hz2 rfl (by omega) _ 0 _ rfl ((Ho.out.alloc _).drew) ⟨wr.heap.size, 0, none⟩ 1 1 [.int .i64 mb, .int .i64 ms, .string ⟨md.toArray⟩] rfl rfl (World.news_of_block (cs := #[.int .i64 mb, .int .i64 ms, .string ⟨md.toArray⟩]) (t := 77) (fr := (0, 0)) (heap_alloc_new wr _)) (by intro u hu; simp at hu; rcases hu with rfl | rfl | rfl <;> rfl) (by omega) (by simp only [maxLen]; omega) (by omega) (by have := Hww.out.size; simp; omega) _ rfl ?_; intro gg cap w9 hown9 hgrow9 hat9 hlt9)
      go_ret
      exact add_end (w := w) (m := ⟨mb, ms, md⟩) (R := []) (N := 0) rfl rfl Hpu.out hown9 hgrow9 (grown_dr (grown_al Hww.out)) Hlo.out hat9 (by have := Hww.out.size; simp; omega)
    | cons a r =>
      obtain ⟨g, cap, hlv, hbg, hgl, hcap, hcm, ⟨n0, n1, n2⟩, hty, hown2⟩ := own_last (r := r) (a := a) (by simpa using ho)
      obtain ⟨ab, az, ad⟩ := a
      simp only at n0 n1 n2
      injection hlv with e1 e2 e3
      subst e1 e3
      obtain ⟨p2, had, b1⟩ := hfi.all ⟨ab, az, ad⟩ (by simp)
      simp only at p2 had b1
      have b2 : az ≤ 1152921504606846976 := by have := hfi.mass; rw [mass_cons] at this; simp only at this; omega
      have hkl : r.length ≤ 1099511627776 := by have := hfi.len; simp at this; omega
      generalize hk : r.length = k at *
      have hgB : g < B := hvB.out g (by rw [← hlo]; rfl)
      have HS : Hid (∀ w', wr.grownBy w' none → w'.cell? ⟨g, k * 3, none⟩ = some (.int .i64 ab) ∧ w'.cell? ⟨g, k * 3 + 1, none⟩ = some (.int .i64 az) ∧ w'.cell? ⟨g, k * 3 + 2, none⟩ = some (.string ⟨ad.toArray⟩) ∧ w'.cell? ⟨B, 0, none⟩ = some (.int .i64 mb) ∧ w'.cell? ⟨B, 1, none⟩ = some (.int .i64 ms) ∧ w'.cell? ⟨B, 2, none⟩ = some (.string ⟨md.toArray⟩) ∧ wr.grownBy w' none) := by
        refine Lib.hid (fun w' gg => ?_)
        have hblk := (gg.block B lbx (by simp)).trans hbx
        have hc := fun j => (below_of_grown gg).cell (p := ⟨g, j, none⟩) hgl
        refine ⟨(hc _).trans n0, (hc _).trans n1, (hc _).trans n2, ?_, ?_, ?_, gg⟩ <;> simp [World.cell?, hblk]
      have g0 : wr.grownBy wr none := World.grownBy.refl _ _
      obtain ⟨_, _, _, y0, y1, y2, _⟩ := HS.out wr g0
      have Ho : Hid (wr.ownsRow base 77 3 (.slice (some ⟨g, 0, none⟩) (k + 1) c) (k + 1) (ndcs (⟨ab, az, ad⟩ :: r).reverse)) := Lib.hid (by rw [← hk]; exact ho)
      have Ho2 := Lib.hid hown2
      have Hpu := Lib.hid hpu
      have Hfi := Lib.hid hfi
      have Hgr := Lib.hid hgr
      have Hlo := Lib.hid hlo
      have Hbx := Lib.hid hbx
      have Hty := Lib.hid hty
      have Hww : Hid (w.grownBy wr none) := Lib.hid (hg0.andThen Hgr.out (fun j hj => .inl (by injection hj with hj; omega)))
      have b5 : k ≤ 1099511627776 := by omega
      simp only [List.length_cons, hk]
      rw [List.length_cons, hk] at hlc
      have hkc : (k : Int) ≤ (c : Int) := by omega
      have Hk := Lib.hid hk
      clear ho hown2 hpu hgr hlo hfi hbx hlc hk hty
      have hkw : IntKind.i64.wrap (k : Int) = (k : Int) := by rw [IntKind.wrap_i64]; omega
      have hk0 : (0 : Int) ≤ (k : Int) := by omega
      have hk1 : (k : Int) < (k : Int) + 1 := by omega
      have HW1 := Lib.hid (fun w1 => whole_k ab az (by omega) p2 b2 w1)
      have HW2 := Lib.hid (fun w1 => whole_k mb ms (by omega) hms b4 w1)
      by_cases hcond : whole ab az = whole mb ms
      · rw [hcond] at HW1
        have HC := Lib.hid hcond
        have HX : Hid (∃ X, whole mb ms = X) := Lib.hid ⟨_, rfl⟩
        clear hcond HX
        generalize hX : whole mb ms = X at HW1 HW2
        obtain ⟨x1, x2⟩ := X
        have HX := Lib.hid hX
        clear hX
        go_wp2_with fail
        refine wp_region_noPanic ?_
        refine wp_region_held_drew (S := (fun w' => w'.cell? ⟨g, k * 3, none⟩ = some (.int .i64 ab) ∧ w'.cell? ⟨g, k * 3 + 1, none⟩ = some (.int .i64 az) ∧ w'.cell? ⟨g, k * 3 + 2, none⟩ = some (.string ⟨ad.toArray⟩) ∧ w'.cell? ⟨B, 0, none⟩ = some (.int .i64 mb) ∧ w'.cell? ⟨B, 1, none⟩ = some (.int .i64 ms) ∧ w'.cell? ⟨B, 2, none⟩ = some (.string ⟨md.toArray⟩) ∧ wr.grownBy w' none)) (by kernel_rfl) ?_ (fun hHeld => ?_)
        · (try dsimp only); (go_split_ands; (first | (exact HS.out _ (by assumption)) | (exact HS.out _ (grown_dr (by assumption))) | (exact HS.out _ (grown_al (by assumption))) | (exact HS.out _ (grown_dr (grown_al (by assumption))))))
        refine wpAnyH_take (i := 0) (oi := _) (v := ?_) rfl (by kernel_rfl) (by kernel_rfl) (by kernel_rfl) (fun _ _ _ h => h) (Or.inl ⟨by rfl, ?_⟩) (by assumption) ?_
        rotate_left 1
        · (intro w hSw; (try dsimp only at hSw); go_simp; first | done | with_reducible rfl)
        try go_simp
        refine wpAnyH_take (i := 1) (oi := _) (v := ?_) rfl (by kernel_rfl) (by kernel_rfl) (by kernel_rfl) (fun _ _ _ h => h) (Or.inl ⟨by rfl, ?_⟩) (by assumption) ?_
        rotate_left 1
        · (intro w hSw; (try dsimp only at hSw); go_simp; first | done | with_reducible rfl)
        try go_simp
        refine wpAnyH_take (i := 2) (oi := _) (v := ?_) rfl (by kernel_rfl) (by kernel_rfl) (by kernel_rfl) (fun _ _ _ h => h) (Or.inl ⟨by rfl, ?_⟩) (by assumption) ?_
        rotate_left 1
        · (intro w hSw; (try dsimp only at hSw); go_simp; first | done | with_reducible rfl)
        try go_simp
        refine wpAnyH_take (i := 3) (oi := _) (v := ?_) rfl (by kernel_rfl) (by kernel_rfl) (by kernel_rfl) (fun _ _ _ h => h) (Or.inl ⟨by rfl, ?_⟩) (by assumption) ?_
        rotate_left 1
        · (intro w hSw; (try dsimp only at hSw); go_simp; first | done | with_reducible rfl)
        try go_simp
        refine wpAnyH_take (i := 4) (oi := _) (v := ?_) rfl (by kernel_rfl) (by kernel_rfl) (by kernel_rfl) (fun _ _ _ h => h) (Or.inl ⟨by kernel_rfl, ?_⟩) (by assumption) ?_
        rotate_left 1
        · (intro w hSw; (try dsimp only at hSw); go_simp; first | done | with_reducible rfl)
        try go_simp
        refine wpAnyH_take (i := 5) (oi := _) (v := ?_) rfl (by kernel_rfl) (by kernel_rfl) (by kernel_rfl) (fun _ _ _ h => h) (Or.inl ⟨by kernel_rfl, ?_⟩) (by assumption) ?_
        rotate_left 1
        · (intro w hSw; (try dsimp only at hSw); go_simp; first | done | with_reducible rfl)
        try go_simp
        refine wpAnyH_take (i := 6) (oi := _) (v := ?_) rfl (by kernel_rfl) (by kernel_rfl) (by kernel_rfl) (fun _ _ _ h => h) (Or.inl ⟨by kernel_rfl, ?_⟩) (by assumption) ?_
        rotate_left 1
        · (intro w hSw; (try dsimp only at hSw); go_simp; first | done | with_reducible rfl)
        try go_simp
        refine wpAnyH_take (i := 7) (oi := _) (v := ?_) rfl (by kernel_rfl) (by kernel_rfl) (by kernel_rfl) (fun _ _ _ h => h) (Or.inl ⟨by kernel_rfl, ?_⟩) (by assumption) ?_
        rotate_left 1
        · (intro w hSw; (try dsimp only at hSw); go_simp; first | done | with_reducible rfl)
        try go_simp
        refine wpAnyH_take (i := 8) (oi := _) (v := ?_) rfl (by kernel_rfl) (by kernel_rfl) (by kernel_rfl) (fun _ _ _ h => h) (Or.inl ⟨by kernel_rfl, ?_⟩) (by assumption) ?_
        rotate_left 1
        · (intro w hSw; (try dsimp only at hSw); go_simp; first | done | with_reducible rfl)
        try go_simp
        refine wpAnyH_take (i := 9) (oi := _) (v := ?_) rfl (by kernel_rfl) (by kernel_rfl) (by kernel_rfl) (fun _ _ _ h => h) (Or.inl ⟨by kernel_rfl, ?_⟩) (by assumption) ?_
        rotate_left 1
        · (intro w hSw; (try dsimp only at hSw); go_simp; first | done | with_reducible rfl)
        try go_simp
        refine wpAnyH_take (i := 10) (oi := _) (v := ?_) rfl (by kernel_rfl) (by kernel_rfl) (by kernel_rfl) (fun _ _ _ h => h) (Or.inl ⟨by kernel_rfl, ?_⟩) (by assumption) ?_
        rotate_left 1
        · (intro w hSw; (try dsimp only at hSw); go_simp; first | done | with_reducible rfl)
        try go_simp
        refine wpAnyH_take (i := 12) (oi := _) (v := ?_) rfl (by kernel_rfl) (by kernel_rfl) (by kernel_rfl) (fun _ _ _ h => h) (Or.inl ⟨by kernel_rfl, ?_⟩) (by assumption) ?_
        rotate_left 1
        · (intro w hSw; (try dsimp only at hSw); go_simp; first | done | with_reducible rfl)
        try go_simp
        refine wpAnyH_take (i := 13) (oi := _) (v := ?_) rfl (by kernel_rfl) (by kernel_rfl) (by kernel_rfl) (fun _ _ _ h => h) (Or.inl ⟨by kernel_rfl, ?_⟩) (by assumption) ?_
        rotate_left 1
        · (intro w hSw; (try dsimp only at hSw); go_simp; first | done | with_reducible rfl)
        try go_simp
        refine wpAnyH_ready (rs := [11]) (by kernel_rfl) (by simp) ?_
        refine AllReadyH.cons (o := _) rfl (fun K hK => ?_) AllReadyH.nil
        go_simp
        go_split_ands
        refine (HW1.out _).mono ?_
        rintro e w2 ⟨rfl, g2⟩
        have gg2 := World.grownBy.trans (a := wr) (by assumption) g2
        first | (refine hK.out _ _ ?_ (fun hHeld => ?_)) | (go_wp2_with fail; refine hK.out _ _ ?_ (fun hHeld => ?_))
        · (try dsimp only); (go_split_ands; (first | (exact HS.out _ (by assumption)) | (exact HS.out _ (grown_dr (by assumption))) | (exact HS.out _ (grown_al (by assumption))) | (exact HS.out _ (grown_dr (grown_al (by assumption))))))
        clear hK K
        refine wpAnyH_ready (rs := [14]) (by kernel_rfl) (by simp) ?_
        refine AllReadyH.cons (o := _) rfl (fun K hK => ?_) AllReadyH.nil
        go_simp
        go_split_ands
        refine (HW2.out _).mono ?_
        rintro e w3 ⟨rfl, g3⟩
        have gg3 := World.grownBy.trans (a := wr) (by assumption) g3
        first | (refine hK.out _ _ ?_ (fun hHeld => ?_)) | (go_wp2_with fail; refine hK.out _ _ ?_ (fun hHeld => ?_))
        · (try dsimp only); (go_split_ands; (first | (exact HS.out _ (by assumption)) | (exact HS.out _ (grown_dr (by assumption))) | (exact HS.out _ (grown_al (by assumption))) | (exact HS.out _ (grown_dr (grown_al (by assumption))))))
        clear hK K
        refine wpAnyH_take (i := 15) (oi := _) (v := ?_) rfl (by kernel_rfl) (by kernel_rfl) (by kernel_rfl) (fun _ _ _ h => h) (Or.inl ⟨by kernel_rfl, ?_⟩) (by assumption) ?_
        rotate_left 1
        · (intro w hSw; (try dsimp only at hSw); go_simp; first | done | with_reducible rfl)
        try go_simp
        refine wpAnyH_take (i := 16) (oi := _) (v := ?_) rfl (by kernel_rfl) (by kernel_rfl) (by kernel_rfl) (fun _ _ _ h => h) (Or.inl ⟨by rfl, ?_⟩) (by assumption) ?_
        rotate_left 1
        · (intro w hSw; (try dsimp only at hSw); go_simp; first | done | with_reducible rfl)
        try go_simp
        refine wpAnyH_done (by kernel_rfl) ?_ _
        refine NoPanic.normal ?_
        go_simp
        go_wp2_with fail
        obtain ⟨_, _, _, t0, t1, t2, _⟩ := HS.out _ gg3
        have gb3 := grown_any gg3 (some B)
        have HS2 : Hid (∀ w', wr.grownBy w' (some B) → w'.cell? ⟨g, k * 3 + 2, none⟩ = some (.string ⟨ad.toArray⟩) ∧ wr.grownBy w' (some B)) :=
          Lib.hid (fun w' gg => ⟨(gg.cell_far ⟨g, k * 3 + 2, none⟩ hgl (by intro e; injection e with e; exact absurd e (Nat.ne_of_lt hgB))).trans n2, gg⟩)
        have HF : Hid (∀ w', wr.grownBy w' none → ∀ j, w'.frozen? ⟨B, j, none⟩ = false) := Lib.hid (fun w' gg j => by
          have hblk := (gg.block B lbx (by simp)).trans Hbx.out
          simp [World.frozen?, hblk])
        refine wp_region_noPanic ?_
        refine wp_region_held_drew (S := (fun w' => w'.cell? ⟨g, k * 3 + 2, none⟩ = some (.string ⟨ad.toArray⟩) ∧ wr.grownBy w' (some B))) (by kernel_rfl) ?_ (fun hHeld => ?_)
        · (try dsimp only); (first | (exact HS2.out _ (by assumption)) | (exact HS2.out _ (grown_drr (by assumption))) | (exact HS2.out _ (grown_drr (grown_drr (by assumption)))) | (exact HS2.out _ (grown_sc (grown_sc (grown_sc (by assumption) _ _) _ _) _ _)))
        refine wpAnyH_take (i := 0) (oi := _) (v := ?_) rfl (by kernel_rfl) (by kernel_rfl) (by kernel_rfl) (fun _ _ _ h => h) (Or.inl ⟨by rfl, ?_⟩) (by assumption) ?_
        rotate_left 1
        · (intro w hSw; (try dsimp only at hSw); go_simp; first | done | with_reducible rfl)
        try go_simp
        refine wpAnyH_take (i := 3) (oi := _) (v := ?_) rfl (by kernel_rfl) (by kernel_rfl) (by kernel_rfl) (fun _ _ _ h => h) (Or.inl ⟨by rfl, ?_⟩) (by assumption) ?_
        rotate_left 1
        · (intro w hSw; (try dsimp only at hSw); go_simp; first | done | with_reducible rfl)
        try go_simp
        refine wpAnyH_take (i := 4) (oi := _) (v := ?_) rfl (by kernel_rfl) (by kernel_rfl) (by kernel_rfl) (fun _ _ _ h => h) (Or.inl ⟨by rfl, ?_⟩) (by assumption) ?_
        rotate_left 1
        · (intro w hSw; (try dsimp only at hSw); go_simp; first | done | with_reducible rfl)
        try go_simp
        refine wpAnyH_take (i := 5) (oi := _) (v := ?_) rfl (by kernel_rfl) (by kernel_rfl) (by kernel_rfl) (fun _ _ _ h => h) (Or.inl ⟨by rfl, ?_⟩) (by assumption) ?_
        rotate_left 1
        · (intro w hSw; (try dsimp only at hSw); go_simp; first | done | with_reducible rfl)
        try go_simp
        refine wpAnyH_take (i := 6) (oi := _) (v := ?_) rfl (by kernel_rfl) (by kernel_rfl) (by kernel_rfl) (fun _ _ _ h => h) (Or.inl ⟨by rfl, ?_⟩) (by assumption) ?_
        rotate_left 1
        · (intro w hSw; (try dsimp only at hSw); go_simp; first | done | with_reducible rfl)
        try go_simp
        refine wpAnyH_take (i := 7) (oi := _) (v := ?_) rfl (by kernel_rfl) (by kernel_rfl) (by kernel_rfl) (fun _ _ _ h => h) (Or.inl ⟨by rfl, ?_⟩) (by assumption) ?_
        rotate_left 1
        · (intro w hSw; (try dsimp only at hSw); go_simp; first | done | with_reducible rfl)
        try go_simp
        refine wpAnyH_take (i := 8) (oi := _) (v := ?_) rfl (by kernel_rfl) (by kernel_rfl) (by kernel_rfl) (fun _ _ _ h => h) (Or.inl ⟨by rfl, ?_⟩) (by assumption) ?_
        rotate_left 1
        · (intro w hSw; (try dsimp only at hSw); go_simp; first | done | with_reducible rfl)
        try go_simp
        refine wpAnyH_take (i := 9) (oi := _) (v := ?_) rfl (by kernel_rfl) (by kernel_rfl) (by kernel_rfl) (fun _ _ _ h => h) (Or.inl ⟨by rfl, ?_⟩) (by assumption) ?_
        rotate_left 1
        · (intro w hSw; (try dsimp only at hSw); go_simp; first | done | with_reducible rfl)
        try go_simp
        refine wpAnyH_take (i := 10) (oi := _) (v := ?_) rfl (by kernel_rfl) (by kernel_rfl) (by kernel_rfl) (fun _ _ _ h => h) (Or.inl ⟨by rfl, ?_⟩) (by assumption) ?_
        rotate_left 1
        · (intro w hSw; (try dsimp only at hSw); go_simp; first | done | with_reducible rfl)
        try go_simp
        refine wpAnyH_ready (rs := [1, 11]) (by kernel_rfl) (by simp) ?_
        refine AllReadyH.cons (o := _) rfl (fun K hK => ?_) (AllReadyH.cons (o := _) rfl (fun K hK => ?_) AllReadyH.nil)
        · go_simp
          first | (refine hK.out _ _ ?_ (fun hHeld => ?_)) | (go_wp2_with fail; refine hK.out _ _ ?_ (fun hHeld => ?_))
          · (try dsimp only); (first | (exact HS2.out _ (by assumption)) | (exact HS2.out _ (grown_drr (by assumption))) | (exact HS2.out _ (grown_drr (grown_drr (by assumption)))) | (exact HS2.out _ (grown_sc (grown_sc (grown_sc (by assumption) _ _) _ _) _ _)))
          clear hK K
          refine wpAnyH_ready (rs := [2, 11]) (by kernel_rfl) (by simp) ?_
          refine AllReadyH.cons (o := _) rfl (fun K hK => ?_) (AllReadyH.cons (o := _) rfl (fun K hK => ?_) AllReadyH.nil)
          · go_simp
            go_split_ands
            refine (HW2.out _).mono ?_
            rintro e w4 ⟨rfl, g4⟩
            have gg4 : wr.grownBy w4 none := World.grownBy.trans (by first | assumption | exact grown_dr (by assumption) | exact grown_dr (grown_dr (by assumption))) g4
            have gb4 := grown_any gg4 (some B)
            obtain ⟨_, _, _, u0, u1, u2, _⟩ := HS.out _ gg4
            first | (refine hK.out _ _ ?_ (fun hHeld => ?_)) | (go_wp2_with fail; refine hK.out _ _ ?_ (fun hHeld => ?_))
            · (try dsimp only); (first | (exact HS2.out _ (by assumption)) | (exact HS2.out _ (grown_drr (by assumption))) | (exact HS2.out _ (grown_drr (grown_drr (by assumption)))) | (exact HS2.out _ (grown_sc (grown_sc (grown_sc (by assumption) _ _) _ _) _ _)))
            clear hK K
            refine wpAnyH_ready (rs := [11]) (by kernel_rfl) (by simp) ?_
            refine AllReadyH.cons (o := _) rfl (fun K hK => ?_) AllReadyH.nil
            go_simp
            first | (refine hK.out _ _ ?_ (fun hHeld => ?_)) | (go_wp2_with fail; refine hK.out _ _ ?_ (fun hHeld => ?_))
            · (try dsimp only); (first | (exact HS2.out _ (by assumption)) | (exact HS2.out _ (grown_drr (by assumption))) | (exact HS2.out _ (grown_drr (grown_drr (by assumption)))) | (exact HS2.out _ (grown_sc (grown_sc (grown_sc (by assumption) _ _) _ _) _ _)))
            clear hK K
            refine wpAnyH_ready (rs := [12]) (by kernel_rfl) (by simp) ?_
            refine AllReadyH.cons (o := _) rfl (fun K hK => ?_) AllReadyH.nil
            go_simp
            go_split_ands
            refine (pair_k ad md (by omega) (by omega) _).mono ?_
            rintro e w5 ⟨rfl, g5⟩
            have gg5 : wr.grownBy w5 none := World.grownBy.trans (by first | assumption | exact grown_dr (by assumption) | exact grown_dr (grown_dr (by assumption))) g5
            have gb5 := grown_any gg5 (some B)
            obtain ⟨_, _, _, v0, v1, v2, _⟩ := HS.out _ gg5
            have vf : w5.frozen? ⟨B, 0, none⟩ = false := HF.out _ gg5 0
            have vf1 : w5.frozen? ⟨B, 1, none⟩ = false := HF.out _ gg5 1
            have vf2 : w5.frozen? ⟨B, 2, none⟩ = false := HF.out _ gg5 2
            first | (refine hK.out _ _ ?_ (fun hHeld => ?_)) | (go_wp2_with fail; refine hK.out _ _ ?_ (fun hHeld => ?_))
            · (try dsimp only); (first | (exact HS2.out _ (by assumption)) | (exact HS2.out _ (grown_drr (by assumption))) | (exact HS2.out _ (grown_drr (grown_drr (by assumption)))) | (exact HS2.out _ (grown_sc (grown_sc (grown_sc (by assumption) _ _) _ _) _ _)))
            clear hK K
            refine wpAnyH_take (i := 13) (oi := _) (v := ?_) rfl (by kernel_rfl) (by kernel_rfl) (by kernel_rfl) (fun _ _ _ h => h) (Or.inl ⟨by rfl, ?_⟩) (by assumption) ?_
            rotate_left 1
            · (intro w hSw; (try dsimp only at hSw); go_simp; first | done | with_reducible rfl)
            try go_simp
            refine wpAnyH_ready (rs := [14]) (by kernel_rfl) (by simp) ?_
            refine AllReadyH.cons (o := _) rfl (fun K hK => ?_) AllReadyH.nil
            go_simp
            first | (refine hK.out _ _ ?_ (fun hHeld => ?_)) | (go_wp2_with fail; refine hK.out _ _ ?_ (fun hHeld => ?_))
            · (try dsimp only); (first | (exact HS2.out _ (by assumption)) | (exact HS2.out _ (grown_drr (by assumption))) | (exact HS2.out _ (grown_drr (grown_drr (by assumption)))) | (exact HS2.out _ (grown_sc (grown_sc (grown_sc (by assumption) _ _) _ _) _ _)))
            clear hK K
            refine wpAnyH_done (by kernel_rfl) ?_ _
            refine NoPanic.normal ?_
            go_simp
            have hg6 := grown_sc (grown_sc (grown_sc gb5 0 (.int .i64 x1)) 1 (.int .i64 x2)) 2 (.string ⟨(pairD ad md).toArray⟩)
            have hb6 := set3 ((gg5.block B lbx (by simp)).trans Hbx.out) (.int .i64 x1) (.int .i64 x2) (.string ⟨(pairD ad md).toArray⟩)
            generalize ((w5.setCell ⟨B, 0, none⟩ (.int .i64 x1)).setCell ⟨B, 1, none⟩ (.int .i64 x2)).setCell ⟨B, 2, none⟩ (.string ⟨(pairD ad md).toArray⟩) = w6 at *
            go_wp2_with fail
            exact ⟨add_next Hk.out HX.out HC.out Ho2.out hgB Hlo.out rfl Hpu.out Hfi.out hg6 Hgr.out hb6, by simp [slen]⟩
          · go_simp
            first | (refine hK.out _ _ ?_ (fun hHeld => ?_)) | (go_wp2_with fail; refine hK.out _ _ ?_ (fun hHeld => ?_))
            · (try dsimp only); (first | (exact HS2.out _ (by assumption)) | (exact HS2.out _ (grown_drr (by assumption))) | (exact HS2.out _ (grown_drr (grown_drr (by assumption)))) | (exact HS2.out _ (grown_sc (grown_sc (grown_sc (by assumption) _ _) _ _) _ _)))
            clear hK K
            refine wpAnyH_ready (rs := [2]) (by kernel_rfl) (by simp) ?_
            refine AllReadyH.cons (o := _) rfl (fun K hK => ?_) AllReadyH.nil
            go_simp
            go_split_ands
            refine (HW2.out _).mono ?_
            rintro e w4 ⟨rfl, g4⟩
            have gg4 : wr.grownBy w4 none := World.grownBy.trans (by first | assumption | exact grown_dr (by assumption) | exact grown_dr (grown_dr (by assumption))) g4
            have gb4 := grown_any gg4 (some B)
            obtain ⟨_, _, _, u0, u1, u2, _⟩ := HS.out _ gg4
            first | (refine hK.out _ _ ?_ (fun hHeld => ?_)) | (go_wp2_with fail; refine hK.out _ _ ?_ (fun hHeld => ?_))
            · (try dsimp only); (first | (exact HS2.out _ (by assumption)) | (exact HS2.out _ (grown_drr (by assumption))) | (exact HS2.out _ (grown_drr (grown_drr (by assumption)))) | (exact HS2.out _ (grown_sc (grown_sc (grown_sc (by assumption) _ _) _ _) _ _)))
            clear hK K
            refine wpAnyH_ready (rs := [12]) (by kernel_rfl) (by simp) ?_
            refine AllReadyH.cons (o := _) rfl (fun K hK => ?_) AllReadyH.nil
            go_simp
            go_split_ands
            refine (pair_k ad md (by omega) (by omega) _).mono ?_
            rintro e w5 ⟨rfl, g5⟩
            have gg5 : wr.grownBy w5 none := World.grownBy.trans (by first | assumption | exact grown_dr (by assumption) | exact grown_dr (grown_dr (by assumption))) g5
            have gb5 := grown_any gg5 (some B)
            obtain ⟨_, _, _, v0, v1, v2, _⟩ := HS.out _ gg5
            have vf : w5.frozen? ⟨B, 0, none⟩ = false := HF.out _ gg5 0
            have vf1 : w5.frozen? ⟨B, 1, none⟩ = false := HF.out _ gg5 1
            have vf2 : w5.frozen? ⟨B, 2, none⟩ = false := HF.out _ gg5 2
            first | (refine hK.out _ _ ?_ (fun hHeld => ?_)) | (go_wp2_with fail; refine hK.out _ _ ?_ (fun hHeld => ?_))
            · (try dsimp only); (first | (exact HS2.out _ (by assumption)) | (exact HS2.out _ (grown_drr (by assumption))) | (exact HS2.out _ (grown_drr (grown_drr (by assumption)))) | (exact HS2.out _ (grown_sc (grown_sc (grown_sc (by assumption) _ _) _ _) _ _)))
            clear hK K
            refine wpAnyH_take (i := 13) (oi := _) (v := ?_) rfl (by kernel_rfl) (by kernel_rfl) (by kernel_rfl) (fun _ _ _ h => h) (Or.inl ⟨by rfl, ?_⟩) (by assumption) ?_
            rotate_left 1
            · (intro w hSw; (try dsimp only at hSw); go_simp; first | done | with_reducible rfl)
            try go_simp
            refine wpAnyH_ready (rs := [14]) (by kernel_rfl) (by simp) ?_
            refine AllReadyH.cons (o := _) rfl (fun K hK => ?_) AllReadyH.nil
            go_simp
            first | (refine hK.out _ _ ?_ (fun hHeld => ?_)) | (go_wp2_with fail; refine hK.out _ _ ?_ (fun hHeld => ?_))
            · (try dsimp only); (first | (exact HS2.out _ (by assumption)) | (exact HS2.out _ (grown_drr (by assumption))) | (exact HS2.out _ (grown_drr (grown_drr (by assumption)))) | (exact HS2.out _ (grown_sc (grown_sc (grown_sc (by assumption) _ _) _ _) _ _)))
            clear hK K
            refine wpAnyH_done (by kernel_rfl) ?_ _
            refine NoPanic.normal ?_
            go_simp
            have hg6 := grown_sc (grown_sc (grown_sc gb5 0 (.int .i64 x1)) 1 (.int .i64 x2)) 2 (.string ⟨(pairD ad md).toArray⟩)
            have hb6 := set3 ((gg5.block B lbx (by simp)).trans Hbx.out) (.int .i64 x1) (.int .i64 x2) (.string ⟨(pairD ad md).toArray⟩)
            generalize ((w5.setCell ⟨B, 0, none⟩ (.int .i64 x1)).setCell ⟨B, 1, none⟩ (.int .i64 x2)).setCell ⟨B, 2, none⟩ (.string ⟨(pairD ad md).toArray⟩) = w6 at *
            go_wp2_with fail
            exact ⟨add_next Hk.out HX.out HC.out Ho2.out hgB Hlo.out rfl Hpu.out Hfi.out hg6 Hgr.out hb6, by simp [slen]⟩
        · go_simp
          first | (refine hK.out _ _ ?_ (fun hHeld => ?_)) | (go_wp2_with fail; refine hK.out _ _ ?_ (fun hHeld => ?_))
          · (try dsimp only); (first | (exact HS2.out _ (by assumption)) | (exact HS2.out _ (grown_drr (by assumption))) | (exact HS2.out _ (grown_drr (grown_drr (by assumption)))) | (exact HS2.out _ (grown_sc (grown_sc (grown_sc (by assumption) _ _) _ _) _ _)))
          clear hK K
          refine wpAnyH_ready (rs := [1]) (by kernel_rfl) (by simp) ?_
          refine AllReadyH.cons (o := _) rfl (fun K hK => ?_) AllReadyH.nil
          go_simp
          first | (refine hK.out _ _ ?_ (fun hHeld => ?_)) | (go_wp2_with fail; refine hK.out _ _ ?_ (fun hHeld => ?_))
          · (try dsimp only); (first | (exact HS2.out _ (by assumption)) | (exact HS2.out _ (grown_drr (by assumption))) | (exact HS2.out _ (grown_drr (grown_drr (by assumption)))) | (exact HS2.out _ (grown_sc (grown_sc (grown_sc (by assumption) _ _) _ _) _ _)))
          clear hK K
          refine wpAnyH_ready (rs := [2]) (by kernel_rfl) (by simp) ?_
          refine AllReadyH.cons (o := _) rfl (fun K hK => ?_) AllReadyH.nil
          go_simp
          go_split_ands
          refine (HW2.out _).mono ?_
          rintro e w4 ⟨rfl, g4⟩
          have gg4 : wr.grownBy w4 none := World.grownBy.trans (by first | assumption | exact grown_dr (by assumption) | exact grown_dr (grown_dr (by assumption))) g4
          have gb4 := grown_any gg4 (some B)
          obtain ⟨_, _, _, u0, u1, u2, _⟩ := HS.out _ gg4
          first | (refine hK.out _ _ ?_ (fun hHeld => ?_)) | (go_wp2_with fail; refine hK.out _ _ ?_ (fun hHeld => ?_))
          · (try dsimp only); (first | (exact HS2.out _ (by assumption)) | (exact HS2.out _ (grown_drr (by assumption))) | (exact HS2.out _ (grown_drr (grown_drr (by assumption)))) | (exact HS2.out _ (grown_sc (grown_sc (grown_sc (by assumption) _ _) _ _) _ _)))
          clear hK K
          refine wpAnyH_ready (rs := [12]) (by kernel_rfl) (by simp) ?_
          refine AllReadyH.cons (o := _) rfl (fun K hK => ?_) AllReadyH.nil
          go_simp
          go_split_ands
          refine (pair_k ad md (by omega) (by omega) _).mono ?_
          rintro e w5 ⟨rfl, g5⟩
          have gg5 : wr.grownBy w5 none := World.grownBy.trans (by first | assumption | exact grown_dr (by assumption) | exact grown_dr (grown_dr (by assumption))) g5
          have gb5 := grown_any gg5 (some B)
          obtain ⟨_, _, _, v0, v1, v2, _⟩ := HS.out _ gg5
          have vf : w5.frozen? ⟨B, 0, none⟩ = false := HF.out _ gg5 0
          have vf1 : w5.frozen? ⟨B, 1, none⟩ = false := HF.out _ gg5 1
          have vf2 : w5.frozen? ⟨B, 2, none⟩ = false := HF.out _ gg5 2
          first | (refine hK.out _ _ ?_ (fun hHeld => ?_)) | (go_wp2_with fail; refine hK.out _ _ ?_ (fun hHeld => ?_))
          · (try dsimp only); (first | (exact HS2.out _ (by assumption)) | (exact HS2.out _ (grown_drr (by assumption))) | (exact HS2.out _ (grown_drr (grown_drr (by assumption)))) | (exact HS2.out _ (grown_sc (grown_sc (grown_sc (by assumption) _ _) _ _) _ _)))
          clear hK K
          refine wpAnyH_take (i := 13) (oi := _) (v := ?_) rfl (by kernel_rfl) (by kernel_rfl) (by kernel_rfl) (fun _ _ _ h => h) (Or.inl ⟨by rfl, ?_⟩) (by assumption) ?_
          rotate_left 1
          · (intro w hSw; (try dsimp only at hSw); go_simp; first | done | with_reducible rfl)
          try go_simp
          refine wpAnyH_ready (rs := [14]) (by kernel_rfl) (by simp) ?_
          refine AllReadyH.cons (o := _) rfl (fun K hK => ?_) AllReadyH.nil
          go_simp
          first | (refine hK.out _ _ ?_ (fun hHeld => ?_)) | (go_wp2_with fail; refine hK.out _ _ ?_ (fun hHeld => ?_))
          · (try dsimp only); (first | (exact HS2.out _ (by assumption)) | (exact HS2.out _ (grown_drr (by assumption))) | (exact HS2.out _ (grown_drr (grown_drr (by assumption)))) | (exact HS2.out _ (grown_sc (grown_sc (grown_sc (by assumption) _ _) _ _) _ _)))
          clear hK K
          refine wpAnyH_done (by kernel_rfl) ?_ _
          refine NoPanic.normal ?_
          go_simp
          have hg6 := grown_sc (grown_sc (grown_sc gb5 0 (.int .i64 x1)) 1 (.int .i64 x2)) 2 (.string ⟨(pairD ad md).toArray⟩)
          have hb6 := set3 ((gg5.block B lbx (by simp)).trans Hbx.out) (.int .i64 x1) (.int .i64 x2) (.string ⟨(pairD ad md).toArray⟩)
          generalize ((w5.setCell ⟨B, 0, none⟩ (.int .i64 x1)).setCell ⟨B, 1, none⟩ (.int .i64 x2)).setCell ⟨B, 2, none⟩ (.string ⟨(pairD ad md).toArray⟩) = w6 at *
          go_wp2_with fail
          exact ⟨add_next Hk.out HX.out HC.out Ho2.out hgB Hlo.out rfl Hpu.out Hfi.out hg6 Hgr.out hb6, by simp [slen]⟩
      · have HC := Lib.hid hcond
        have hne := hcond
        clear hcond
        generalize whole mb ms = X at HW1 HW2 hne
        generalize whole ab az = Y at HW1 HW2 hne
        obtain ⟨x1, x2⟩ := X
        obtain ⟨z1, z2⟩ := Y
        have hne2 : ¬ (z1 = x1 ∧ z2 = x2) := fun e => hne (by rw [e.1, e.2])
        clear hne
        go_wp2_with fail
        refine wp_region_noPanic ?_
        refine wp_region_held_drew (S := (fun w' => w'.cell? ⟨g, k * 3, none⟩ = some (.int .i64 ab) ∧ w'.cell? ⟨g, k * 3 + 1, none⟩ = some (.int .i64 az) ∧ w'.cell? ⟨g, k * 3 + 2, none⟩ = some (.string ⟨ad.toArray⟩) ∧ w'.cell? ⟨B, 0, none⟩ = some (.int .i64 mb) ∧ w'.cell? ⟨B, 1, none⟩ = some (.int .i64 ms) ∧ w'.cell? ⟨B, 2, none⟩ = some (.string ⟨md.toArray⟩) ∧ wr.grownBy w' none)) (by kernel_rfl) ?_ (fun hHeld => ?_)
        · (try dsimp only); (go_split_ands; (first | (exact HS.out _ (by assumption)) | (exact HS.out _ (grown_dr (by assumption))) | (exact HS.out _ (grown_al (by assumption))) | (exact HS.out _ (grown_dr (grown_al (by assumption))))))
        refine wpAnyH_take (i := 0) (oi := _) (v := ?_) rfl (by kernel_rfl) (by kernel_rfl) (by kernel_rfl) (fun _ _ _ h => h) (Or.inl ⟨by rfl, ?_⟩) (by assumption) ?_
        rotate_left 1
        · (intro w hSw; (try dsimp only at hSw); go_simp; first | done | with_reducible rfl)
        try go_simp
        refine wpAnyH_take (i := 1) (oi := _) (v := ?_) rfl (by kernel_rfl) (by kernel_rfl) (by kernel_rfl) (fun _ _ _ h => h) (Or.inl ⟨by rfl, ?_⟩) (by assumption) ?_
        rotate_left 1
        · (intro w hSw; (try dsimp only at hSw); go_simp; first | done | with_reducible rfl)
        try go_simp
        refine wpAnyH_take (i := 2) (oi := _) (v := ?_) rfl (by kernel_rfl) (by kernel_rfl) (by kernel_rfl) (fun _ _ _ h => h) (Or.inl ⟨by rfl, ?_⟩) (by assumption) ?_
        rotate_left 1
        · (intro w hSw; (try dsimp only at hSw); go_simp; first | done | with_reducible rfl)
        try go_simp
        refine wpAnyH_take (i := 3) (oi := _) (v := ?_) rfl (by kernel_rfl) (by kernel_rfl) (by kernel_rfl) (fun _ _ _ h => h) (Or.inl ⟨by rfl, ?_⟩) (by assumption) ?_
        rotate_left 1
        · (intro w hSw; (try dsimp only at hSw); go_simp; first | done | with_reducible rfl)
        try go_simp
        refine wpAnyH_take (i := 4) (oi := _) (v := ?_) rfl (by kernel_rfl) (by kernel_rfl) (by kernel_rfl) (fun _ _ _ h => h) (Or.inl ⟨by kernel_rfl, ?_⟩) (by assumption) ?_
        rotate_left 1
        · (intro w hSw; (try dsimp only at hSw); go_simp; first | done | with_reducible rfl)
        try go_simp
        refine wpAnyH_take (i := 5) (oi := _) (v := ?_) rfl (by kernel_rfl) (by kernel_rfl) (by kernel_rfl) (fun _ _ _ h => h) (Or.inl ⟨by kernel_rfl, ?_⟩) (by assumption) ?_
        rotate_left 1
        · (intro w hSw; (try dsimp only at hSw); go_simp; first | done | with_reducible rfl)
        try go_simp
        refine wpAnyH_take (i := 6) (oi := _) (v := ?_) rfl (by kernel_rfl) (by kernel_rfl) (by kernel_rfl) (fun _ _ _ h => h) (Or.inl ⟨by kernel_rfl, ?_⟩) (by assumption) ?_
        rotate_left 1
        · (intro w hSw; (try dsimp only at hSw); go_simp; first | done | with_reducible rfl)
        try go_simp
        refine wpAnyH_take (i := 7) (oi := _) (v := ?_) rfl (by kernel_rfl) (by kernel_rfl) (by kernel_rfl) (fun _ _ _ h => h) (Or.inl ⟨by kernel_rfl, ?_⟩) (by assumption) ?_
        rotate_left 1
        · (intro w hSw; (try dsimp only at hSw); go_simp; first | done | with_reducible rfl)
        try go_simp
        refine wpAnyH_take (i := 8) (oi := _) (v := ?_) rfl (by kernel_rfl) (by kernel_rfl) (by kernel_rfl) (fun _ _ _ h => h) (Or.inl ⟨by kernel_rfl, ?_⟩) (by assumption) ?_
        rotate_left 1
        · (intro w hSw; (try dsimp only at hSw); go_simp; first | done | with_reducible rfl)
        try go_simp
        refine wpAnyH_take (i := 9) (oi := _) (v := ?_) rfl (by kernel_rfl) (by kernel_rfl) (by kernel_rfl) (fun _ _ _ h => h) (Or.inl ⟨by kernel_rfl, ?_⟩) (by assumption) ?_
        rotate_left 1
        · (intro w hSw; (try dsimp only at hSw); go_simp; first | done | with_reducible rfl)
        try go_simp
        refine wpAnyH_take (i := 10) (oi := _) (v := ?_) rfl (by kernel_rfl) (by kernel_rfl) (by kernel_rfl) (fun _ _ _ h => h) (Or.inl ⟨by kernel_rfl, ?_⟩) (by assumption) ?_
        rotate_left 1
        · (intro w hSw; (try dsimp only at hSw); go_simp; first | done | with_reducible rfl)
        try go_simp
        refine wpAnyH_take (i := 12) (oi := _) (v := ?_) rfl (by kernel_rfl) (by kernel_rfl) (by kernel_rfl) (fun _ _ _ h => h) (Or.inl ⟨by kernel_rfl, ?_⟩) (by assumption) ?_
        rotate_left 1
        · (intro w hSw; (try dsimp only at hSw); go_simp; first | done | with_reducible rfl)
        try go_simp
        refine wpAnyH_take (i := 13) (oi := _) (v := ?_) rfl (by kernel_rfl) (by kernel_rfl) (by kernel_rfl) (fun _ _ _ h => h) (Or.inl ⟨by kernel_rfl, ?_⟩) (by assumption) ?_
        rotate_left 1
        · (intro w hSw; (try dsimp only at hSw); go_simp; first | done | with_reducible rfl)
        try go_simp
        refine wpAnyH_ready (rs := [11]) (by kernel_rfl) (by simp) ?_
        refine AllReadyH.cons (o := _) rfl (fun K hK => ?_) AllReadyH.nil
        go_simp
        go_split_ands
        refine (HW1.out _).mono ?_
        rintro e w2 ⟨rfl, g2⟩
        have gg2 := World.grownBy.trans (a := wr) (by assumption) g2
        first | (refine hK.out _ _ ?_ (fun hHeld => ?_)) | (go_wp2_with fail; refine hK.out _ _ ?_ (fun hHeld => ?_))
        · (try dsimp only); (go_split_ands; (first | (exact HS.out _ (by assumption)) | (exact HS.out _ (grown_dr (by assumption))) | (exact HS.out _ (grown_al (by assumption))) | (exact HS.out _ (grown_dr (grown_al (by assumption))))))
        clear hK K
        refine wpAnyH_ready (rs := [14]) (by kernel_rfl) (by simp) ?_
        refine AllReadyH.cons (o := _) rfl (fun K hK => ?_) AllReadyH.nil
        go_simp
        go_split_ands
        refine (HW2.out _).mono ?_
        rintro e w3 ⟨rfl, g3⟩
        have gg3 := World.grownBy.trans (a := wr) (by assumption) g3
        first | (refine hK.out _ _ ?_ (fun hHeld => ?_)) | (go_wp2_with fail; refine hK.out _ _ ?_ (fun hHeld => ?_))
        · (try dsimp only); (go_split_ands; (first | (exact HS.out _ (by assumption)) | (exact HS.out _ (grown_dr (by assumption))) | (exact HS.out _ (grown_al (by assumption))) | (exact HS.out _ (grown_dr (grown_al (by assumption))))))
        clear hK K
        refine wpAnyH_take (i := 15) (oi := _) (v := .bool false) rfl (by kernel_rfl) (by kernel_rfl) (by kernel_rfl) (fun _ _ _ h => h) (Or.inl ⟨by kernel_rfl, ?_⟩) (by assumption) ?_
        · (intro w hSw; (try dsimp only at hSw); go_simp; exact fun e1 e2 => hne2 ⟨by omega, by omega⟩)
        try go_simp
        refine wpAnyH_take (i := 16) (oi := _) (v := ?_) rfl (by kernel_rfl) (by kernel_rfl) (by kernel_rfl) (fun _ _ _ h => h) (Or.inl ⟨by rfl, ?_⟩) (by assumption) ?_
        rotate_left 1
        · (intro w hSw; (try dsimp only at hSw); go_simp; first | done | with_reducible rfl)
        try go_simp
        refine wpAnyH_done (by kernel_rfl) ?_ _
        refine NoPanic.normal ?_
        go_simp
        have hgw3 := Hww.out.trans gg3
        have hon3 := Ho.out.kept gg3 (Classical.em _)
        have HPF := Lib.hid ((pushW_stop (a := ⟨ab, az, ad⟩) (n := ⟨mb, ms, md⟩) (r := r) HC.out).symm.trans Hpu.out)
        have hk := Hk.out
        subst hk
        go_wp2_with (at_builtin; refine wpList_append_lies _ rfl _ _ 62 rfl base 77 i0 _ 3 32 Try.underlying62 hi0 hz0 hz1 hz2 rfl (by omega) _ (r.length + 1) _ rfl ((hon3.alloc _).drew) ⟨w3.heap.size, 0, none⟩ 1 1 [.int .i64 mb, .int .i64 ms, .string ⟨md.toArray⟩] rfl rfl (World.news_of_block (cs := #[.int .i64 mb, .int .i64 ms, .string ⟨md.toArray⟩]) (t := 77) (fr := (0, 0)) (heap_alloc_new w3 _)) (by intro u hu; simp at hu; rcases hu with rfl | rfl | rfl <;> rfl) (by omega) (by simp only [maxLen]; omega) (by omega) (by have := hgw3.size; simp; omega) _ rfl ?_; intro gg cap w9 hown9 hgrow9 hat9 hlt9)
        go_ret
        exact add_end (w := w) (m := ⟨mb, ms, md⟩) (R := ⟨ab, az, ad⟩ :: r) (N := (r.length + 1)) hB rfl HPF.out hown9 hgrow9 (grown_al hgw3) Hlo.out hat9 (by have := hgw3.size; simp; omega)

end Go.Proofs.Ytljjmoeplfcblaa
