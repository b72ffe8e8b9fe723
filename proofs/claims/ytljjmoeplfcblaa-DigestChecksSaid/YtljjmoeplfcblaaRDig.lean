/-
  The reference's digests, by its contract.
-/
import Derived.Test.YtljjmoeplfcblaaRSum
namespace Go.Proofs.Ytljjmoeplfcblaa
open Go.RowKit Go.Shelf
attribute [local go_sem] get_mk extract_mk
theorem grown_drR {a w : World} {row : Option Nat} (h : a.grownBy w row) : a.grownBy w.drew row := ⟨h.os, h.tape, h.output, h.size, h.block⟩
theorem grown_alR {a w : World} {o : Obj} {row : Option Nat} (h : a.grownBy w row) : a.grownBy (w.alloc o) row := h.trans (World.grownBy_alloc w o row)
theorem gcellR {w w' : World} {row : Option Nat} {a : Addr} {v : Value} (h : w.grownBy w' row) (hne : some a.block ≠ row) (c : w.cell? a = some v) : w'.cell? a = some v := h.cell c hne
/-- a node of a row, of whatever type the row's elements are -/
theorem node_in {w : World} {base e : Nat} {v : Value} {L : List Nd} (h : w.ownsRow base e 3 v L.length (ndcs L)) (k : Nat) (a : Nd) (hk : L[k]? = some a) : ∃ g cap, v = .slice (some ⟨g, 0, none⟩) L.length cap ∧ g < w.heap.size ∧ NdAt w g k a := by
  have hlt := (List.getElem?_eq_some_iff.1 hk).1
  rcases h.2 with ⟨_, h0⟩ | ⟨g, cap, cur, rfl, hb, hg, h1, h2, h3, h4⟩
  · omega
  · have hl : ∀ (r : List Nd) (k : Nat) (q : Nat) (x : Value), r[k]? = some a → (ndc a)[q]? = some x → (ndcs r)[k * 3 + q]? = some x := by
      intro r
      induction r with
      | nil => intro k q x h; simp at h
      | cons d r ih =>
        intro k q x h hx
        have h3 : (ndc d).length = 3 := rfl
        cases k with
        | zero =>
          have : d = a := by simpa using h
          subst this
          rw [ndcs, List.flatMap_cons, Nat.zero_mul, Nat.zero_add, List.getElem?_append_left (List.getElem?_eq_some_iff.1 hx).1]
          exact hx
        | succ k =>
          rw [ndcs, List.flatMap_cons, List.getElem?_append_right (by rw [h3]; omega), h3, show (k + 1) * 3 + q - 3 = k * 3 + q by omega]
          exact ih k q x (by simpa using h) hx
    have hc : ∀ q x, (ndc a)[q]? = some x → w.cell? ⟨g, k * 3 + q, none⟩ = some x := fun q x hx => by
      have := hl L k q x hk hx
      rw [← h4, List.getElem?_take] at this
      split at this
      · simpa [World.cell?, hg] using this
      · cases this
    exact ⟨g, cap, rfl, (Array.getElem?_eq_some_iff.1 hg).1, hc 0 _ rfl, hc 1 _ rfl, hc 2 _ rfl⟩
theorem sums_at {l : List Str} {i j k : Nat} {x : Nat × Nat} (h : (blocks i j)[k]? = some x) : (sums l i j).take (k + 1) = (sums l i j).take k ++ [sumB l x] := by
  have : (sums l i j)[k]? = some (sumB l x) := by simp [sums, h]
  rw [List.take_add_one, this]; rfl
theorem bare_at {l : List (Nat × Nat)} {k : Nat} {x : Nat × Nat} (h : l[k]? = some x) : (bare l)[k]? = some ⟨x.1, x.2, []⟩ := by simp [bare, h]
/-- the strings of a row -/
def svs (l : List Str) : List Value := l.map fun s => .string ⟨s.toArray⟩
def DRel (_ w1 : World) (l : List Str) (i j N : Nat) (z v : Value) (wr : World) : Prop :=
  ∃ k : Nat, k ≤ N ∧ z = .int .i64 k ∧ wr.ownsRow w1.heap.size 9 1 v k (svs ((sums l i j).take k)) ∧ w1.grownBy wr none
set_option maxRecDepth 100000 in
set_option maxHeartbeats 8000000 in
/-- the reference's digests -/
theorem digests_r (A : Option Addr) (n c : Nat) (l : List Str) (hn : n ≤ 1099511627776) (hsh : ∀ x ∈ l, x.length ≤ 1152921504606846976) (i j : Nat) (hi : i ≤ 2199023255552) (hj : j ≤ n) (w : World) (hl : Strs w A n c l) :
    Calls Try.prog 53 #[.slice A n c, .int .i64 i, .int .i64 j] w fun e w' => ∃ v, e = .returned v ∧ w'.ownsRow w.heap.size 9 1 v (sums l i j).length (svs (sums l i j)) ∧ w.grownBy w' none := by
  obtain ⟨i0, hi0, hz0, hz1, hz2⟩ := info_parts info9
  have OF := Lib.hid (fun (w : World) (b s : Nat) (h1 : 1 ≤ s) (h2 : s ≤ n + 1) (h3 : b + s ≤ n) (hl : Strs w A n c l) => of2_r A n c l hn hsh n w b s h1 h2 h3 hl)
  have HL := Lib.hid (fun w' (g : w.grownBy w' none) => hl.kept g)
  clear hl hsh
  go_enter Try.func53, Try.ntmps53
  go_wp2_with fail
  refine (blocks_r i j hi (by omega) w).mono ?_
  rintro e w1 ⟨v8, rfl, hb, hg1⟩
  have hb0 := bare_len (blocks i j)
  have hbn := blocks_len' i j
  obtain ⟨A8, c8, rfl, hc8, hc9⟩ := slice_of hb
  have HSL : Hid ((sums l i j).length = (blocks i j).length) := Lib.hid (by simp [sums])
  have HB := Lib.hid (fun k x (h : (blocks i j)[k]? = some x) => node_in hb k _ (bare_at h))
  clear hb
  obtain ⟨N, hN⟩ : ∃ N, (bare (blocks i j)).length = N := ⟨_, rfl⟩
  rw [hN] at hc8 hb0 ⊢
  have HNN := Lib.hid hb0
  rw [← hb0] at hbn
  have HB : Hid (∀ k x, (blocks i j)[k]? = some x → ∃ g cap, Value.slice A8 N c8 = .slice (some ⟨g, 0, none⟩) N cap ∧ g < w1.heap.size ∧ NdAt w1 g k ⟨x.1, x.2, []⟩) := Lib.hid (by have := HB.out; rw [hN] at this; exact this)
  clear hN hb0
  go_wp2_with fail
  go_loopw [9, 7] (fun z v wr => DRel w w1 l i j N z v wr) (fun z _ _ => N - (intOf z).toNat)
  case atStart => exact ⟨0, Nat.zero_le _, rfl, World.ownsRow_nil _ _ _ _, World.grownBy.refl _ _⟩
  case round =>
    obtain ⟨k, hk, rfl, ho, hgr⟩ := hrel
    by_cases hlt : k < N
    · obtain ⟨x, hx⟩ : ∃ x, (blocks i j)[k]? = some x := ⟨_, List.getElem?_eq_getElem (by have := HNN.out; omega)⟩
      obtain ⟨g8, cap8, e8, hg8, m0, m1, _⟩ := HB.out k x hx
      injection e8 with e8a _ e8b
      subst e8a e8b
      obtain ⟨_, hx1, hx2⟩ := blocks_mem (List.mem_of_getElem? hx)
      have hx2 : x.1 + x.2 ≤ n := by omega
      have HX := Lib.hid hx
      have c0 := hgr.cell m0 (by simp)
      have c1 := hgr.cell m1 (by simp)
      have Ho := Lib.hid ho
      have hg := hg1.trans hgr
      have hsz := hgr.size
      have Hne : Hid (some g8 ≠ u7.ownBlock) := Lib.hid (fun e => by have := own_fresh Ho.out g8 e.symm; omega)
      have r1 : (0 : Int) ≤ (k : Int) := by omega
      have r2 : (k : Int) < (N : Int) := by omega
      have r3 : IntKind.i64.wrap ((k : Int) + 1) = (k : Int) + 1 := by rw [IntKind.wrap_i64]; omega
      clear hx ho m0 m1
      go_upto_region 6 with fail
      refine wp_region_noPanic ?_
      refine wp_region_held_drew (S := (fun w' => wr.grownBy w' u7.ownBlock)) (by kernel_rfl) ?_ (fun hHeld => ?_)
      · (try dsimp only); (repeat (first | assumption | exact World.grownBy.refl _ _ | refine grown_drR ?_ | refine grown_alR ?_))
      refine wpAnyH_take (i := 0) (oi := _) (v := ?_) rfl (by kernel_rfl) (by kernel_rfl) (by kernel_rfl) (fun _ _ _ h => h) (Or.inl ⟨by rfl, ?_⟩) (by assumption) ?_
      rotate_left 1
      · (intro w hSw; (try dsimp only at hSw); go_simp; first | done | with_reducible rfl)
      try go_simp
      refine wpAnyH_take (i := 1) (oi := _) (v := ?_) rfl (by kernel_rfl) (by kernel_rfl) (by kernel_rfl) (fun _ _ _ h => h) (Or.inl ⟨by rfl, ?_⟩) (by assumption) ?_
      rotate_left 1
      · (intro w hSw; (try dsimp only at hSw); go_simp; first | done | with_reducible rfl)
      try go_simp
      refine wpAnyH_take (i := 2) (oi := _) (v := ?_) rfl (by kernel_rfl) (by kernel_rfl) (by kernel_rfl) (fun _ _ _ h => h) (Or.inl ⟨by rfl, ?_⟩) (by assumption) ?_
      rotate_left 1
      · (intro w hSw; (try dsimp only at hSw); go_simp; first | done | with_reducible rfl)
      try go_simp
      refine wpAnyH_take (i := 3) (oi := _) (v := ?_) rfl (by kernel_rfl) (by kernel_rfl) (by kernel_rfl) (fun _ _ _ h => h) (Or.inl ⟨by rfl, ?_⟩) (by assumption) ?_
      rotate_left 1
      · (intro w hSw; (try dsimp only at hSw); go_simp; first | done | with_reducible rfl)
      try go_simp
      refine wpAnyH_take (i := 4) (oi := _) (v := ?_) rfl (by kernel_rfl) (by kernel_rfl) (by kernel_rfl) (fun _ _ _ h => h) (Or.inl ⟨by rfl, ?_⟩) (by assumption) ?_
      rotate_left 1
      · (intro w hSw; (try dsimp only at hSw); go_simp; first | done | with_reducible rfl)
      try go_simp
      refine wpAnyH_take (i := 5) (oi := _) (v := ?_) rfl (by kernel_rfl) (by kernel_rfl) (by kernel_rfl) (fun _ _ _ h => h) (Or.inl ⟨by rfl, ?_⟩) (by assumption) ?_
      rotate_left 1
      · (intro w hSw; (try dsimp only at hSw); go_simp; first | done | with_reducible rfl)
      try go_simp
      refine wpAnyH_take (i := 6) (oi := _) (v := .int .i64 x.1) rfl (by kernel_rfl) (by kernel_rfl) (by kernel_rfl) (fun _ _ _ h => h) (Or.inl ⟨by kernel_rfl, ?_⟩) (by assumption) ?_
      · (intro w hSw; (try dsimp only at hSw); go_simp; have q0 := gcellR hSw Hne.out c0; clear hSw; go_simp; first | done | with_reducible rfl)
      try go_simp
      refine wpAnyH_take (i := 7) (oi := _) (v := ?_) rfl (by kernel_rfl) (by kernel_rfl) (by kernel_rfl) (fun _ _ _ h => h) (Or.inl ⟨by rfl, ?_⟩) (by assumption) ?_
      rotate_left 1
      · (intro w hSw; (try dsimp only at hSw); go_simp; first | done | with_reducible rfl)
      try go_simp
      refine wpAnyH_take (i := 8) (oi := _) (v := ?_) rfl (by kernel_rfl) (by kernel_rfl) (by kernel_rfl) (fun _ _ _ h => h) (Or.inl ⟨by rfl, ?_⟩) (by assumption) ?_
      rotate_left 1
      · (intro w hSw; (try dsimp only at hSw); go_simp; first | done | with_reducible rfl)
      try go_simp
      refine wpAnyH_take (i := 9) (oi := _) (v := ?_) rfl (by kernel_rfl) (by kernel_rfl) (by kernel_rfl) (fun _ _ _ h => h) (Or.inl ⟨by rfl, ?_⟩) (by assumption) ?_
      rotate_left 1
      · (intro w hSw; (try dsimp only at hSw); go_simp; first | done | with_reducible rfl)
      try go_simp
      refine wpAnyH_take (i := 10) (oi := _) (v := ?_) rfl (by kernel_rfl) (by kernel_rfl) (by kernel_rfl) (fun _ _ _ h => h) (Or.inl ⟨by rfl, ?_⟩) (by assumption) ?_
      rotate_left 1
      · (intro w hSw; (try dsimp only at hSw); go_simp; first | done | with_reducible rfl)
      try go_simp
      refine wpAnyH_take (i := 11) (oi := _) (v := .int .i64 x.2) rfl (by kernel_rfl) (by kernel_rfl) (by kernel_rfl) (fun _ _ _ h => h) (Or.inl ⟨by kernel_rfl, ?_⟩) (by assumption) ?_
      · (intro w hSw; (try dsimp only at hSw); go_simp; have q0 := gcellR hSw Hne.out c1; clear hSw; go_simp; first | done | with_reducible rfl)
      try go_simp
      refine wpAnyH_ready (rs := [12]) (by kernel_rfl) (by simp) ?_
      refine AllReadyH.cons (o := _) rfl (fun K hK => ?_) AllReadyH.nil
      go_simp
      refine (OF.out wr.drew x.1 x.2 hx1 (by omega) hx2 (HL.out _ (hg.trans (grown_dr (World.grownBy.refl _ _))))).mono ?_
      rintro e w2 ⟨rfl, g2⟩
      have gn : wr.grownBy w2 none := (grown_dr (World.grownBy.refl _ _)).trans g2
      have gv := grown_any gn u7.ownBlock
      first | (refine hK.out _ _ ?_ (fun hHeld => ?_)) | (go_wp2_with fail; refine hK.out _ _ ?_ (fun hHeld => ?_))
      · (try dsimp only); (repeat (first | assumption | exact World.grownBy.refl _ _ | refine grown_drR ?_ | refine grown_alR ?_))
      clear hK K
      refine wpAnyH_ready (rs := [13]) (by kernel_rfl) (by simp) ?_
      refine AllReadyH.cons (o := _) rfl (fun K hK => ?_) AllReadyH.nil
      go_simp
      first | (refine hK.out _ _ ?_ (fun hHeld => ?_)) | (go_wp2_with fail; refine hK.out _ _ ?_ (fun hHeld => ?_))
      · (try dsimp only); (repeat (first | assumption | exact World.grownBy.refl _ _ | refine grown_drR ?_ | refine grown_alR ?_))
      clear hK K
      refine wpAnyH_ready (rs := [14]) (by kernel_rfl) (by simp) ?_
      refine AllReadyH.cons (o := _) rfl (fun K hK => ?_) AllReadyH.nil
      have ga := World.grownBy_alloc w2 (.cells #[.string ⟨(sumB l (x.1, x.2)).toArray⟩] 9) none
      have ho3 := (Ho.out.kept gn (Classical.em _)).alloc (.cells #[.string ⟨(sumB l (x.1, x.2)).toArray⟩] 9)
      have hsz2 := gn.size
      refine step_append_lies _ rfl _ _ 29 rfl w1.heap.size 9 i0 _ 1 16 Try.underlying29 hi0 hz0 hz1 hz2 rfl (by omega) u7 k _ (by rfl) ho3 ⟨w2.heap.size, 0, none⟩ 1 1 [.string ⟨(sumB l (x.1, x.2)).toArray⟩] (by rfl) rfl (World.news_of_block (cs := #[.string ⟨(sumB l (x.1, x.2)).toArray⟩]) (t := 9) (fr := (0, 0)) (heap_alloc_new w2 _)) (by intro u hu; rw [List.mem_singleton] at hu; rw [hu]; rfl) (by omega) (by simp only [maxLen]; omega) (by omega) (by simp; omega) _ rfl ?_
      intro g cap w9 hown9 hgrow9 hat9 hlt9
      have g9 : wr.grownBy w9 u7.ownBlock := (grown_any (gn.trans ga) _).trans hgrow9
      refine hK.out _ _ ?_ (fun hHeld => ?_)
      · (try dsimp only); assumption
      clear hK K hat9
      try go_simp
      refine wpAnyH_take (i := 15) (oi := _) (v := ?_) rfl (by kernel_rfl) (by kernel_rfl) (by kernel_rfl) (fun _ _ _ h => h) (Or.inl ⟨by rfl, ?_⟩) (by assumption) ?_
      rotate_left 1
      · (intro w hSw; (try dsimp only at hSw); go_simp; first | done | with_reducible rfl)
      try go_simp
      refine wpAnyH_done (by kernel_rfl) ?_ _
      refine NoPanic.normal ?_
      go_simp
      have hsn : svs ((sums l i j).take (k + 1)) = svs ((sums l i j).take k) ++ [.string ⟨(sumB l (x.1, x.2)).toArray⟩] := by rw [sums_at HX.out]; simp [svs]
      rw [← hsn] at hown9
      have hown9 := Lib.hid hown9
      have G := Lib.hid (hgr.andThen g9 fun r e => .inl (own_fresh Ho.out r e))
      clear hsn c0 c1 hgrow9 ga ho3 gv g9 hHeld gn g2 hgr hg
      go_wp2_with fail
      exact ⟨⟨k + 1, by omega, by go_num, hown9.out, G.out⟩, by simp [intOf]; omega⟩
    · obtain rfl : k = N := by omega
      have Ho : Hid (wr.ownsRow w.heap.size 9 1 u7 (sums l i j).length (svs (sums l i j))) := Lib.hid (by
        have e := HSL.out
        have e2 := HNN.out
        rw [List.take_of_length_le (by omega)] at ho
        rw [e, ← e2]
        exact own_base ho hg1.size)
      clear ho
      go_wp2_with fail
      go_ret
      exact ⟨_, rfl, Ho.out, hg1.trans hgr⟩
end Go.Proofs.Ytljjmoeplfcblaa
