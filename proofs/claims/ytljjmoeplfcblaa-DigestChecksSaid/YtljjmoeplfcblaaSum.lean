/-
  digest.sum, digest.top and digest.rootOf, by their contracts.
-/
import Derived.Test.YtljjmoeplfcblaaAddW
namespace Go.Proofs.Ytljjmoeplfcblaa
open Go.RowKit Go.Shelf
attribute [local go_sem] get_mk extract_mk

/-- a slice of strings, as it is read -/
structure Strs (w : World) (A : Option Addr) (n c : Nat) (l : List Str) : Prop where
  len : n = l.length
  le : n ≤ c
  cap : c ≤ 9223372036854775807
  sl : ∀ s ∈ l, s.length ≤ 4611686018427387904
  cell : 0 < n → ∃ ad, A = some ad ∧ ad.block < w.heap.size ∧ ∀ j s, l[j]? = some s → w.cell? (ad.add j) = some (.string ⟨s.toArray⟩)
theorem add_block (a : Addr) (n : Nat) : (a.add n).block = a.block := by unfold Addr.add; split <;> rfl
theorem Strs.kept {w w' : World} {A : Option Addr} {n c : Nat} {l : List Str} (h : Strs w A n c l) (hg : w.grownBy w' none) : Strs w' A n c l :=
  { h with
    cell := fun h0 => by
      obtain ⟨ad, e, hb, hc⟩ := h.cell h0
      exact ⟨ad, e, Nat.lt_of_lt_of_le hb hg.size, fun j s hj => ((below_of_grown hg).cell (p := ad.add j) (by rw [add_block]; exact hb)).trans (hc j s hj)⟩ }
theorem sum_le (l : List Str) (b : Nat × Nat) : (sumB l b).length ≤ 4611686018427387904 := by rw [sumB_len]; decide

set_option maxRecDepth 100000 in
set_option maxHeartbeats 4000000 in
/-- digest.sum -/
theorem sum_k (A : Option Addr) (n c : Nat) (l : List Str) (hn : n ≤ 1099511627776) : ∀ (f : Nat) (w : World) (b s : Nat), 1 ≤ s → s ≤ f + 1 → b + s ≤ n → Strs w A n c l →
    Calls Try.prog 64 #[.slice A n c, .agg #[.int .i64 b, .int .i64 s]] w fun e w' => e = .returned (.string ⟨(sumB l (b, s)).toArray⟩) ∧ w.grownBy w' none := by
  intro f
  induction f with
  | zero =>
    intro w b s h1 h2 h3 hl
    obtain rfl : s = 1 := by omega
    have h0 : 0 < n := by omega
    obtain ⟨ad, rfl, hab, hc⟩ := hl.cell h0
    obtain ⟨x, hx⟩ : ∃ x, l[b]? = some x := ⟨_, List.getElem?_eq_getElem (by have := hl.len; omega)⟩
    have hcx := hc b x hx
    have hxl := hl.sl x (List.mem_of_getElem? hx)
    have hsum : sumB l (b, 1) = leafD x := by rw [sumB_one, List.getD_eq_getElem?_getD, hx]; rfl
    have hcx1 : (w.alloc (.cells #[.int .i64 b, .int .i64 1] 75)).cell? (ad.add b) = some (.string ⟨x.toArray⟩) := ((below_of_grown (World.grownBy_alloc w (.cells #[.int .i64 b, .int .i64 1] 75) none)).cell (p := ad.add b) (by rw [add_block]; exact hab)).trans hcx
    rw [hsum]
    have q0 : (0 : Int) ≤ (b : Int) := by omega
    have q1 : (b : Int) < (n : Int) := by omega
    clear hc hx hl hsum
    go_enter Try.func64, Try.ntmps64
    go_wp2_with fail
    refine (leaf_k x hxl _).mono ?_
    rintro e w' ⟨rfl, g⟩
    go_wp2_with fail
    go_ret
    exact ⟨rfl, (World.grownBy_alloc w _ none).trans g⟩
  | succ f IH =>
    intro w b s h1 h2 h3 hl
    by_cases hs : s = 1
    · subst hs
      have h0 : 0 < n := by omega
      obtain ⟨ad, rfl, hab, hc⟩ := hl.cell h0
      obtain ⟨x, hx⟩ : ∃ x, l[b]? = some x := ⟨_, List.getElem?_eq_getElem (by have := hl.len; omega)⟩
      have hcx := hc b x hx
      have hxl := hl.sl x (List.mem_of_getElem? hx)
      have hsum : sumB l (b, 1) = leafD x := by rw [sumB_one, List.getD_eq_getElem?_getD, hx]; rfl
      have hcx1 : (w.alloc (.cells #[.int .i64 b, .int .i64 1] 75)).cell? (ad.add b) = some (.string ⟨x.toArray⟩) := ((below_of_grown (World.grownBy_alloc w (.cells #[.int .i64 b, .int .i64 1] 75) none)).cell (p := ad.add b) (by rw [add_block]; exact hab)).trans hcx
      rw [hsum]
      have q0 : (0 : Int) ≤ (b : Int) := by omega
      have q1 : (b : Int) < (n : Int) := by omega
      clear hc hx hl hsum
      go_enter Try.func64, Try.ntmps64
      go_wp2_with fail
      refine (leaf_k x hxl _).mono ?_
      rintro e w' ⟨rfl, g⟩
      go_wp2_with fail
      go_ret
      exact ⟨rfl, (World.grownBy_alloc w _ none).trans g⟩
    · have hs2 : 2 ≤ s := by omega
      have HL : Hid (∀ w', w.grownBy w' none → Strs w' A n c l) := Lib.hid (fun w' g => hl.kept g)
      have q1 : ((s : Int) == 1) = false := by rw [beq_eq_false_iff_ne]; omega
      have hsum := sumB_two l b s hs2
      obtain ⟨h, hh⟩ : ∃ h, s / 2 = h := ⟨_, rfl⟩
      rw [hh] at hsum
      have q2 : (s : Int).tdiv 2 = (h : Int) := by rw [Int.tdiv_eq_ediv_of_nonneg (by omega)]; omega
      have q3 : IntKind.i64.wrap (h : Int) = (h : Int) := by rw [IntKind.wrap_i64]; omega
      have q4 : IntKind.i64.wrap ((b : Int) + (h : Int)) = (b : Int) + (h : Int) := by rw [IntKind.wrap_i64]; omega
      have q5 : (s : Int) / 2 = (h : Int) := by omega
      have q6 : 1 ≤ h ∧ h ≤ f + 1 ∧ b + h ≤ n ∧ b + h + h ≤ n := by omega
      have Q6 := Lib.hid q6
      clear q6 hh
      have HIH := Lib.hid IH
      have Hsum := Lib.hid hsum
      have hbox := heap_alloc_new w (.cells #[.int .i64 b, .int .i64 s] 75)
      have hg0 := World.grownBy_alloc w (.cells #[.int .i64 b, .int .i64 s] 75) none
      clear hl hsum IH
      go_enter Try.func64, Try.ntmps64
      go_wp2_with fail
      obtain ⟨w1, hw1⟩ : ∃ w1, w.alloc (.cells #[.int .i64 b, .int .i64 s] 75) = w1 := ⟨_, rfl⟩
      rw [hw1] at hbox hg0 ⊢
      have lbx := (Array.getElem?_eq_some_iff.1 hbox).1
      clear hw1
      generalize w.heap.size = B at *
      have HS : Hid (∀ w', w1.grownBy w' none → w'.cell? ⟨B, 0, none⟩ = some (.int .i64 b) ∧ w'.cell? ⟨B, 1, none⟩ = some (.int .i64 s) ∧ w1.grownBy w' none) := by
        refine Lib.hid (fun w' g => ?_)
        have hblk := (g.block B lbx (by simp)).trans hbox
        refine ⟨?_, ?_, g⟩ <;> simp [World.cell?, hblk]
      have HL1 : Hid (∀ w', w1.grownBy w' none → Strs w' A n c l) := Lib.hid (fun w' g => HL.out w' (hg0.trans g))
      have Hg0 := Lib.hid hg0
      have g0 : w1.grownBy w1 none := World.grownBy.refl _ _
      clear hbox hg0 lbx
      refine wp_region_noPanic ?_
      refine wp_region_held_drew (S := (fun w' => w'.cell? ⟨B, 0, none⟩ = some (.int .i64 b) ∧ w'.cell? ⟨B, 1, none⟩ = some (.int .i64 s) ∧ w1.grownBy w' none)) (by kernel_rfl) ?_ (fun hHeld => ?_)
      · (try dsimp only); (first | assumption | trivial | (go_split_ands; first | (exact HS.out _ (by assumption)) | (exact HS.out _ (grown_dr (by assumption))) | (exact HS.out _ (grown_al (by assumption)))))
      refine wpAnyH_take (i := 0) (oi := _) (v := ?_) rfl (by kernel_rfl) (by kernel_rfl) (by kernel_rfl) (fun _ _ _ h => h) (Or.inl ⟨by rfl, ?_⟩) (by assumption) ?_
      rotate_left 1
      · (intro w hSw; (try dsimp only at hSw); go_simp; first | done | with_reducible rfl)
      try go_simp
      refine wpAnyH_take (i := 1) (oi := _) (v := ?_) rfl (by kernel_rfl) (by kernel_rfl) (by kernel_rfl) (fun _ _ _ h => h) (Or.inl ⟨by rfl, ?_⟩) (by assumption) ?_
      rotate_left 1
      · (intro w hSw; (try dsimp only at hSw); go_simp; first | done | with_reducible rfl)
      try go_simp
      refine wpAnyH_take (i := 2) (oi := _) (v := ?_) rfl (by kernel_rfl) (by kernel_rfl) (by kernel_rfl) (fun _ _ _ h => h) (Or.inl ⟨by rfl, ?_⟩) (by assumption) ?_
      rotate_left 1
      · (intro w hSw; (try dsimp only at hSw); go_simp; first | done | with_reducible rfl)
      try go_simp
      refine wpAnyH_take (i := 3) (oi := _) (v := ?_) rfl (by kernel_rfl) (by kernel_rfl) (by kernel_rfl) (fun _ _ _ h => h) (Or.inl ⟨by rfl, ?_⟩) (by assumption) ?_
      rotate_left 1
      · (intro w hSw; (try dsimp only at hSw); go_simp; first | done | with_reducible rfl)
      try go_simp
      refine wpAnyH_take (i := 4) (oi := _) (v := ?_) rfl (by kernel_rfl) (by kernel_rfl) (by kernel_rfl) (fun _ _ _ h => h) (Or.inl ⟨by rfl, ?_⟩) (by assumption) ?_
      rotate_left 1
      · (intro w hSw; (try dsimp only at hSw); go_simp; first | done | with_reducible rfl)
      try go_simp
      refine wpAnyH_take (i := 6) (oi := _) (v := ?_) rfl (by kernel_rfl) (by kernel_rfl) (by kernel_rfl) (fun _ _ _ h => h) (Or.inl ⟨by rfl, ?_⟩) (by assumption) ?_
      rotate_left 1
      · (intro w hSw; (try dsimp only at hSw); go_simp; first | done | with_reducible rfl)
      try go_simp
      refine wpAnyH_take (i := 7) (oi := _) (v := ?_) rfl (by kernel_rfl) (by kernel_rfl) (by kernel_rfl) (fun _ _ _ h => h) (Or.inl ⟨by rfl, ?_⟩) (by assumption) ?_
      rotate_left 1
      · (intro w hSw; (try dsimp only at hSw); go_simp; first | done | with_reducible rfl)
      try go_simp
      refine wpAnyH_take (i := 8) (oi := _) (v := ?_) rfl (by kernel_rfl) (by kernel_rfl) (by kernel_rfl) (fun _ _ _ h => h) (Or.inl ⟨by rfl, ?_⟩) (by assumption) ?_
      rotate_left 1
      · (intro w hSw; (try dsimp only at hSw); go_simp; first | done | with_reducible rfl)
      try go_simp
      refine wpAnyH_take (i := 9) (oi := _) (v := ?_) rfl (by kernel_rfl) (by kernel_rfl) (by kernel_rfl) (fun _ _ _ h => h) (Or.inl ⟨by rfl, ?_⟩) (by assumption) ?_
      rotate_left 1
      · (intro w hSw; (try dsimp only at hSw); go_simp; first | done | with_reducible rfl)
      try go_simp
      refine wpAnyH_take (i := 10) (oi := _) (v := ?_) rfl (by kernel_rfl) (by kernel_rfl) (by kernel_rfl) (fun _ _ _ h => h) (Or.inl ⟨by rfl, ?_⟩) (by assumption) ?_
      rotate_left 1
      · (intro w hSw; (try dsimp only at hSw); go_simp; first | done | with_reducible rfl)
      try go_simp
      refine wpAnyH_take (i := 11) (oi := _) (v := ?_) rfl (by kernel_rfl) (by kernel_rfl) (by kernel_rfl) (fun _ _ _ h => h) (Or.inl ⟨by rfl, ?_⟩) (by assumption) ?_
      rotate_left 1
      · (intro w hSw; (try dsimp only at hSw); go_simp; first | done | with_reducible rfl)
      try go_simp
      refine wpAnyH_take (i := 12) (oi := _) (v := ?_) rfl (by kernel_rfl) (by kernel_rfl) (by kernel_rfl) (fun _ _ _ h => h) (Or.inl ⟨by rfl, ?_⟩) (by assumption) ?_
      rotate_left 1
      · (intro w hSw; (try dsimp only at hSw); go_simp; first | done | with_reducible rfl)
      try go_simp
      refine wpAnyH_ready (rs := [5]) (by kernel_rfl) (by simp) ?_
      refine AllReadyH.cons (o := _) rfl (fun K hK => ?_) AllReadyH.nil
      go_simp
      go_split_ands
      refine (HIH.out _ b h Q6.out.1 Q6.out.2.1 Q6.out.2.2.1 (HL1.out _ (by first | assumption | exact grown_dr (by assumption)))).mono ?_
      rintro e w2 ⟨rfl, g2⟩
      have gg2 := World.grownBy.trans (a := w1) (by first | assumption | exact grown_dr (by assumption)) g2
      first | (refine hK.out _ _ ?_ (fun hHeld => ?_)) | (go_wp2_with fail; refine hK.out _ _ ?_ (fun hHeld => ?_))
      · (try dsimp only); (first | assumption | trivial | (go_split_ands; first | (exact HS.out _ (by assumption)) | (exact HS.out _ (grown_dr (by assumption))) | (exact HS.out _ (grown_al (by assumption)))))
      clear hK K
      refine wpAnyH_ready (rs := [13]) (by kernel_rfl) (by simp) ?_
      refine AllReadyH.cons (o := _) rfl (fun K hK => ?_) AllReadyH.nil
      go_simp
      go_split_ands
      refine (HIH.out _ (b + h) h Q6.out.1 Q6.out.2.1 Q6.out.2.2.2 (HL1.out _ (by first | assumption | exact grown_dr (by assumption)))).mono ?_
      rintro e w3 ⟨rfl, g3⟩
      have gg3 := World.grownBy.trans (a := w1) (by first | assumption | exact grown_dr (by assumption)) g3
      first | (refine hK.out _ _ ?_ (fun hHeld => ?_)) | (go_wp2_with fail; refine hK.out _ _ ?_ (fun hHeld => ?_))
      · (try dsimp only); (first | assumption | trivial | (go_split_ands; first | (exact HS.out _ (by assumption)) | (exact HS.out _ (grown_dr (by assumption))) | (exact HS.out _ (grown_al (by assumption)))))
      clear hK K
      refine wpAnyH_ready (rs := [14]) (by kernel_rfl) (by simp) ?_
      refine AllReadyH.cons (o := _) rfl (fun K hK => ?_) AllReadyH.nil
      go_simp
      go_split_ands
      refine (pair_k _ _ (sum_le _ _) (sum_le _ _) _).mono ?_
      rintro e w4 ⟨rfl, g4⟩
      have gg4 := World.grownBy.trans (a := w1) (by first | assumption | exact grown_dr (by assumption)) g4
      first | (refine hK.out _ _ ?_ (fun hHeld => ?_)) | (go_wp2_with fail; refine hK.out _ _ ?_ (fun hHeld => ?_))
      · (try dsimp only); (first | assumption | trivial | (go_split_ands; first | (exact HS.out _ (by assumption)) | (exact HS.out _ (grown_dr (by assumption))) | (exact HS.out _ (grown_al (by assumption)))))
      clear hK K
      refine wpAnyH_take (i := 15) (oi := _) (v := ?_) rfl (by kernel_rfl) (by kernel_rfl) (by kernel_rfl) (fun _ _ _ h => h) (Or.inl ⟨by rfl, ?_⟩) (by assumption) ?_
      rotate_left 1
      · (intro w hSw; (try dsimp only at hSw); go_simp; first | done | with_reducible rfl)
      try go_simp
      refine wpAnyH_done (by kernel_rfl) ?_ _
      refine NoPanic.normal ?_
      go_simp
      go_wp2_with fail
      go_ret
      exact ⟨by rw [Hsum.out]; rfl, Hg0.out.trans gg4⟩

/-- a stack of nodes as digest.top reads it -/
theorem node_at {w : World} {base : Nat} {v : Value} {L : List Nd} (h : w.ownsRow base 77 3 v L.length (ndcs L)) (k : Nat) (a : Nd) (hk : L[k]? = some a) : ∃ g cap, v = .slice (some ⟨g, 0, none⟩) L.length cap ∧ g < w.heap.size ∧ NdAt w g k a := by
  have hlt := (List.getElem?_eq_some_iff.1 hk).1
  rcases h.2 with ⟨_, h0⟩ | ⟨g, cap, cur, rfl, hb, hg, h1, h2, h3, h4⟩
  · omega
  · have hl : ∀ (r : List Nd) (k : Nat) (q : Nat) (x : Value), r[k]? = some a → (ndc a)[q]? = some x → (ndcs r)[k * 3 + q]? = some x := by
      intro r
      induction r with
      | nil => intro k q x h; simp at h
      | cons d r ih =>
        intro k q x h hx
        have h3 : (ndc d).length = 3 := rfl
        cases k with
        | zero =>
          have : d = a := by simpa using h
          subst this
          rw [ndcs, List.flatMap_cons, Nat.zero_mul, Nat.zero_add, List.getElem?_append_left (List.getElem?_eq_some_iff.1 hx).1]
          exact hx
        | succ k =>
          rw [ndcs, List.flatMap_cons, List.getElem?_append_right (by rw [h3]; omega), h3, show (k + 1) * 3 + q - 3 = k * 3 + q by omega]
          exact ih k q x (by simpa using h) hx
    have hc : ∀ q x, (ndc a)[q]? = some x → w.cell? ⟨g, k * 3 + q, none⟩ = some x := fun q x hx => by
      have := hl L k q x hk hx
      rw [← h4, List.getElem?_take] at this
      split at this
      · simpa [World.cell?, hg] using this
      · cases this
    exact ⟨g, cap, rfl, (Array.getElem?_eq_some_iff.1 hg).1, hc 0 _ rfl, hc 1 _ rfl, hc 2 _ rfl⟩
end Go.Proofs.Ytljjmoeplfcblaa
