/-
  The reference's with, by its contract.
-/
import Derived.Test.YtljjmoeplfcblaaRDig
namespace Go.Proofs.Ytljjmoeplfcblaa
open Go.RowKit Go.Shelf
attribute [local go_sem] get_mk extract_mk
theorem nodes_at : ∀ (bs : List (Nat × Nat)) (ds : List Str) (k : Nat) (x : Nat × Nat) (s : Str), bs[k]? = some x → ds[k]? = some s → (nodes bs ds)[k]? = some ⟨x.1, x.2, s⟩
  | b :: bs, d :: ds, 0, x, s, hb, hd => by
    simp at hb hd; subst hb hd; rfl
  | b :: bs, d :: ds, k + 1, x, s, hb, hd => by
    simp at hb hd; simpa [nodes] using nodes_at bs ds k x s hb hd
  | [], _, _, _, _, hb, _ => by simp at hb
  | _ :: _, [], _, _, _, _, hd => by simp at hd
theorem nodes_len : ∀ (bs : List (Nat × Nat)) (ds : List Str), bs.length ≤ ds.length → (nodes bs ds).length = bs.length
  | [], _, _ => rfl
  | b :: bs, d :: ds, h => by simp [nodes, nodes_len bs ds (by simpa using h)]
  | _ :: _, [], h => by simp at h
def WRel (w : World) (bs : List (Nat × Nat)) (ds : List Str) (N : Nat) (z v : Value) (wr : World) : Prop :=
  ∃ k : Nat, k ≤ N ∧ z = .int .i64 k ∧ wr.ownsRow w.heap.size 79 3 v k (ndcs ((nodes bs ds).take k)) ∧ w.grownBy wr none
set_option maxRecDepth 100000 in
set_option maxHeartbeats 8000000 in
/-- the reference's with -/
theorem with_r (base : Nat) (v : Value) (bs : List (Nat × Nat)) (hN : bs.length ≤ 1099511627776) (A : Option Addr) (n c : Nat) (ds : List Str) (hle : bs.length ≤ n) (w : World) (hb : w.ownsRow base 79 3 v (bare bs).length (ndcs (bare bs))) (hl : Strs w A n c ds) :
    Calls Try.prog 51 #[v, .slice A n c] w fun e w' => ∃ v', e = .returned v' ∧ w'.ownsRow w.heap.size 79 3 v' (nodes bs ds).length (ndcs (nodes bs ds)) ∧ w.grownBy w' none := by
  obtain ⟨i0, hi0, hz0, hz1, hz2⟩ := info_parts info79
  have hb0 := bare_len bs
  obtain ⟨A8, c8, rfl, hc8, hc9⟩ := slice_of hb
  have HSL : Hid ((nodes bs ds).length = bs.length) := Lib.hid (nodes_len bs ds (by have := hl.len; omega))
  have HB := Lib.hid (fun k x (h : bs[k]? = some x) => node_in hb k _ (bare_at h))
  have HLN : Hid (n = ds.length) := Lib.hid hl.len
  have HC : Hid (0 < n → ∃ ad, A = some ad ∧ ad.block < w.heap.size ∧ ∀ j s, ds[j]? = some s → w.cell? (ad.add j) = some (.string ⟨s.toArray⟩)) := Lib.hid hl.cell
  have hcap := hl.cap
  have hcle := hl.le
  clear hb hl
  obtain ⟨N, hNN⟩ : ∃ N, (bare bs).length = N := ⟨_, rfl⟩
  rw [hNN] at hc8 hb0 ⊢
  have HNN := Lib.hid hb0
  rw [← hb0] at hN hle
  have HB : Hid (∀ k x, bs[k]? = some x → ∃ g cap, Value.slice A8 N c8 = .slice (some ⟨g, 0, none⟩) N cap ∧ g < w.heap.size ∧ NdAt w g k ⟨x.1, x.2, []⟩) := Lib.hid (by have := HB.out; rw [hNN] at this; exact this)
  clear hNN hb0
  go_enter Try.func51, Try.ntmps51
  go_wp2_with fail
  go_loopw [6, 5] (fun z v wr => WRel w bs ds N z v wr) (fun z _ _ => N - (intOf z).toNat)
  case atStart => exact ⟨0, Nat.zero_le _, rfl, World.ownsRow_nil _ _ _ _, World.grownBy.refl _ _⟩
  case round =>
    obtain ⟨k, hk, rfl, ho, hgr⟩ := hrel
    by_cases hlt : k < N
    · obtain ⟨x, hx⟩ : ∃ x, bs[k]? = some x := ⟨_, List.getElem?_eq_getElem (by have := HNN.out; omega)⟩
      obtain ⟨s, hs⟩ : ∃ s, ds[k]? = some s := ⟨_, List.getElem?_eq_getElem (by have := HLN.out; omega)⟩
      obtain ⟨g8, cap8, e8, hg8, m0, m1, _⟩ := HB.out k x hx
      obtain ⟨ad, rfl, hab, hcs⟩ := HC.out (by omega)
      injection e8 with e8a _ e8b
      subst e8a e8b
      have HX := Lib.hid (nodes_at bs ds k x s hx hs)
      have c0 := hgr.cell m0 (by simp)
      have c1 := hgr.cell m1 (by simp)
      have c2 := hgr.cell (hcs k s hs) (by simp)
      have Ho := Lib.hid ho
      have hsz := hgr.size
      have Hne : Hid (some g8 ≠ u5.ownBlock) := Lib.hid (fun e => by have := own_fresh Ho.out g8 e.symm; omega)
      have Hne2 : Hid (some (ad.add k).block ≠ u5.ownBlock) := Lib.hid (fun e => by have := own_fresh Ho.out _ e.symm; rw [add_block] at this; omega)
      have r1 : (0 : Int) ≤ (k : Int) := by omega
      have r2 : (k : Int) < (N : Int) := by omega
      have r4 : (k : Int) < (n : Int) := by omega
      have r3 : IntKind.i64.wrap ((k : Int) + 1) = (k : Int) + 1 := by rw [IntKind.wrap_i64]; omega
      clear hx ho m0 m1 hcs hs
      go_upto_region 5 with fail
      refine wp_region_noPanic ?_
      refine wp_region_held_drew (S := (fun w' => wr.grownBy w' u5.ownBlock)) (by kernel_rfl) ?_ (fun hHeld => ?_)
      · (try dsimp only); (repeat (first | assumption | exact World.grownBy.refl _ _ | refine grown_drR ?_ | refine grown_alR ?_))
      refine wpAnyH_take (i := 0) (oi := _) (v := ?_) rfl (by kernel_rfl) (by kernel_rfl) (by kernel_rfl) (fun _ _ _ h => h) (Or.inl ⟨by rfl, ?_⟩) (by assumption) ?_
      rotate_left 1
      · (intro w hSw; (try dsimp only at hSw); go_simp; first | done | with_reducible rfl)
      try go_simp
      refine wpAnyH_take (i := 1) (oi := _) (v := ?_) rfl (by kernel_rfl) (by kernel_rfl) (by kernel_rfl) (fun _ _ _ h => h) (Or.inl ⟨by rfl, ?_⟩) (by assumption) ?_
      rotate_left 1
      · (intro w hSw; (try dsimp only at hSw); go_simp; first | done | with_reducible rfl)
      try go_simp
      refine wpAnyH_take (i := 2) (oi := _) (v := ?_) rfl (by kernel_rfl) (by kernel_rfl) (by kernel_rfl) (fun _ _ _ h => h) (Or.inl ⟨by rfl, ?_⟩) (by assumption) ?_
      rotate_left 1
      · (intro w hSw; (try dsimp only at hSw); go_simp; first | done | with_reducible rfl)
      try go_simp
      refine wpAnyH_take (i := 3) (oi := _) (v := ?_) rfl (by kernel_rfl) (by kernel_rfl) (by kernel_rfl) (fun _ _ _ h => h) (Or.inl ⟨by rfl, ?_⟩) (by assumption) ?_
      rotate_left 1
      · (intro w hSw; (try dsimp only at hSw); go_simp; first | done | with_reducible rfl)
      try go_simp
      refine wpAnyH_take (i := 4) (oi := _) (v := ?_) rfl (by kernel_rfl) (by kernel_rfl) (by kernel_rfl) (fun _ _ _ h => h) (Or.inl ⟨by rfl, ?_⟩) (by assumption) ?_
      rotate_left 1
      · (intro w hSw; (try dsimp only at hSw); go_simp; first | done | with_reducible rfl)
      try go_simp
      refine wpAnyH_take (i := 5) (oi := _) (v := .int .i64 x.1) rfl (by kernel_rfl) (by kernel_rfl) (by kernel_rfl) (fun _ _ _ h => h) (Or.inl ⟨by kernel_rfl, ?_⟩) (by assumption) ?_
      · (intro w hSw; (try dsimp only at hSw); go_simp; have q0 := gcellR hSw Hne.out c0; clear hSw; go_simp; first | done | with_reducible rfl)
      try go_simp
      refine wpAnyH_take (i := 6) (oi := _) (v := ?_) rfl (by kernel_rfl) (by kernel_rfl) (by kernel_rfl) (fun _ _ _ h => h) (Or.inl ⟨by rfl, ?_⟩) (by assumption) ?_
      rotate_left 1
      · (intro w hSw; (try dsimp only at hSw); go_simp; first | done | with_reducible rfl)
      try go_simp
      refine wpAnyH_take (i := 7) (oi := _) (v := ?_) rfl (by kernel_rfl) (by kernel_rfl) (by kernel_rfl) (fun _ _ _ h => h) (Or.inl ⟨by rfl, ?_⟩) (by assumption) ?_
      rotate_left 1
      · (intro w hSw; (try dsimp only at hSw); go_simp; first | done | with_reducible rfl)
      try go_simp
      refine wpAnyH_take (i := 8) (oi := _) (v := ?_) rfl (by kernel_rfl) (by kernel_rfl) (by kernel_rfl) (fun _ _ _ h => h) (Or.inl ⟨by rfl, ?_⟩) (by assumption) ?_
      rotate_left 1
      · (intro w hSw; (try dsimp only at hSw); go_simp; first | done | with_reducible rfl)
      try go_simp
      refine wpAnyH_take (i := 9) (oi := _) (v := ?_) rfl (by kernel_rfl) (by kernel_rfl) (by kernel_rfl) (fun _ _ _ h => h) (Or.inl ⟨by rfl, ?_⟩) (by assumption) ?_
      rotate_left 1
      · (intro w hSw; (try dsimp only at hSw); go_simp; first | done | with_reducible rfl)
      try go_simp
      refine wpAnyH_take (i := 10) (oi := _) (v := .int .i64 x.2) rfl (by kernel_rfl) (by kernel_rfl) (by kernel_rfl) (fun _ _ _ h => h) (Or.inl ⟨by kernel_rfl, ?_⟩) (by assumption) ?_
      · (intro w hSw; (try dsimp only at hSw); go_simp; have q0 := gcellR hSw Hne.out c1; clear hSw; go_simp; first | done | with_reducible rfl)
      try go_simp
      refine wpAnyH_take (i := 11) (oi := _) (v := ?_) rfl (by kernel_rfl) (by kernel_rfl) (by kernel_rfl) (fun _ _ _ h => h) (Or.inl ⟨by rfl, ?_⟩) (by assumption) ?_
      rotate_left 1
      · (intro w hSw; (try dsimp only at hSw); go_simp; first | done | with_reducible rfl)
      try go_simp
      refine wpAnyH_take (i := 12) (oi := _) (v := ?_) rfl (by kernel_rfl) (by kernel_rfl) (by kernel_rfl) (fun _ _ _ h => h) (Or.inl ⟨by rfl, ?_⟩) (by assumption) ?_
      rotate_left 1
      · (intro w hSw; (try dsimp only at hSw); go_simp; first | done | with_reducible rfl)
      try go_simp
      refine wpAnyH_take (i := 13) (oi := _) (v := ?_) rfl (by kernel_rfl) (by kernel_rfl) (by kernel_rfl) (fun _ _ _ h => h) (Or.inl ⟨by rfl, ?_⟩) (by assumption) ?_
      rotate_left 1
      · (intro w hSw; (try dsimp only at hSw); go_simp; first | done | with_reducible rfl)
      try go_simp
      refine wpAnyH_take (i := 14) (oi := _) (v := .string ⟨s.toArray⟩) rfl (by kernel_rfl) (by kernel_rfl) (by kernel_rfl) (fun _ _ _ h => h) (Or.inl ⟨by kernel_rfl, ?_⟩) (by assumption) ?_
      · (intro w hSw; (try dsimp only at hSw); go_simp; have q0 := gcellR hSw Hne2.out c2; clear hSw; go_simp; first | done | with_reducible rfl)
      try go_simp
      refine wpAnyH_take (i := 15) (oi := _) (v := ?_) rfl (by kernel_rfl) (by kernel_rfl) (by kernel_rfl) (fun _ _ _ h => h) (Or.inl ⟨by rfl, ?_⟩) (by assumption) ?_
      rotate_left 1
      · (intro w hSw; (try dsimp only at hSw); go_simp; first | done | with_reducible rfl)
      try go_simp
      refine wpAnyH_ready (rs := [16]) (by kernel_rfl) (by simp) ?_
      refine AllReadyH.cons (o := _) rfl (fun K hK => ?_) AllReadyH.nil
      go_simp
      first | (refine hK.out _ _ ?_ (fun hHeld => ?_)) | (go_wp2_with fail; refine hK.out _ _ ?_ (fun hHeld => ?_))
      · (try dsimp only); (repeat (first | assumption | exact World.grownBy.refl _ _ | refine grown_drR ?_ | refine grown_alR ?_))
      clear hK K
      refine wpAnyH_ready (rs := [17]) (by kernel_rfl) (by simp) ?_
      refine AllReadyH.cons (o := _) rfl (fun K hK => ?_) AllReadyH.nil
      have gn : wr.grownBy wr.drew none := grown_dr (World.grownBy.refl _ _)
      have ga := World.grownBy_alloc wr.drew (.cells #[.int .i64 x.1, .int .i64 x.2, .string ⟨s.toArray⟩] 79) none
      have ho3 := (Ho.out.kept gn (Classical.em _)).alloc (.cells #[.int .i64 x.1, .int .i64 x.2, .string ⟨s.toArray⟩] 79)
      have hsz2 := gn.size
      refine step_append_lies _ rfl _ _ 67 rfl w.heap.size 79 i0 _ 3 32 Try.underlying67 hi0 hz0 hz1 hz2 rfl (by omega) u5 k _ (by rfl) ho3 ⟨wr.drew.heap.size, 0, none⟩ 1 1 [.int .i64 x.1, .int .i64 x.2, .string ⟨s.toArray⟩] (by rfl) rfl (World.news_of_block (cs := #[.int .i64 x.1, .int .i64 x.2, .string ⟨s.toArray⟩]) (t := 79) (fr := (0, 0)) (heap_alloc_new wr.drew _)) (by intro u hu; simp at hu; rcases hu with rfl | rfl | rfl <;> rfl) (by omega) (by simp only [maxLen]; omega) (by omega) (by simp; omega) _ rfl ?_
      intro g cap w9 hown9 hgrow9 hat9 hlt9
      have g9 : wr.grownBy w9 u5.ownBlock := (grown_any (gn.trans ga) _).trans hgrow9
      refine hK.out _ _ ?_ (fun hHeld => ?_)
      · (try dsimp only); assumption
      clear hK K hat9
      try go_simp
      refine wpAnyH_take (i := 18) (oi := _) (v := ?_) rfl (by kernel_rfl) (by kernel_rfl) (by kernel_rfl) (fun _ _ _ h => h) (Or.inl ⟨by rfl, ?_⟩) (by assumption) ?_
      rotate_left 1
      · (intro w hSw; (try dsimp only at hSw); go_simp; first | done | with_reducible rfl)
      try go_simp
      refine wpAnyH_done (by kernel_rfl) ?_ _
      refine NoPanic.normal ?_
      go_simp
      have hsn : ndcs ((nodes bs ds).take (k + 1)) = ndcs ((nodes bs ds).take k) ++ [.int .i64 x.1, .int .i64 x.2, .string ⟨s.toArray⟩] := by rw [List.take_add_one, HX.out]; simp [ndcs, ndc]
      rw [← hsn] at hown9
      have hown9 := Lib.hid hown9
      have G := Lib.hid (hgr.andThen g9 fun r e => .inl (own_fresh Ho.out r e))
      clear hsn c0 c1 c2 hgrow9 ga ho3 g9 hHeld gn hgr
      go_wp2_with fail
      exact ⟨⟨k + 1, by omega, by go_num, hown9.out, G.out⟩, by simp [intOf]; omega⟩
    · obtain rfl : k = N := by omega
      have Ho : Hid (wr.ownsRow w.heap.size 79 3 u5 (nodes bs ds).length (ndcs (nodes bs ds))) := Lib.hid (by
        have e := HSL.out
        have e2 := HNN.out
        rw [List.take_of_length_le (by omega)] at ho
        rw [e, ← e2]
        exact ho)
      clear ho
      go_wp2_with fail
      go_ret
      exact ⟨_, rfl, Ho.out, hgr⟩
end Go.Proofs.Ytljjmoeplfcblaa
