/-
  Drafts: the reference's Copy, newDraft, add, steal.
-/
import Derived.Test.YtecobgjkodmaiaaDoorOwn
namespace Go.Proofs.YtecobgjkodmaiaaDoor
open Go.RowKit
attribute [local go_sem] get_mk extract_mk
theorem grown_drR {a w : World} {r : Option Nat} (h : a.grownBy w r) : a.grownBy w.drew r := ⟨h.os, h.tape, h.output, h.size, h.block⟩
theorem Row.keptR {w w' : World} {B : Nat} {t : TypeId} {vs : Array Value} {r : Option Nat} (h : Row w B t vs) (hg : w.grownBy w' r) (hne : some B ≠ r) : Row w' B t vs := (hg.block B h.lt hne).trans h
theorem gcellR {w w' : World} {b i : Nat} {v : Value} {r : Option Nat} (h : w.grownBy w' r) (hne : some b ≠ r) (c : w.cell? ⟨b, i, none⟩ = some v) : w'.cell? ⟨b, i, none⟩ = some v := by
  have hb := World.block_lt_of_cell? w _ c
  exact (World.cell?_of_block (h.block b hb hne)).trans c
theorem grown_any {a x : World} {r : Option Nat} (h : a.grownBy x none) : a.grownBy x r := ⟨h.os, h.tape, h.output, h.size, fun i hi _ => h.block i hi (by simp)⟩
theorem OwnK.base {w : World} {b b' : Nat} {v : Value} {l : List K} (h : OwnK w b v l) (hb : b' ≤ b) : OwnK w b' v l := by
  unfold OwnK World.ownsRow at h ⊢
  refine ⟨h.1, ?_⟩
  rcases h.2 with e | ⟨g, cap, cur, e, h1, h2⟩
  · exact .inl e
  · exact .inr ⟨g, cap, cur, e, Nat.le_trans hb h1, h2⟩
set_option maxRecDepth 100000 in
set_option maxHeartbeats 1000000 in
/-- the reference's Copy -/
theorem copy_r (s : Int) (A : Option Addr) (n c : Nat) (l : List K) (w : World) (hk : Keys w A n c l) (hn : n ≤ 1000) :
    Calls Tryd.prog 34 #[.agg #[.int .i64 s, .slice A n c]] w fun e w' => ∃ g c', e = .returned (.agg #[.int .i64 s, .slice (some ⟨g, 0, none⟩) l.length c']) ∧ OwnK w' w.heap.size (.slice (some ⟨g, 0, none⟩) l.length c') l ∧ w.grownBy w' none := by
  have HK := Lib.hid (fun W (g : w.grownBy W none) => hk.kept g)
  clear hk
  go_enter Tryd.func34, Tryd.ntmps34
  go_upto_region 1 with fail
  obtain ⟨w1, e1, HB, g1⟩ := row_of w 34 #[.int .i64 s, .slice A n c]
  have hs1 : w1.heap.size = w.heap.size + 1 := by rw [e1]; simp
  rw [← e1]
  obtain ⟨w2, e2, HR, g2⟩ := row_of w1 34 #[.int .i64 0, .slice none 0 0]
  rw [← e2]
  rw [hs1] at HR
  replace HB := HB.kept g2
  have gw := g1.trans g2
  clear e1 e2 g1 g2 hs1
  obtain ⟨B, hB⟩ : ∃ B, w.heap.size = B := ⟨_, rfl⟩
  obtain ⟨R, hR⟩ : ∃ R, w.heap.size + 1 = R := ⟨_, rfl⟩
  rw [hB] at HB ⊢
  rw [show B + 1 = R by omega]
  rw [hR] at HR
  have hBR : some B ≠ some R := by intro e; injection e with e; omega
  have hw2 := HR.lt
  have b0 : w2.cell? ⟨B, 0, none⟩ = some (.int .i64 s) := HB.c 0 rfl
  have b1 : w2.cell? ⟨B, 1, none⟩ = some (.slice A n c) := HB.c 1 rfl
  refine wp_region_noPanic ?_
  refine wp_region_held_drew (S := (fun w' => w2.grownBy w' (some R))) (by kernel_rfl) ?_ (fun hHeld => ?_)
  · (try dsimp only); exact grown_drR (World.grownBy.refl _ _)
  refine wpAnyH_take (i := 0) (oi := _) (v := ?_) rfl (by kernel_rfl) (by kernel_rfl) (by kernel_rfl) (fun _ _ _ h => h) (Or.inl ⟨by rfl, ?_⟩) (by assumption) ?_
  rotate_left 1
  · (intro w hSw; (try dsimp only at hSw); go_simp; first | done | with_reducible rfl)
  try go_simp
  refine wpAnyH_take (i := 1) (oi := _) (v := .int .i64 s) rfl (by kernel_rfl) (by kernel_rfl) (by kernel_rfl) (fun _ _ _ h => h) (Or.inl ⟨by kernel_rfl, ?_⟩) (by assumption) ?_
  · (intro w hSw; (try dsimp only at hSw); go_simp; have y0 := gcellR hSw hBR b0; clear hSw; go_simp; first | done | with_reducible rfl)
  try go_simp
  refine wpAnyH_take (i := 3) (oi := _) (v := ?_) rfl (by kernel_rfl) (by kernel_rfl) (by kernel_rfl) (fun _ _ _ h => h) (Or.inl ⟨by rfl, ?_⟩) (by assumption) ?_
  rotate_left 1
  · (intro w hSw; (try dsimp only at hSw); go_simp; first | done | with_reducible rfl)
  try go_simp
  refine wpAnyH_take (i := 4) (oi := _) (v := .slice A n c) rfl (by kernel_rfl) (by kernel_rfl) (by kernel_rfl) (fun _ _ _ h => h) (Or.inl ⟨by kernel_rfl, ?_⟩) (by assumption) ?_
  · (intro w hSw; (try dsimp only at hSw); go_simp; have y0 := gcellR hSw hBR b1; clear hSw; go_simp; first | done | with_reducible rfl)
  try go_simp
  refine wpAnyH_ready (rs := [2]) (by kernel_rfl) (by simp) ?_
  refine AllReadyH.cons (o := _) rfl (fun K hK => ?_) ?_
  · clear hHeld
    obtain ⟨w3, e3, hm, g3⟩ : ∃ w3, w3 = (w2.alloc (.cells #[] 28)).drew ∧ OwnK w3 w2.heap.size (.slice (some ⟨w2.heap.size, 0, none⟩) 0 0) [] ∧ w2.grownBy w3 none := ⟨_, rfl, (OwnK.made w2).kept0 (grown_dr (grown_refl _)), grown_dr (grown_al (grown_refl _))⟩
    go_simp
    first | (refine hK.out _ _ ?_ (fun hHeld => ?_)) | (go_wp2_with fail; refine hK.out _ _ ?_ (fun hHeld => ?_))
    · (try dsimp only); rw [← e3]; exact grown_any g3
    clear hK K
    rw [← e3]
    clear e3
    refine wpAnyH_ready (rs := [5]) (by kernel_rfl) (by simp) ?_
    refine AllReadyH.cons (o := _) rfl (fun K hK => ?_) ?_
    · clear hHeld
      refine step_append_keys rfl (.tmp 5) (.tmp 7) rfl w2.heap.size _ [] rfl hm A n c l rfl (HK.out _ (gw.trans g3)) (by simpa using Nat.le_trans hn (by decide)) g3.size ?_
      intro v' w4 ho hg hb hv
      obtain ⟨g, c', rfl⟩ : ∃ g c', v' = .slice (some ⟨g, 0, none⟩) l.length c' := by
        rcases hv with e | ⟨g, c', e⟩
        · cases e
        · exact ⟨g, c', by simpa using e⟩
      have g4 : w2.grownBy w4 none := g3.andThen hg (fun r e => .inl (by have e : some w2.heap.size = some r := e; injection e with e; omega))
      have HR4 := HR.kept g4
      clear g3 hm hg hb hv
      first | (refine hK.out _ _ ?_ (fun hHeld => ?_)) | (go_wp2_with fail; refine hK.out _ _ ?_ (fun hHeld => ?_))
      · (try dsimp only); exact grown_any g4
      clear hK K
      refine wpAnyH_take (i := 6) (oi := _) (v := ?_) rfl (by kernel_rfl) (by kernel_rfl) (by kernel_rfl) (fun _ _ _ h => h) (Or.inl ⟨by rfl, ?_⟩) (by assumption) ?_
      rotate_left 1
      · (intro w hSw; (try dsimp only at hSw); go_simp; first | done | with_reducible rfl)
      try go_simp
      refine wpAnyH_ready (rs := [7]) (by kernel_rfl) (by simp) ?_
      refine AllReadyH.cons (o := _) rfl (fun K hK => ?_) ?_
      · clear hHeld
        have k0 := HR4.c 0 rfl
        have k1 := HR4.c 1 rfl
        have f0 := HR4.fz 0
        have f1 := HR4.fz 1
        have hsz := HR4.lt
        have RS : Row _ R 34 #[.int .i64 s, .slice (some ⟨g, 0, none⟩) l.length c'] := (HR4.set 0 (.int .i64 s)).set 1 (.slice (some ⟨g, 0, none⟩) l.length c')
        have gs := grown_set (i := 1) (v := .slice (some ⟨g, 0, none⟩) l.length c') (grown_set (i := 0) (v := .int .i64 s) (grown_any (r := some R) g4) (.inr rfl)) (.inr rfl)
        have gl := grown_set (i := 1) (v := .slice (some ⟨g, 0, none⟩) l.length c') (grown_set (i := 0) (v := .int .i64 s) (World.grownBy.refl w4 (some R)) (.inr rfl)) (.inr rfl)
        have hgR : g ≠ R := by have := (ho.lt g rfl).1; have := HR.lt; omega
        have HO : OwnK _ w2.heap.size _ _ := ho.kept gl (.inr (by simpa [Value.ownBlock] using hgR))
        clear ho gl g4 HR4
        go_simp
        first | (refine hK.out _ _ ?_ (fun hHeld => ?_)) | (go_wp2_with fail; refine hK.out _ _ ?_ (fun hHeld => ?_))
        · (try dsimp only); exact gs
        clear hK K
        refine wpAnyH_done (by kernel_rfl) ?_ _
        refine NoPanic.normal ?_
        go_simp
        go_wp2_with fail
        have GW : w.grownBy _ none := gw.andThen gs (fun r e => .inl (by injection e with e; omega))
        exact bodyPost_ret (v := .agg #[.int .i64 s, .slice (some ⟨g, 0, none⟩) l.length c']) (by simp [results, Tryd.results34, go_sem, RS.c 0 rfl, RS.c 1 rfl]) rfl ⟨g, c', rfl, OwnK.base (by simpa using HO) (by omega), GW⟩
      exact AllReadyH.nil
    exact AllReadyH.nil
  exact AllReadyH.nil
end Go.Proofs.YtecobgjkodmaiaaDoor
