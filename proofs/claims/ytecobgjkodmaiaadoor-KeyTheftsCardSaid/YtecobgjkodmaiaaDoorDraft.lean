/-
  Drafts: newDraft, add, steal, by their contracts.
-/
import Derived.Test.YtecobgjkodmaiaaDoorCpy
namespace Go.Proofs.YtecobgjkodmaiaaDoor
open Go.RowKit
attribute [local go_sem] get_mk extract_mk
set_option maxRecDepth 100000 in
set_option maxHeartbeats 1000000 in
/-- add -/
theorem add_k (D base : Nat) (s : Int) (v : Value) (l : List K) (x : K) (w0 w : World) (HD : Row w D 71 #[.int .i64 s, v]) (HO : OwnK w base v l) (hvD : some D ≠ v.ownBlock) (hx : x.ok) (hl : l.length ≤ 1000) (g0 : w0.grownBy w none) (hbw : base ≤ w0.heap.size ∨ base ≤ w.heap.size) (h0b : w0.heap.size ≤ base) (h0D : w0.heap.size ≤ D) :
    Calls Tryd.prog 33 #[.pointer (some ⟨D, 0, none⟩), .agg #[.int .i64 x.id, .string ⟨x.sec.toArray⟩, .int .i64 x.frm, .int .i64 x.stl]] w fun e w' => ∃ u g c, e = .returned u ∧ Row w' D 71 #[.int .i64 s, .slice (some ⟨g, 0, none⟩) (l.length + 1) c] ∧ OwnK w' base (.slice (some ⟨g, 0, none⟩) (l.length + 1) c) (l ++ [x]) ∧ g ≠ D ∧ w0.grownBy w' none := by
  replace hbw : base ≤ w.heap.size := by
    rcases hbw with h | h
    · exact Nat.le_trans h g0.size
    · exact h
  go_enter Tryd.func33, Tryd.ntmps33
  go_upto_region 1 with fail
  obtain ⟨w1, e1, HX, g1⟩ := row_of w 28 #[.int .i64 x.id, .string ⟨x.sec.toArray⟩, .int .i64 x.frm, .int .i64 x.stl]
  have hs1 : w1.heap.size = w.heap.size + 1 := by rw [e1]; simp
  rw [← e1]
  replace HD := HD.kept (g1.trans (grown_dr (grown_refl w1)))
  replace HO := HO.kept0 (g1.trans (grown_dr (grown_refl w1)))
  replace HX : Row w1.drew w.heap.size 28 x.cells := HX.kept (grown_dr (grown_refl w1))
  replace g0 := g0.trans (g1.trans (grown_dr (grown_refl w1)))
  replace hbw : base ≤ w1.drew.heap.size := by show base ≤ w1.heap.size; omega
  clear e1 g1 hs1
  generalize w.heap.size = X at *
  refine wp_region_noPanic ?_
  refine wp_region_held_drew (S := (fun _ => True)) (by kernel_rfl) ?_ (fun hHeld => ?_)
  · (try dsimp only); first | done | trivial
  refine wpAnyH_take (i := 0) (oi := _) (v := ?_) rfl (by kernel_rfl) (by kernel_rfl) (by kernel_rfl) (fun _ _ _ h => h) (Or.inl ⟨by rfl, ?_⟩) (by assumption) ?_
  rotate_left 1
  · (intro w hSw; (try dsimp only at hSw); go_simp; first | done | with_reducible rfl)
  try go_simp
  refine wpAnyH_take (i := 1) (oi := _) (v := ?_) rfl (by kernel_rfl) (by kernel_rfl) (by kernel_rfl) (fun _ _ _ h => h) (Or.inl ⟨by rfl, ?_⟩) (by assumption) ?_
  rotate_left 1
  · (intro w hSw; (try dsimp only at hSw); go_simp; first | done | with_reducible rfl)
  try go_simp
  refine wpAnyH_take (i := 2) (oi := _) (v := ?_) rfl (by kernel_rfl) (by kernel_rfl) (by kernel_rfl) (fun _ _ _ h => h) (Or.inl ⟨by rfl, ?_⟩) (by assumption) ?_
  rotate_left 1
  · (intro w hSw; (try dsimp only at hSw); go_simp; first | done | with_reducible rfl)
  try go_simp
  refine wpAnyH_take (i := 3) (oi := _) (v := ?_) rfl (by kernel_rfl) (by kernel_rfl) (by kernel_rfl) (fun _ _ _ h => h) (Or.inl ⟨by rfl, ?_⟩) (by assumption) ?_
  rotate_left 1
  · (intro w hSw; (try dsimp only at hSw); go_simp; first | done | with_reducible rfl)
  try go_simp
  refine wpAnyH_take (i := 4) (oi := _) (v := ?_) rfl (by kernel_rfl) (by kernel_rfl) (by kernel_rfl) (fun _ _ _ h => h) (Or.inl ⟨by rfl, ?_⟩) (by assumption) ?_
  rotate_left 1
  · (intro w hSw; (try dsimp only at hSw); go_simp; first | done | with_reducible rfl)
  try go_simp
  refine wpAnyH_ready (rs := [5, 6]) (by kernel_rfl) (by simp) ?_
  refine AllReadyH.cons (o := _) rfl (fun K hK => ?_) ?_
  · clear hHeld
    have c1 := HD.c 1 rfl
    go_simp
    first | (refine hK.out _ _ ?_ (fun hHeld => ?_)) | (go_wp2_with fail; refine hK.out _ _ ?_ (fun hHeld => ?_))
    · (try dsimp only); first | done | trivial
    clear hK K
    clear c1
    refine wpAnyH_ready (rs := [6]) (by kernel_rfl) (by simp) ?_
    refine AllReadyH.cons (o := _) rfl (fun K hK => ?_) ?_
    · clear hHeld
      have q0 : Row _ X 28 #[.int .i64 x.id, .string ⟨x.sec.toArray⟩, .int .i64 x.frm, .int .i64 x.stl] := HX
      have p0 := q0.c 0 rfl
      have p1 := q0.c 1 rfl
      have p2 := q0.c 2 rfl
      have p3 := q0.c 3 rfl
      clear q0
      go_simp
      first | (refine hK.out _ _ ?_ (fun hHeld => ?_)) | (go_wp2_with fail; refine hK.out _ _ ?_ (fun hHeld => ?_))
      · (try dsimp only); first | done | trivial
      clear hK K
      clear p0 p1 p2 p3
      refine wpAnyH_ready (rs := [7]) (by kernel_rfl) (by simp) ?_
      refine AllReadyH.cons (o := _) rfl (fun K hK => ?_) ?_
      · clear hHeld
        obtain ⟨w3, e3, HS, g3⟩ : ∃ w3, w3 = (w1.alloc (.cells #[.int .i64 x.id, .string ⟨x.sec.toArray⟩, .int .i64 x.frm, .int .i64 x.stl] 28)).drew ∧ Row w3 w1.heap.size 28 x.cells ∧ w1.drew.grownBy w3 none := ⟨_, rfl, (Row.new w1 28 _).kept (grown_dr (grown_refl _)), (fun g => ⟨g.os, g.tape, g.output, g.size, g.block⟩) (World.grownBy_alloc w1 (.cells #[.int .i64 x.id, .string ⟨x.sec.toArray⟩, .int .i64 x.frm, .int .i64 x.stl] 28) none)⟩
        have hsz3 := g3.size
        replace HD := HD.kept g3
        replace HO := HO.kept0 g3
        replace HX := HX.kept g3
        replace g0 := g0.trans g3
        go_simp
        first | (refine hK.out _ _ ?_ (fun hHeld => ?_)) | (go_wp2_with fail; refine hK.out _ _ ?_ (fun hHeld => ?_))
        · (try dsimp only); first | done | trivial
        clear hK K
        first | rw [← e3] | (have e4 : w3 = w1.drew.alloc (.cells #[.int .i64 x.id, .string ⟨x.sec.toArray⟩, .int .i64 x.frm, .int .i64 x.stl] 28) := e3; rw [← e4]; clear e4)
        clear e3 g3
        refine wpAnyH_ready (rs := [8]) (by kernel_rfl) (by simp) ?_
        refine AllReadyH.cons (o := _) rfl (fun K hK => ?_) ?_
        · clear hHeld
          have hb3 : base ≤ w3.heap.size := Nat.le_trans hbw hsz3
          refine step_append_keys rfl (.tmp 9) (.tmp 11) rfl base v l rfl HO (some ⟨w1.heap.size, 0, none⟩) 1 1 [x] rfl (Keys.one HS hx) (by omega) hb3 ?_
          intro v' w4 ho hg hb hv
          obtain ⟨g, c, rfl⟩ : ∃ g c, v' = .slice (some ⟨g, 0, none⟩) (l.length + 1) c := by
            rcases ho.slice with ⟨_, e⟩ | e
            · simp at e
            · simpa using e
          have HD4 := HD.keptR hg hvD
          have g4 : w0.grownBy w4 none := g0.andThen hg (fun r e => .inl (Nat.le_trans h0b (HO.lt r e).1))
          have hgD : g ≠ D := by
            rcases hb with e | e
            · intro e2; subst e2; exact hvD e
            · have h1 := HD.lt; intro e2; injection e with e; simp at e; omega
          clear HD HO HX g0 hg hb hv HS hb3 hsz3
          first | (refine hK.out _ _ ?_ (fun hHeld => ?_)) | (go_wp2_with fail; refine hK.out _ _ ?_ (fun hHeld => ?_))
          · (try dsimp only); first | done | trivial
          clear hK K
          refine wpAnyH_take (i := 9) (oi := _) (v := ?_) rfl (by kernel_rfl) (by kernel_rfl) (by kernel_rfl) (fun _ _ _ h => h) (Or.inl ⟨by rfl, ?_⟩) (by assumption) ?_
          rotate_left 1
          · (intro w hSw; (try dsimp only at hSw); go_simp; first | done | with_reducible rfl)
          try go_simp
          refine wpAnyH_take (i := 10) (oi := _) (v := ?_) rfl (by kernel_rfl) (by kernel_rfl) (by kernel_rfl) (fun _ _ _ h => h) (Or.inl ⟨by rfl, ?_⟩) (by assumption) ?_
          rotate_left 1
          · (intro w hSw; (try dsimp only at hSw); go_simp; first | done | with_reducible rfl)
          try go_simp
          refine wpAnyH_take (i := 11) (oi := _) (v := ?_) rfl (by kernel_rfl) (by kernel_rfl) (by kernel_rfl) (fun _ _ _ h => h) (Or.inl ⟨by rfl, ?_⟩) (by assumption) ?_
          rotate_left 1
          · (intro w hSw; (try dsimp only at hSw); go_simp; first | done | with_reducible rfl)
          try go_simp
          refine wpAnyH_ready (rs := [12]) (by kernel_rfl) (by simp) ?_
          refine AllReadyH.cons (o := _) rfl (fun K hK => ?_) ?_
          · clear hHeld
            have k1 := HD4.c 1 rfl
            have f1 := HD4.fz 1
            have hsz := HD4.lt
            have RS : Row _ D 71 #[.int .i64 s, .slice (some ⟨g, 0, none⟩) (l.length + 1) c] := HD4.set 1 (.slice (some ⟨g, 0, none⟩) (l.length + 1) c)
            have gs := grown_set (i := 1) (v := .slice (some ⟨g, 0, none⟩) (l.length + 1) c) g4 (.inl h0D)
            have HOS := ho.kept (grown_setCell w4 D 1 (.slice (some ⟨g, 0, none⟩) (l.length + 1) c)) (.inr (by simpa [Value.ownBlock] using hgD))
            clear HD4 g4 ho
            go_simp
            first | (refine hK.out _ _ ?_ (fun hHeld => ?_)) | (go_wp2_with fail; refine hK.out _ _ ?_ (fun hHeld => ?_))
            · (try dsimp only); first | done | trivial
            clear hK K
            refine wpAnyH_done (by kernel_rfl) ?_ _
            refine NoPanic.normal ?_
            go_simp
            go_wp2_with fail
            go_end0
            exact ⟨_, g, c, rfl, RS, HOS, hgD, gs⟩
          exact AllReadyH.nil
        exact AllReadyH.nil
      exact AllReadyH.nil
    exact AllReadyH.nil
  refine AllReadyH.cons (o := _) rfl (fun K hK => ?_) ?_
  · clear hHeld
    have q0 : Row _ X 28 #[.int .i64 x.id, .string ⟨x.sec.toArray⟩, .int .i64 x.frm, .int .i64 x.stl] := HX
    have p0 := q0.c 0 rfl
    have p1 := q0.c 1 rfl
    have p2 := q0.c 2 rfl
    have p3 := q0.c 3 rfl
    clear q0
    go_simp
    first | (refine hK.out _ _ ?_ (fun hHeld => ?_)) | (go_wp2_with fail; refine hK.out _ _ ?_ (fun hHeld => ?_))
    · (try dsimp only); first | done | trivial
    clear hK K
    clear p0 p1 p2 p3
    refine wpAnyH_ready (rs := [5, 7]) (by kernel_rfl) (by simp) ?_
    refine AllReadyH.cons (o := _) rfl (fun K hK => ?_) ?_
    · clear hHeld
      have c1 := HD.c 1 rfl
      go_simp
      first | (refine hK.out _ _ ?_ (fun hHeld => ?_)) | (go_wp2_with fail; refine hK.out _ _ ?_ (fun hHeld => ?_))
      · (try dsimp only); first | done | trivial
      clear hK K
      clear c1
      refine wpAnyH_ready (rs := [7]) (by kernel_rfl) (by simp) ?_
      refine AllReadyH.cons (o := _) rfl (fun K hK => ?_) ?_
      · clear hHeld
        obtain ⟨w3, e3, HS, g3⟩ : ∃ w3, w3 = (w1.alloc (.cells #[.int .i64 x.id, .string ⟨x.sec.toArray⟩, .int .i64 x.frm, .int .i64 x.stl] 28)).drew ∧ Row w3 w1.heap.size 28 x.cells ∧ w1.drew.grownBy w3 none := ⟨_, rfl, (Row.new w1 28 _).kept (grown_dr (grown_refl _)), (fun g => ⟨g.os, g.tape, g.output, g.size, g.block⟩) (World.grownBy_alloc w1 (.cells #[.int .i64 x.id, .string ⟨x.sec.toArray⟩, .int .i64 x.frm, .int .i64 x.stl] 28) none)⟩
        have hsz3 := g3.size
        replace HD := HD.kept g3
        replace HO := HO.kept0 g3
        replace HX := HX.kept g3
        replace g0 := g0.trans g3
        go_simp
        first | (refine hK.out _ _ ?_ (fun hHeld => ?_)) | (go_wp2_with fail; refine hK.out _ _ ?_ (fun hHeld => ?_))
        · (try dsimp only); first | done | trivial
        clear hK K
        first | rw [← e3] | (have e4 : w3 = w1.drew.alloc (.cells #[.int .i64 x.id, .string ⟨x.sec.toArray⟩, .int .i64 x.frm, .int .i64 x.stl] 28) := e3; rw [← e4]; clear e4)
        clear e3 g3
        refine wpAnyH_ready (rs := [8]) (by kernel_rfl) (by simp) ?_
        refine AllReadyH.cons (o := _) rfl (fun K hK => ?_) ?_
        · clear hHeld
          have hb3 : base ≤ w3.heap.size := Nat.le_trans hbw hsz3
          refine step_append_keys rfl (.tmp 9) (.tmp 11) rfl base v l rfl HO (some ⟨w1.heap.size, 0, none⟩) 1 1 [x] rfl (Keys.one HS hx) (by omega) hb3 ?_
          intro v' w4 ho hg hb hv
          obtain ⟨g, c, rfl⟩ : ∃ g c, v' = .slice (some ⟨g, 0, none⟩) (l.length + 1) c := by
            rcases ho.slice with ⟨_, e⟩ | e
            · simp at e
            · simpa using e
          have HD4 := HD.keptR hg hvD
          have g4 : w0.grownBy w4 none := g0.andThen hg (fun r e => .inl (Nat.le_trans h0b (HO.lt r e).1))
          have hgD : g ≠ D := by
            rcases hb with e | e
            · intro e2; subst e2; exact hvD e
            · have h1 := HD.lt; intro e2; injection e with e; simp at e; omega
          clear HD HO HX g0 hg hb hv HS hb3 hsz3
          first | (refine hK.out _ _ ?_ (fun hHeld => ?_)) | (go_wp2_with fail; refine hK.out _ _ ?_ (fun hHeld => ?_))
          · (try dsimp only); first | done | trivial
          clear hK K
          refine wpAnyH_take (i := 9) (oi := _) (v := ?_) rfl (by kernel_rfl) (by kernel_rfl) (by kernel_rfl) (fun _ _ _ h => h) (Or.inl ⟨by rfl, ?_⟩) (by assumption) ?_
          rotate_left 1
          · (intro w hSw; (try dsimp only at hSw); go_simp; first | done | with_reducible rfl)
          try go_simp
          refine wpAnyH_take (i := 10) (oi := _) (v := ?_) rfl (by kernel_rfl) (by kernel_rfl) (by kernel_rfl) (fun _ _ _ h => h) (Or.inl ⟨by rfl, ?_⟩) (by assumption) ?_
          rotate_left 1
          · (intro w hSw; (try dsimp only at hSw); go_simp; first | done | with_reducible rfl)
          try go_simp
          refine wpAnyH_take (i := 11) (oi := _) (v := ?_) rfl (by kernel_rfl) (by kernel_rfl) (by kernel_rfl) (fun _ _ _ h => h) (Or.inl ⟨by rfl, ?_⟩) (by assumption) ?_
          rotate_left 1
          · (intro w hSw; (try dsimp only at hSw); go_simp; first | done | with_reducible rfl)
          try go_simp
          refine wpAnyH_ready (rs := [12]) (by kernel_rfl) (by simp) ?_
          refine AllReadyH.cons (o := _) rfl (fun K hK => ?_) ?_
          · clear hHeld
            have k1 := HD4.c 1 rfl
            have f1 := HD4.fz 1
            have hsz := HD4.lt
            have RS : Row _ D 71 #[.int .i64 s, .slice (some ⟨g, 0, none⟩) (l.length + 1) c] := HD4.set 1 (.slice (some ⟨g, 0, none⟩) (l.length + 1) c)
            have gs := grown_set (i := 1) (v := .slice (some ⟨g, 0, none⟩) (l.length + 1) c) g4 (.inl h0D)
            have HOS := ho.kept (grown_setCell w4 D 1 (.slice (some ⟨g, 0, none⟩) (l.length + 1) c)) (.inr (by simpa [Value.ownBlock] using hgD))
            clear HD4 g4 ho
            go_simp
            first | (refine hK.out _ _ ?_ (fun hHeld => ?_)) | (go_wp2_with fail; refine hK.out _ _ ?_ (fun hHeld => ?_))
            · (try dsimp only); first | done | trivial
            clear hK K
            refine wpAnyH_done (by kernel_rfl) ?_ _
            refine NoPanic.normal ?_
            go_simp
            go_wp2_with fail
            go_end0
            exact ⟨_, g, c, rfl, RS, HOS, hgD, gs⟩
          exact AllReadyH.nil
        exact AllReadyH.nil
      exact AllReadyH.nil
    refine AllReadyH.cons (o := _) rfl (fun K hK => ?_) ?_
    · clear hHeld
      obtain ⟨w3, e3, HS, g3⟩ : ∃ w3, w3 = (w1.alloc (.cells #[.int .i64 x.id, .string ⟨x.sec.toArray⟩, .int .i64 x.frm, .int .i64 x.stl] 28)).drew ∧ Row w3 w1.heap.size 28 x.cells ∧ w1.drew.grownBy w3 none := ⟨_, rfl, (Row.new w1 28 _).kept (grown_dr (grown_refl _)), (fun g => ⟨g.os, g.tape, g.output, g.size, g.block⟩) (World.grownBy_alloc w1 (.cells #[.int .i64 x.id, .string ⟨x.sec.toArray⟩, .int .i64 x.frm, .int .i64 x.stl] 28) none)⟩
      have hsz3 := g3.size
      replace HD := HD.kept g3
      replace HO := HO.kept0 g3
      replace HX := HX.kept g3
      replace g0 := g0.trans g3
      go_simp
      first | (refine hK.out _ _ ?_ (fun hHeld => ?_)) | (go_wp2_with fail; refine hK.out _ _ ?_ (fun hHeld => ?_))
      · (try dsimp only); first | done | trivial
      clear hK K
      first | rw [← e3] | (have e4 : w3 = w1.drew.alloc (.cells #[.int .i64 x.id, .string ⟨x.sec.toArray⟩, .int .i64 x.frm, .int .i64 x.stl] 28) := e3; rw [← e4]; clear e4)
      clear e3 g3
      refine wpAnyH_ready (rs := [5]) (by kernel_rfl) (by simp) ?_
      refine AllReadyH.cons (o := _) rfl (fun K hK => ?_) ?_
      · clear hHeld
        have c1 := HD.c 1 rfl
        go_simp
        first | (refine hK.out _ _ ?_ (fun hHeld => ?_)) | (go_wp2_with fail; refine hK.out _ _ ?_ (fun hHeld => ?_))
        · (try dsimp only); first | done | trivial
        clear hK K
        clear c1
        refine wpAnyH_ready (rs := [8]) (by kernel_rfl) (by simp) ?_
        refine AllReadyH.cons (o := _) rfl (fun K hK => ?_) ?_
        · clear hHeld
          have hb3 : base ≤ w3.heap.size := Nat.le_trans hbw hsz3
          refine step_append_keys rfl (.tmp 9) (.tmp 11) rfl base v l rfl HO (some ⟨w1.heap.size, 0, none⟩) 1 1 [x] rfl (Keys.one HS hx) (by omega) hb3 ?_
          intro v' w4 ho hg hb hv
          obtain ⟨g, c, rfl⟩ : ∃ g c, v' = .slice (some ⟨g, 0, none⟩) (l.length + 1) c := by
            rcases ho.slice with ⟨_, e⟩ | e
            · simp at e
            · simpa using e
          have HD4 := HD.keptR hg hvD
          have g4 : w0.grownBy w4 none := g0.andThen hg (fun r e => .inl (Nat.le_trans h0b (HO.lt r e).1))
          have hgD : g ≠ D := by
            rcases hb with e | e
            · intro e2; subst e2; exact hvD e
            · have h1 := HD.lt; intro e2; injection e with e; simp at e; omega
          clear HD HO HX g0 hg hb hv HS hb3 hsz3
          first | (refine hK.out _ _ ?_ (fun hHeld => ?_)) | (go_wp2_with fail; refine hK.out _ _ ?_ (fun hHeld => ?_))
          · (try dsimp only); first | done | trivial
          clear hK K
          refine wpAnyH_take (i := 9) (oi := _) (v := ?_) rfl (by kernel_rfl) (by kernel_rfl) (by kernel_rfl) (fun _ _ _ h => h) (Or.inl ⟨by rfl, ?_⟩) (by assumption) ?_
          rotate_left 1
          · (intro w hSw; (try dsimp only at hSw); go_simp; first | done | with_reducible rfl)
          try go_simp
          refine wpAnyH_take (i := 10) (oi := _) (v := ?_) rfl (by kernel_rfl) (by kernel_rfl) (by kernel_rfl) (fun _ _ _ h => h) (Or.inl ⟨by rfl, ?_⟩) (by assumption) ?_
          rotate_left 1
          · (intro w hSw; (try dsimp only at hSw); go_simp; first | done | with_reducible rfl)
          try go_simp
          refine wpAnyH_take (i := 11) (oi := _) (v := ?_) rfl (by kernel_rfl) (by kernel_rfl) (by kernel_rfl) (fun _ _ _ h => h) (Or.inl ⟨by rfl, ?_⟩) (by assumption) ?_
          rotate_left 1
          · (intro w hSw; (try dsimp only at hSw); go_simp; first | done | with_reducible rfl)
          try go_simp
          refine wpAnyH_ready (rs := [12]) (by kernel_rfl) (by simp) ?_
          refine AllReadyH.cons (o := _) rfl (fun K hK => ?_) ?_
          · clear hHeld
            have k1 := HD4.c 1 rfl
            have f1 := HD4.fz 1
            have hsz := HD4.lt
            have RS : Row _ D 71 #[.int .i64 s, .slice (some ⟨g, 0, none⟩) (l.length + 1) c] := HD4.set 1 (.slice (some ⟨g, 0, none⟩) (l.length + 1) c)
            have gs := grown_set (i := 1) (v := .slice (some ⟨g, 0, none⟩) (l.length + 1) c) g4 (.inl h0D)
            have HOS := ho.kept (grown_setCell w4 D 1 (.slice (some ⟨g, 0, none⟩) (l.length + 1) c)) (.inr (by simpa [Value.ownBlock] using hgD))
            clear HD4 g4 ho
            go_simp
            first | (refine hK.out _ _ ?_ (fun hHeld => ?_)) | (go_wp2_with fail; refine hK.out _ _ ?_ (fun hHeld => ?_))
            · (try dsimp only); first | done | trivial
            clear hK K
            refine wpAnyH_done (by kernel_rfl) ?_ _
            refine NoPanic.normal ?_
            go_simp
            go_wp2_with fail
            go_end0
            exact ⟨_, g, c, rfl, RS, HOS, hgD, gs⟩
          exact AllReadyH.nil
        exact AllReadyH.nil
      exact AllReadyH.nil
    exact AllReadyH.nil
  exact AllReadyH.nil
set_option maxRecDepth 100000 in
set_option maxHeartbeats 1000000 in
/-- newDraft -/
theorem draft_k (s : Int) (A : Option Addr) (n c : Nat) (l : List K) (w : World) (hk : Keys w A n c l) (hn : n ≤ 1000) :
    Calls Tryd.prog 32 #[.agg #[.int .i64 s, .slice A n c]] w fun e w' => ∃ D A' c', e = .returned (.pointer (some ⟨D, 0, none⟩)) ∧ w.heap.size ≤ D ∧ Row w' D 71 #[.int .i64 s, .slice A' l.length c'] ∧ OwnK w' w.heap.size (.slice A' l.length c') l ∧ some D ≠ (Value.slice A' l.length c').ownBlock ∧ w.grownBy w' none := by
  obtain ⟨w1, e1, HB, g1⟩ := row_of w 34 #[.int .i64 s, .slice A n c]
  have hs1 : w1.heap.size = w.heap.size + 1 := by rw [e1]; simp
  have K := Lib.hid (clone_k A n c l w1 (hk.kept g1) hn)
  have E1 := Lib.hid e1
  have b1 : w1.cell? ⟨w.heap.size, 1, none⟩ = some (.slice A n c) := HB.c 1 rfl
  clear e1 hk
  go_enter Tryd.func32, Tryd.ntmps32
  go_upto_region 1 with fail
  rw [← E1.out]
  clear E1
  go_wp2_with fail
  refine K.out.mono ?_
  rintro e w2 ⟨v, rfl, HO, g2⟩
  have HL := HO.lt
  replace HO : OwnK w2 w.heap.size v l := HO.base (by omega)
  obtain ⟨A', c', rfl⟩ : ∃ A' c', v = .slice A' l.length c' := by
    rcases HO.slice with ⟨e, e2⟩ | ⟨g, c', e⟩
    · exact ⟨none, 0, by rw [e, e2]; rfl⟩
    · exact ⟨_, c', e⟩
  replace HB := HB.kept g2
  have k0 : w2.cell? ⟨w.heap.size, 0, none⟩ = some (.int .i64 s) := HB.c 0 rfl
  have k1 : w2.cell? ⟨w.heap.size, 1, none⟩ = some (.slice A n c) := HB.c 1 rfl
  have f1 := HB.fz 1
  have hsz := HB.lt
  have RS : Row _ w.heap.size 34 #[.int .i64 s, .slice A' l.length c'] := HB.set 1 (.slice A' l.length c')
  have gs := grown_set (i := 1) (v := .slice A' l.length c') (g1.trans g2) (.inl (Nat.le_refl w.heap.size))
  have hne : (Value.slice A' l.length c').ownBlock ≠ some w.heap.size := fun e => by
    have := (HL _ e).1
    omega
  have HOS := HO.kept (grown_setCell w2 w.heap.size 1 (.slice A' l.length c')) (.inr hne)
  clear HB K b1 g2 HO
  go_upto_region 2 with fail
  generalize w2.setCell ⟨w.heap.size, 1, none⟩ (.slice A' l.length c') = w3 at *
  have q0 : w3.cell? ⟨w.heap.size, 0, none⟩ = some (.int .i64 s) := RS.c 0 rfl
  have q1 : w3.cell? ⟨w.heap.size, 1, none⟩ = some (.slice A' l.length c') := RS.c 1 rfl
  go_wp2_with fail
  go_ret
  obtain ⟨w4, e4, HD, g4⟩ := row_of w3 71 #[.int .i64 s, .slice A' l.length c']
  rw [← e4]
  exact ⟨w3.heap.size, A', c', rfl, gs.size, HD, HOS.kept0 g4, (by intro e; have := (HOS.lt _ e.symm).2; omega), gs.trans g4⟩
/-- what a theft on a day makes of a key -/
def sts (x : K) (day : Int) : K := if x.stl = 0 ∨ day < x.stl then ⟨x.id, x.sec, x.frm, day⟩ else x
theorem kc_set : ∀ (l : List K) (j : Nat) (x : K) (day : Int), l[j]? = some x → kc (l.set j ⟨x.id, x.sec, x.frm, day⟩) = (kc l).set (j * 4 + 3) (.int .i64 day)
  | [], j, x, day, h => by simp at h
  | y :: t, 0, x, day, h => by
    obtain rfl : y = x := by simpa using h
    simp [kc]
  | y :: t, j + 1, x, day, h => by
    have ih := kc_set t j x day (by simpa using h)
    have e : kc (y :: t) = [.int .i64 y.id, .string ⟨y.sec.toArray⟩, .int .i64 y.frm, .int .i64 y.stl] ++ kc t := rfl
    have e2 : (j + 1) * 4 + 3 = (j * 4 + 3) + 4 := by omega
    rw [e, e2]
    show kc (y :: t.set j _) = _
    have e3 : kc (y :: t.set j ⟨x.id, x.sec, x.frm, day⟩) = [.int .i64 y.id, .string ⟨y.sec.toArray⟩, .int .i64 y.frm, .int .i64 y.stl] ++ kc (t.set j ⟨x.id, x.sec, x.frm, day⟩) := rfl
    rw [e3, ih]
    rfl
theorem OwnK.setStl {w : World} {b g n c j : Nat} {l : List K} {x : K} (h : OwnK w b (.slice (some ⟨g, 0, none⟩) n c) l) (hx : l[j]? = some x) (day : Int) :
    OwnK (w.setCell ⟨g, j * 4 + 3, none⟩ (.int .i64 day)) b (.slice (some ⟨g, 0, none⟩) n c) (l.set j ⟨x.id, x.sec, x.frm, day⟩) := by
  unfold OwnK World.ownsRow at h ⊢
  have hlt := (List.getElem?_eq_some_iff.1 hx).1
  rw [kc_set l j x day hx]
  simp only [List.length_set]
  refine ⟨h.1, ?_⟩
  rcases h.2 with ⟨e, _⟩ | ⟨g', cap, cur, e, hb, hg, h1, h2, h3, h4⟩
  · cases e
  · injection e with e1 e2 e3
    injection e1 with e1
    injection e1 with e1
    subst e1 e3
    refine .inr ⟨g, c, cur.setIfInBounds (j * 4 + 3) (.int .i64 day), by rw [e2], hb, ?_, h1, h2, by simpa using h3, ?_⟩
    · simp [World.setCell, Array.getElem?_modify, hg]
    · rw [Array.toList_setIfInBounds, List.take_set, h4]
theorem OwnK.frozen {w : World} {b g n c i : Nat} {l : List K} (h : OwnK w b (.slice (some ⟨g, 0, none⟩) n c) l) : w.frozen? ⟨g, i, none⟩ = false := by
  unfold OwnK World.ownsRow at h
  rcases h.2 with ⟨e, _⟩ | ⟨g', cap, cur, e, hb, hg, _⟩
  · cases e
  · injection e with e1 e2 e3
    injection e1 with e1
    injection e1 with e1
    subst e1
    simp [World.frozen?, hg]
theorem set_same {l : List K} {j : Nat} {x : K} (h : l[j]? = some x) : l.set j x = l := by
  obtain ⟨hj, rfl⟩ := List.getElem?_eq_some_iff.1 h
  exact List.set_getElem_self hj
set_option maxRecDepth 100000 in
set_option maxHeartbeats 1000000 in
/-- steal -/
theorem steal_k (D base g c j : Nat) (s : Int) (l : List K) (x : K) (day : Int) (hd : i64 day) (w0 w : World) (HD : Row w D 71 #[.int .i64 s, .slice (some ⟨g, 0, none⟩) l.length c]) (HO : OwnK w base (.slice (some ⟨g, 0, none⟩) l.length c) l) (hgD : g ≠ D) (hx : l[j]? = some x) (hok : ∀ y ∈ l, y.ok) (_ : l.length ≤ 1000) (g0 : w0.grownBy w none) (h0b : w0.heap.size ≤ base) :
    Calls Tryd.prog 37 #[.pointer (some ⟨D, 0, none⟩), .int .i64 (j : Int), .int .i64 day] w fun e w' => ∃ u, e = .returned u ∧ Row w' D 71 #[.int .i64 s, .slice (some ⟨g, 0, none⟩) l.length c] ∧ OwnK w' base (.slice (some ⟨g, 0, none⟩) l.length c) (l.set j (sts x day)) ∧ w0.grownBy w' none := by
  obtain ⟨d1, d2⟩ := hd
  have hj := (List.getElem?_eq_some_iff.1 hx).1
  obtain ⟨A, c', ev, HK⟩ := HO.keys hok
  injection ev with e1 _ e3
  subst e1 e3
  obtain ⟨ad, y, hy, e, hbl, ⟨o1, o2, o3, o4⟩, x0, x1, x2, x3⟩ := HK.at j hj
  rw [hx] at hy
  injection hy with hy
  subst hy
  injection e with e
  subst e
  rw [add_zero] at x0 x1 x2 x3
  simp only [] at x0 x1 x2 x3
  have c1 : w.cell? ⟨D, 1, none⟩ = some (.slice (some ⟨g, 0, none⟩) l.length c) := HD.c 1 rfl
  have fz : w.frozen? ⟨g, j * 4 + 3, none⟩ = false := HO.frozen
  have hga : ((⟨g, 0, none⟩ : Addr).add (j * 4)) = ⟨g, j * 4, none⟩ := add_zero _ _
  have hgb : g < w.heap.size := (HO.lt g rfl).2
  have hg0 : w0.heap.size ≤ g := Nat.le_trans h0b (HO.lt g rfl).1
  obtain ⟨i, sc, f, t⟩ := x
  have HS : Hid (∀ day', OwnK (w.setCell ⟨g, j * 4 + 3, none⟩ (.int .i64 day')) base (.slice (some ⟨g, 0, none⟩) l.length c) (l.set j ⟨i, sc, f, day'⟩)) := Lib.hid (fun day' => HO.setStl hx day')
  have HX := Lib.hid (set_same hx)
  have HKK := Lib.hid HO
  have HDD := Lib.hid HD
  clear HK HO HD hx x0 x1 x2 hok
  by_cases h0 : t = 0
  · subst h0
    have HE : Hid (sts ⟨i, sc, f, 0⟩ day = ⟨i, sc, f, day⟩) := Lib.hid (by simp [sts])
    go_enter Tryd.func37, Tryd.ntmps37
    go_wp2_with fail
    go_end0
    exact ⟨⟨_, rfl⟩, HDD.out.far hgD.symm, by rw [HE.out]; exact HS.out day, grown_set g0 (.inl hg0)⟩
  · have h1 : (t == 0) = false := by simpa using h0
    by_cases h2 : day < t
    · have HE : Hid (sts ⟨i, sc, f, t⟩ day = ⟨i, sc, f, day⟩) := Lib.hid (by simp [sts, h2])
      have h3 : decide (day < t) = true := by simpa using h2
      clear h0
      go_enter Tryd.func37, Tryd.ntmps37
      go_wp2_with fail
      go_end0
      exact ⟨⟨_, rfl⟩, HDD.out.far hgD.symm, by rw [HE.out]; exact HS.out day, grown_set g0 (.inl hg0)⟩
    · have HE : Hid (sts ⟨i, sc, f, t⟩ day = ⟨i, sc, f, t⟩) := Lib.hid (by simp [sts, h0, h2])
      have h3 : decide (day < t) = false := by simpa using h2
      clear h0
      go_enter Tryd.func37, Tryd.ntmps37
      go_wp2_with fail
      go_end0
      exact ⟨⟨_, rfl⟩, HDD.out, by rw [HE.out, HX.out]; exact HKK.out, g0⟩
end Go.Proofs.YtecobgjkodmaiaaDoor
