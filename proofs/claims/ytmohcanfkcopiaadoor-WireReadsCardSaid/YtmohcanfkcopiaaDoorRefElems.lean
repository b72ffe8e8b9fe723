/-
  The reference's readers of lists, by their contracts.
-/
import Derived.Test.YtmohcanfkcopiaaDoorRefRead
import Derived.Test.YtmohcanfkcopiaaDoorTelems
namespace Go.Proofs.YtmohcanfkcopiaaDoor
open Go.RowKit
attribute [local go_sem] get_mk extract_mk

theorem rr_own {w a c : World} {b e size n : Nat} {v : Value} {xs : List Value} {s : List UInt8} {st : Option (List UInt8)} (hr : Rr a b s st) (h : a.ownsRow w.heap.size e size v n xs) (hb : b < w.heap.size) (o : Obj) (hc : (a.alloc o).grownBy c v.ownBlock) : Rr c b s st :=
  (hr.grown (World.grownBy_alloc a o none) (by simp)).grown hc (fun e => by
    have := (h.lt b e.symm).1
    omega)
set_option maxRecDepth 100000 in
theorem rints_no (w : World) (b : Nat) (s : List UInt8) (hs : s.length ≤ 1000000) (st : Option (List UInt8)) (h : Rr w b s st) (hne : ∀ l, st ≠ some (91 :: l)) :
    Calls Tryd.prog 28 #[.pointer (some ⟨b, 0, none⟩)] w fun e w' => e = .returned (.slice none 0 0) ∧ Rr w' b s none ∧ w.grownBy w' (some b) := by
  have hk := Lib.hid (rByte_f w b s hs 91 91 rfl st h hne)
  clear hne
  go_enter Tryd.func28, Tryd.ntmps28
  go_wp2_with (first
    | (go_at_call 47; refine hk.out.mono ?_; rintro e w1 ⟨rfl, g1⟩; have h1 := Rr.grown h g1 (by simp))
    | (go_at_call 44; refine (rFail _ _ _ _ h1).mono ?_; rintro e w2 ⟨rfl, h2, g2⟩))
  go_ret
  exact ⟨rfl, h2, (grown_any g1 _).trans g2⟩

def Rint (w : World) (b : Nat) (s0 s : List UInt8) (R : Option (List Int × List UInt8)) (g : Nat) (out : Value) (wr : World) : Prop :=
  ∃ (l : List Int) (r : List UInt8), wr.ownsRow w.heap.size 3 1 out l.length (l.map (.int .i64)) ∧ Rr wr b s0 (some r) ∧ w.grownBy wr (some b) ∧ r.length < g ∧ l.length + r.length ≤ s.length ∧ Way intP R g l r
set_option maxRecDepth 100000 in
set_option maxHeartbeats 2000000 in
theorem rints_go (w : World) (b : Nat) (s0 : List UInt8) (hs0 : s0.length ≤ 1000000) (s : List UInt8) (hs : s.length ≤ 1000000) (h : Rr w b s0 (some (91 :: s))) :
    Calls Tryd.prog 28 #[.pointer (some ⟨b, 0, none⟩)] w fun e w' => ∃ v, e = .returned v ∧
      w'.ownsRow w.heap.size 3 1 v (valOf (listP intP) (some (91 :: s))).length ((valOf (listP intP) (some (91 :: s))).map (.int .i64)) ∧ Rr w' b s0 (restOf (listP intP) (some (91 :: s))) ∧ w.grownBy w' (some b) := by
  have hk := Lib.hid (rByte_t w b s0 hs0 91 91 rfl s h)
  obtain ⟨i0, hi0, hz0, hz1, hz2⟩ := info_parts int_info
  have hbw := h.lt
  generalize hR : listP intP (91 :: s) = R
  have hst : Way intP R (s.length + 1) [] s := by
    rw [← hR]
    exact way_start intP s _
  have Hst := Lib.hid hst
  have HR := Lib.hid hR
  clear hst hR
  go_enter Tryd.func28, Tryd.ntmps28
  go_wp2_with (go_at_call 47; refine hk.out.mono ?_; rintro e w1 ⟨rfl, hr1, hg1⟩)
  go_loopg [3] (s.length + 1) (fun g out wr => Rint w b s0 s R g out wr)
  case atStart => exact ⟨[], s, World.ownsRow_nil _ _ _ _, hr1, hg1, by omega, by simp, Hst.out⟩
  case round =>
    obtain ⟨l, r, hown, hr, hg, hlt, hlen, hway⟩ := hrel
    obtain ⟨g, rfl⟩ : ∃ g, gk = g + 1 := ⟨gk - 1, by omega⟩
    have Hway := Lib.hid hway
    clear hway
    by_cases h93 : ∃ t, r = 93 :: t
    · obtain ⟨t, rfl⟩ := h93
      have hs1 := Lib.hid (rByte_t wr b s0 hs0 93 93 rfl t hr)
      go_wp2_with (go_at_call 47; refine hs1.out.mono ?_; rintro e w2 ⟨rfl, hr2, hg2⟩)
      go_ret
      have hR := HR.out
      rw [way_end intP Hway.out] at hR
      have e1 : valOf (listP intP) (some (91 :: s)) = l := by simp [valOf, hR]
      have e2 : restOf (listP intP) (some (91 :: s)) = some t := by simp [restOf, hR]
      rw [e1, e2]
      exact ⟨_, rfl, own_kept hown hg2 hbw, hr2, hg.trans hg2⟩
    · have h93' : ∀ t, r ≠ 93 :: t := fun t e => h93 ⟨t, e⟩
      have hs1 := Lib.hid (rByte_f wr b s0 hs0 93 93 rfl (some r) hr (fun l e => h93' l (Option.some.inj e)))
      have H93 := Lib.hid h93'
      clear h93 h93'
      have hn : Hid (∀ wq, Rr wq b s0 (some r) → _) := Lib.hid (fun wq hq => rint_k wq b s0 hs0 (some r) hq)
      cases hp : intP r with
      | none =>
        have e1 : restOf intP (some r) = none := by simp [restOf, hp]
        have e2 : valOf intP (some r) = 0 := by simp [valOf, hp]
        rw [e1, e2] at hn
        have hp' := Lib.hid hp
        clear hp e1 e2
        go_wp2_with (first
          | (go_at_call 47; refine hs1.out.mono ?_; rintro e w2 ⟨rfl, hg2⟩; have hr2 := Rr.grown hr hg2 (by simp); have hown2 := own_kept hown (grown_any hg2 (some b)) hbw)
          | (go_at_call 23; refine (hn.out _ hr2).mono ?_; rintro e w3 ⟨rfl, hr3, hg3⟩; have hown3 := own_kept hown2 hg3 hbw)
          | (go_at_call 35; refine (rBad _ b _ _ hr4).mono ?_; rintro e w4 ⟨rfl, rfl⟩)
          | (at_builtin; refine wpList_append_own _ rfl _ _ 22 rfl w.heap.size 3 i0 (.int .i64 0) 1 8 Tryd.underlying22 hi0 hz0 hz1 hz2 rfl (by decide) _ _ _ rfl (hown3.alloc _) ⟨w3.heap.size, 0, none⟩ 1 1 [.int .i64 0] rfl rfl (cell_one _ _ _) (one_cell rfl) (by simp only [maxLen]; omega) (by omega) (Nat.le_trans hg.size (Nat.le_trans hg2.size (Nat.le_trans hg3.size (by simp)))) ?_; intro v5 w5 hown5 hgr5 hat5; have hr4 := rr_own hr3 hown3 hbw _ hgr5; have hg5 := grown_own ((hg.trans (grown_any hg2 _)).trans hg3) hown3 _ hgr5))
        go_ret
        have hR := HR.out
        rw [way_bad intP Hway.out H93.out hp'.out] at hR
        have e1 : valOf (listP intP) (some (91 :: s)) = [] := by simp [valOf, hR, dflt']
        have e2 : restOf (listP intP) (some (91 :: s)) = none := by simp [restOf, hR]
        rw [e1, e2]
        exact ⟨_, rfl, World.ownsRow_nil _ _ _ _, hr4, hg5⟩
      | some x =>
        obtain ⟨v, t⟩ := x
        have e1 : restOf intP (some r) = some t := by simp [restOf, hp]
        have e2 : valOf intP (some r) = v := by simp [valOf, hp]
        rw [e1, e2] at hn
        have hp' := Lib.hid hp
        clear hp e1 e2
        go_wp2_with (first
          | (go_at_call 47; refine hs1.out.mono ?_; rintro e w2 ⟨rfl, hg2⟩; have hr2 := Rr.grown hr hg2 (by simp); have hown2 := own_kept hown (grown_any hg2 (some b)) hbw)
          | (go_at_call 23; refine (hn.out _ hr2).mono ?_; rintro e w3 ⟨rfl, hr3, hg3⟩; have hown3 := own_kept hown2 hg3 hbw)
          | (go_at_call 35; refine (rBad _ b _ _ hr4).mono ?_; rintro e w4 ⟨rfl, rfl⟩)
          | (at_builtin; refine wpList_append_own _ rfl _ _ 22 rfl w.heap.size 3 i0 (.int .i64 0) 1 8 Tryd.underlying22 hi0 hz0 hz1 hz2 rfl (by decide) _ _ _ rfl (hown3.alloc _) ⟨w3.heap.size, 0, none⟩ 1 1 [.int .i64 v] rfl rfl (cell_one _ _ _) (one_cell rfl) (by simp only [maxLen]; omega) (by omega) (Nat.le_trans hg.size (Nat.le_trans hg2.size (Nat.le_trans hg3.size (by simp)))) ?_; intro v5 w5 hown5 hgr5 hat5; have hr4 := rr_own hr3 hown3 hbw _ hgr5; have hg5 := grown_own ((hg.trans (grown_any hg2 _)).trans hg3) hown3 _ hgr5))
        go_roundg g
        case measure => omega
        case rel =>
          refine ⟨l ++ [v], t, ?_, hr4, hg5, ?_, ?_, way_next intP Hway.out H93.out hp'.out⟩
          · simpa using hown5
          · have := ((intP_iff _ _ _).1 hp'.out).2
            have := serI_ne v
            simp_all
            omega
          · have := ((intP_iff _ _ _).1 hp'.out).2
            have := serI_ne v
            simp_all
            omega
theorem rints_k (w : World) (b : Nat) (s0 : List UInt8) (hs0 : s0.length ≤ 1000000) (st : Option (List UInt8)) (h : Rr w b s0 st) :
    Calls Tryd.prog 28 #[.pointer (some ⟨b, 0, none⟩)] w fun e w' => ∃ v, e = .returned v ∧
      w'.ownsRow w.heap.size 3 1 v (valOf (listP intP) st).length ((valOf (listP intP) st).map (.int .i64)) ∧ Rr w' b s0 (restOf (listP intP) st) ∧ w.grownBy w' (some b) := by
  by_cases h91 : ∃ s, st = some (91 :: s)
  · obtain ⟨s, rfl⟩ := h91
    refine rints_go w b s0 hs0 s ?_ h
    obtain ⟨p, d, h, hp, h1, h2⟩ := h
    cases d with
    | true => cases h1 rfl
    | false =>
      have h3 := h2 rfl
      injection h3 with h3
      have := congrArg List.length h3
      simp at this
      omega
  · have hne : ∀ l, st ≠ some (91 :: l) := fun l e => h91 ⟨l, e⟩
    have e0 := list_no intP st hne
    have e1 : valOf (listP intP) st = [] := by simp [valOf, e0, dflt']
    have e2 : restOf (listP intP) st = none := by simp [restOf, e0]
    rw [e1, e2]
    refine (rints_no w b s0 hs0 st h hne).mono fun e w' ⟨he, hr, hg⟩ => ⟨_, he, World.ownsRow_nil _ _ _ _, hr, hg⟩
set_option maxRecDepth 100000 in
theorem rtexts_no (w : World) (b : Nat) (s : List UInt8) (hs : s.length ≤ 1000000) (st : Option (List UInt8)) (h : Rr w b s st) (hne : ∀ l, st ≠ some (91 :: l)) :
    Calls Tryd.prog 31 #[.pointer (some ⟨b, 0, none⟩)] w fun e w' => e = .returned (.slice none 0 0) ∧ Rr w' b s none ∧ w.grownBy w' (some b) := by
  have hk := Lib.hid (rByte_f w b s hs 91 91 rfl st h hne)
  clear hne
  go_enter Tryd.func31, Tryd.ntmps31
  go_wp2_with (first
    | (go_at_call 47; refine hk.out.mono ?_; rintro e w1 ⟨rfl, g1⟩; have h1 := Rr.grown h g1 (by simp))
    | (go_at_call 44; refine (rFail _ _ _ _ h1).mono ?_; rintro e w2 ⟨rfl, h2, g2⟩))
  go_ret
  exact ⟨rfl, h2, (grown_any g1 _).trans g2⟩

def Rtext (w : World) (b : Nat) (s0 s : List UInt8) (R : Option (List (List UInt8) × List UInt8)) (g : Nat) (out : Value) (wr : World) : Prop :=
  ∃ (l : List (List UInt8)) (r : List UInt8), wr.ownsRow w.heap.size 9 1 out l.length (l.map (fun x => Value.string ⟨x.toArray⟩)) ∧ Rr wr b s0 (some r) ∧ w.grownBy wr (some b) ∧ r.length < g ∧ l.length + r.length ≤ s.length ∧ Way textP R g l r
set_option maxRecDepth 100000 in
set_option maxHeartbeats 2000000 in
theorem rtexts_go (w : World) (b : Nat) (s0 : List UInt8) (hs0 : s0.length ≤ 1000000) (s : List UInt8) (hs : s.length ≤ 1000000) (h : Rr w b s0 (some (91 :: s))) :
    Calls Tryd.prog 31 #[.pointer (some ⟨b, 0, none⟩)] w fun e w' => ∃ v, e = .returned v ∧
      w'.ownsRow w.heap.size 9 1 v (valOf (listP textP) (some (91 :: s))).length ((valOf (listP textP) (some (91 :: s))).map (fun x => Value.string ⟨x.toArray⟩)) ∧ Rr w' b s0 (restOf (listP textP) (some (91 :: s))) ∧ w.grownBy w' (some b) := by
  have hk := Lib.hid (rByte_t w b s0 hs0 91 91 rfl s h)
  obtain ⟨i0, hi0, hz0, hz1, hz2⟩ := info_parts text_info
  have hbw := h.lt
  generalize hR : listP textP (91 :: s) = R
  have hst : Way textP R (s.length + 1) [] s := by
    rw [← hR]
    exact way_start textP s _
  have Hst := Lib.hid hst
  have HR := Lib.hid hR
  clear hst hR
  go_enter Tryd.func31, Tryd.ntmps31
  go_wp2_with (go_at_call 47; refine hk.out.mono ?_; rintro e w1 ⟨rfl, hr1, hg1⟩)
  go_loopg [3] (s.length + 1) (fun g out wr => Rtext w b s0 s R g out wr)
  case atStart => exact ⟨[], s, World.ownsRow_nil _ _ _ _, hr1, hg1, by omega, by simp, Hst.out⟩
  case round =>
    obtain ⟨l, r, hown, hr, hg, hlt, hlen, hway⟩ := hrel
    obtain ⟨g, rfl⟩ : ∃ g, gk = g + 1 := ⟨gk - 1, by omega⟩
    have Hway := Lib.hid hway
    clear hway
    by_cases h93 : ∃ t, r = 93 :: t
    · obtain ⟨t, rfl⟩ := h93
      have hs1 := Lib.hid (rByte_t wr b s0 hs0 93 93 rfl t hr)
      go_wp2_with (go_at_call 47; refine hs1.out.mono ?_; rintro e w2 ⟨rfl, hr2, hg2⟩)
      go_ret
      have hR := HR.out
      rw [way_end textP Hway.out] at hR
      have e1 : valOf (listP textP) (some (91 :: s)) = l := by simp [valOf, hR]
      have e2 : restOf (listP textP) (some (91 :: s)) = some t := by simp [restOf, hR]
      rw [e1, e2]
      exact ⟨_, rfl, own_kept hown hg2 hbw, hr2, hg.trans hg2⟩
    · have h93' : ∀ t, r ≠ 93 :: t := fun t e => h93 ⟨t, e⟩
      have hs1 := Lib.hid (rByte_f wr b s0 hs0 93 93 rfl (some r) hr (fun l e => h93' l (Option.some.inj e)))
      have H93 := Lib.hid h93'
      clear h93 h93'
      have hn : Hid (∀ wq, Rr wq b s0 (some r) → _) := Lib.hid (fun wq hq => rtext_k wq b s0 hs0 (some r) hq)
      cases hp : textP r with
      | none =>
        have e1 : restOf textP (some r) = none := by simp [restOf, hp]
        have e2 : valOf textP (some r) = [] := by simp [valOf, hp]; rfl
        rw [e1, e2] at hn
        have hp' := Lib.hid hp
        clear hp e1 e2
        go_wp2_with (first
          | (go_at_call 47; refine hs1.out.mono ?_; rintro e w2 ⟨rfl, hg2⟩; have hr2 := Rr.grown hr hg2 (by simp); have hown2 := own_kept hown (grown_any hg2 (some b)) hbw)
          | (go_at_call 25; refine (hn.out _ hr2).mono ?_; rintro e w3 ⟨rfl, hr3, hg3⟩; have hown3 := own_kept hown2 hg3 hbw)
          | (go_at_call 35; refine (rBad _ b _ _ hr4).mono ?_; rintro e w4 ⟨rfl, rfl⟩)
          | (at_builtin; refine wpList_append_own _ rfl _ _ 23 rfl w.heap.size 9 i0 (.string ⟨#[]⟩) 1 16 Tryd.underlying23 hi0 hz0 hz1 hz2 rfl (by decide) _ _ _ rfl (hown3.alloc _) ⟨w3.heap.size, 0, none⟩ 1 1 [.string ⟨#[]⟩] rfl rfl (cell_one _ _ _) (one_cell rfl) (by simp only [maxLen]; omega) (by omega) (Nat.le_trans hg.size (Nat.le_trans hg2.size (Nat.le_trans hg3.size (by simp)))) ?_; intro v5 w5 hown5 hgr5 hat5; have hr4 := rr_own hr3 hown3 hbw _ hgr5; have hg5 := grown_own ((hg.trans (grown_any hg2 _)).trans hg3) hown3 _ hgr5))
        go_ret
        have hR := HR.out
        rw [way_bad textP Hway.out H93.out hp'.out] at hR
        have e1 : valOf (listP textP) (some (91 :: s)) = [] := by simp [valOf, hR, dflt']
        have e2 : restOf (listP textP) (some (91 :: s)) = none := by simp [restOf, hR]
        rw [e1, e2]
        exact ⟨_, rfl, World.ownsRow_nil _ _ _ _, hr4, hg5⟩
      | some x =>
        obtain ⟨v, t⟩ := x
        have e1 : restOf textP (some r) = some t := by simp [restOf, hp]
        have e2 : valOf textP (some r) = v := by simp [valOf, hp]
        rw [e1, e2] at hn
        have hp' := Lib.hid hp
        clear hp e1 e2
        go_wp2_with (first
          | (go_at_call 47; refine hs1.out.mono ?_; rintro e w2 ⟨rfl, hg2⟩; have hr2 := Rr.grown hr hg2 (by simp); have hown2 := own_kept hown (grown_any hg2 (some b)) hbw)
          | (go_at_call 25; refine (hn.out _ hr2).mono ?_; rintro e w3 ⟨rfl, hr3, hg3⟩; have hown3 := own_kept hown2 hg3 hbw)
          | (go_at_call 35; refine (rBad _ b _ _ hr4).mono ?_; rintro e w4 ⟨rfl, rfl⟩)
          | (at_builtin; refine wpList_append_own _ rfl _ _ 23 rfl w.heap.size 9 i0 (.string ⟨#[]⟩) 1 16 Tryd.underlying23 hi0 hz0 hz1 hz2 rfl (by decide) _ _ _ rfl (hown3.alloc _) ⟨w3.heap.size, 0, none⟩ 1 1 [(.string ⟨v.toArray⟩)] rfl rfl (cell_one _ _ _) (one_cell rfl) (by simp only [maxLen]; omega) (by omega) (Nat.le_trans hg.size (Nat.le_trans hg2.size (Nat.le_trans hg3.size (by simp)))) ?_; intro v5 w5 hown5 hgr5 hat5; have hr4 := rr_own hr3 hown3 hbw _ hgr5; have hg5 := grown_own ((hg.trans (grown_any hg2 _)).trans hg3) hown3 _ hgr5))
        go_roundg g
        case measure => omega
        case rel =>
          refine ⟨l ++ [v], t, ?_, hr4, hg5, ?_, ?_, way_next textP Hway.out H93.out hp'.out⟩
          · simpa using hown5
          · have := ((textP_iff _ _ _).1 hp'.out).2
            have := serT_ne v
            simp_all
            omega
          · have := ((textP_iff _ _ _).1 hp'.out).2
            have := serT_ne v
            simp_all
            omega
theorem rtexts_k (w : World) (b : Nat) (s0 : List UInt8) (hs0 : s0.length ≤ 1000000) (st : Option (List UInt8)) (h : Rr w b s0 st) :
    Calls Tryd.prog 31 #[.pointer (some ⟨b, 0, none⟩)] w fun e w' => ∃ v, e = .returned v ∧
      w'.ownsRow w.heap.size 9 1 v (valOf (listP textP) st).length ((valOf (listP textP) st).map (fun x => Value.string ⟨x.toArray⟩)) ∧ Rr w' b s0 (restOf (listP textP) st) ∧ w.grownBy w' (some b) := by
  by_cases h91 : ∃ s, st = some (91 :: s)
  · obtain ⟨s, rfl⟩ := h91
    refine rtexts_go w b s0 hs0 s ?_ h
    obtain ⟨p, d, h, hp, h1, h2⟩ := h
    cases d with
    | true => cases h1 rfl
    | false =>
      have h3 := h2 rfl
      injection h3 with h3
      have := congrArg List.length h3
      simp at this
      omega
  · have hne : ∀ l, st ≠ some (91 :: l) := fun l e => h91 ⟨l, e⟩
    have e0 := list_no textP st hne
    have e1 : valOf (listP textP) st = [] := by simp [valOf, e0, dflt']
    have e2 : restOf (listP textP) st = none := by simp [restOf, e0]
    rw [e1, e2]
    refine (rtexts_no w b s0 hs0 st h hne).mono fun e w' ⟨he, hr, hg⟩ => ⟨_, he, World.ownsRow_nil _ _ _ _, hr, hg⟩
end Go.Proofs.YtmohcanfkcopiaaDoor
