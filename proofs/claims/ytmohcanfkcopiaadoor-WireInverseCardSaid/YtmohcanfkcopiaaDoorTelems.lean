/-
  wire.elements at string, by its contract; Ints and Texts of a reader.
-/
import Derived.Test.YtmohcanfkcopiaaDoorElems
namespace Go.Proofs.YtmohcanfkcopiaaDoor
open Go.RowKit
attribute [local go_sem] get_mk extract_mk

set_option maxHeartbeats 400000 in
theorem telems_no (w : World) (b : Nat) (v : Value) (st : Option (List UInt8)) (h : Rd w b st) (hne : ∀ l, st ≠ some (91 :: l)) :
    Calls Tryd.prog 48 #[.pointer (some ⟨b, 0, none⟩), v] w fun e w' => e = .returned (.slice none 0 0) ∧ Rd w' b none ∧ w.grownBy w' (some b) := by
  have hk := Lib.hid (skip_f w b 91 91 rfl st h hne)
  clear hne
  go_enter Tryd.func48, Tryd.ntmps48
  go_wp2_with fail
  refine wp_scope_forward 0 rfl ?_
  go_wp2_with (go_at_call 55; refine hk.out.mono ?_; rintro e w' ⟨rfl, rfl⟩)
  refine wp_goto (And.intro rfl ?_)
  unfold After
  go_wp2_with (go_at_call 45; refine (fail_at _ b _ h).mono ?_; rintro e w'' ⟨rfl, hr, hg'⟩)
  rw [Exit.noGoto_ret]
  go_ret
  exact ⟨rfl, hr, hg'⟩

theorem text_info : (Tryd.prog.info? 9).map (fun i => (i.zero, i.size, i.bytes)) = some (some (.string ⟨#[]⟩), 1, 16) := by kernel_rfl

/-- what holds at the head of each round -/
def TRel (w : World) (b : Nat) (s : List UInt8) (R : Option (List (List UInt8) × List UInt8)) (g : Nat) (out : Value) (wr : World) : Prop :=
  ∃ (l : List (List UInt8)) (r : List UInt8), wr.ownsRow w.heap.size 9 1 out l.length (l.map (fun l => Value.string ⟨l.toArray⟩)) ∧ Rd wr b (some r) ∧ w.grownBy wr (some b) ∧ r.length < g ∧ l.length + r.length ≤ s.length ∧ Way textP R g l r

theorem serT_ne (n : List UInt8) : 1 ≤ (serT n).length := by unfold serT; simp; omega

set_option maxRecDepth 100000 in
set_option maxHeartbeats 1000000 in
theorem telems_go (w : World) (hb : Base w) (b : Nat) (hb6 : 6 ≤ b) (s : List UInt8) (h : Rd w b (some (91 :: s))) (hl : s.length < 1000000) :
    Calls Tryd.prog 48 #[.pointer (some ⟨b, 0, none⟩), .func (.func 24) #[.pointer (some ⟨b, 0, none⟩)] #[]] w fun e w' => ∃ v, e = .returned v ∧
      w'.ownsRow w.heap.size 9 1 v (valOf (listP textP) (some (91 :: s))).length ((valOf (listP textP) (some (91 :: s))).map (fun l => .string ⟨l.toArray⟩)) ∧ Rd w' b (restOf (listP textP) (some (91 :: s))) ∧ w.grownBy w' (some b) := by
  have hk := Lib.hid (skip_t w b 91 91 rfl s h)
  have hb' := Lib.hid hb
  obtain ⟨i0, hi0, hz0, hz1, hz2⟩ := info_parts text_info
  have hbw := h.lt
  generalize hR : listP textP (91 :: s) = R
  have hst : Way textP R (s.length + 1) [] s := by
    rw [← hR]
    exact way_start textP s _
  have Hst := Lib.hid hst
  have HR := Lib.hid hR
  clear hst hR
  go_enter Tryd.func48, Tryd.ntmps48
  go_wp2_with fail
  refine wp_scope_forward 0 rfl ?_
  go_wp2_with (go_at_call 55; refine hk.out.mono ?_; rintro e w1 ⟨rfl, hr1, hg1⟩)
  go_loopg [5] (s.length + 1) (fun g out wr => TRel w b s R g out wr)
  case atStart => exact ⟨[], s, World.ownsRow_nil _ _ _ _, hr1, hg1, by omega, by simp, Hst.out⟩
  case round =>
    obtain ⟨l, r, hown, hr, hg, hlt, hlen, hway⟩ := hrel
    obtain ⟨g, rfl⟩ : ∃ g, gk = g + 1 := ⟨gk - 1, by omega⟩
    have Hway := Lib.hid hway
    clear hway
    by_cases h93 : ∃ t, r = 93 :: t
    · obtain ⟨t, rfl⟩ := h93
      have hs := Lib.hid (skip_t wr b 93 93 rfl t hr)
      go_wp2_with (go_at_call 55; refine hs.out.mono ?_; rintro e w2 ⟨rfl, hr2, hg2⟩)
      simp only [Exit.jump]
      go_ret
      have hR := HR.out
      rw [way_end textP Hway.out] at hR
      have e1 : valOf (listP textP) (some (91 :: s)) = l := by simp [valOf, hR]
      have e2 : restOf (listP textP) (some (91 :: s)) = some t := by simp [restOf, hR]
      rw [e1, e2]
      exact ⟨_, rfl, own_kept hown hg2 hbw, hr2, hg.trans hg2⟩
    · have h93' : ∀ t, r ≠ 93 :: t := fun t e => h93 ⟨t, e⟩
      have hs := Lib.hid (skip_f wr b 93 93 rfl (some r) hr (fun l e => h93' l (Option.some.inj e)))
      have hbr : Base wr := hb'.out.grown hg (fun k hk => by injection hk with hk; omega)
      have hn := Lib.hid (text_k wr hbr b (some r) hr (fun l e => by injection e with e; subst e; omega))
      have H93 := Lib.hid h93'
      clear h93 h93'
      cases hp : textP r with
      | none =>
        have e1 : restOf textP (some r) = none := by simp [restOf, hp]
        rw [e1] at hn
        have hp' := Lib.hid hp
        clear hp e1
        go_wp2_with (first
          | (go_at_call 55; refine hs.out.mono ?_; rintro e w2 ⟨rfl, rfl⟩)
          | (go_at_call 24; refine hn.out.mono ?_; rintro e w3 ⟨rfl, hr3, hg3⟩; have c3 := hr3.c1)
          | (go_at_call 34; refine (Bad_at w3 b true c3).mono ?_; rintro e w4 ⟨rfl, rfl⟩))
        refine wp_goto (And.intro rfl ?_)
        unfold After
        go_wp2_with (go_at_call 45; refine (fail_at _ b _ hr3).mono ?_; rintro e w'' ⟨rfl, hr, hg'⟩)
        rw [Exit.noGoto_ret]
        go_ret
        have hR := HR.out
        rw [way_bad textP Hway.out H93.out hp'.out] at hR
        have e1 : valOf (listP textP) (some (91 :: s)) = [] := by simp [valOf, hR, dflt']
        have e2 : restOf (listP textP) (some (91 :: s)) = none := by simp [restOf, hR]
        rw [e1, e2]
        exact ⟨_, rfl, World.ownsRow_nil _ _ _ _, hr, hg.trans (hg3.trans hg')⟩
      | some x =>
        obtain ⟨v, t⟩ := x
        have e1 : restOf textP (some r) = some t := by simp [restOf, hp]
        have e2 : valOf textP (some r) = v := by simp [valOf, hp]
        rw [e1, e2] at hn
        have hp' := Lib.hid hp
        clear hp e1 e2
        go_wp2_with (first
          | (go_at_call 55; refine hs.out.mono ?_; rintro e w2 ⟨rfl, rfl⟩)
          | (go_at_call 24; refine hn.out.mono ?_; rintro e w3 ⟨rfl, hr3, hg3⟩; have c3 := hr3.c1; have hown3 := own_kept hown hg3 hbw)
          | (go_at_call 34; refine (Bad_at w3 b false c3).mono ?_; rintro e w4 ⟨rfl, rfl⟩)
          | (at_builtin; refine wpList_append_own _ rfl _ _ 23 rfl w.heap.size 9 i0 (.string ⟨#[]⟩) 1 16 Tryd.underlying23 hi0 hz0 hz1 hz2 rfl (by decide) _ _ _ rfl (hown3.alloc _) ⟨w3.heap.size, 0, none⟩ 1 1 [.string ⟨v.toArray⟩] rfl rfl (cell_one _ _ _) (one_cell rfl) (by simp only [maxLen]; omega) (by omega) (Nat.le_trans hg.size (Nat.le_trans hg3.size (by simp))) ?_; intro v5 w5 hown5 hgr5 hat5))
        go_roundg g
        case measure => omega
        case rel =>
          refine ⟨l ++ [v], t, ?_, rd_own hr3 hown3 hbw _ hgr5, grown_own (hg.trans hg3) hown3 _ hgr5, ?_, ?_, way_next textP Hway.out H93.out hp'.out⟩
          · simpa using hown5
          · have := ((textP_iff _ _ _).1 hp'.out).2
            have := serT_ne v
            simp_all
            omega
          · have := ((textP_iff _ _ _).1 hp'.out).2
            have := serT_ne v
            simp_all
            omega

set_option maxHeartbeats 400000 in
theorem ielems_nil (w : World) (v : Value) : Calls Tryd.prog 46 #[.pointer none, v] w fun e w' => e = .returned (.slice none 0 0) ∧ w = w' := by
  go_enter Tryd.func46, Tryd.ntmps46
  go_wp2_with fail
  refine wp_scope_forward 0 rfl ?_
  go_wp2_with (go_at_call 55; refine (skip_nil w _).mono ?_; rintro e w' ⟨rfl, rfl⟩)
  refine wp_goto (And.intro rfl ?_)
  unfold After
  go_wp2_with (go_at_call 45; refine (fail_nil w).mono ?_; rintro e w' ⟨rfl, rfl⟩)
  rw [Exit.noGoto_ret]
  go_ret
  exact ⟨rfl, rfl⟩
set_option maxHeartbeats 400000 in
theorem telems_nil (w : World) (v : Value) : Calls Tryd.prog 48 #[.pointer none, v] w fun e w' => e = .returned (.slice none 0 0) ∧ w = w' := by
  go_enter Tryd.func48, Tryd.ntmps48
  go_wp2_with fail
  refine wp_scope_forward 0 rfl ?_
  go_wp2_with (go_at_call 55; refine (skip_nil w _).mono ?_; rintro e w' ⟨rfl, rfl⟩)
  refine wp_goto (And.intro rfl ?_)
  unfold After
  go_wp2_with (go_at_call 45; refine (fail_nil w).mono ?_; rintro e w' ⟨rfl, rfl⟩)
  rw [Exit.noGoto_ret]
  go_ret
  exact ⟨rfl, rfl⟩
set_option maxHeartbeats 400000 in
theorem ints_nil (w : World) : Calls Tryd.prog 27 #[.pointer none] w fun e w' => e = .returned (.slice none 0 0) ∧ w = w' := by
  go_enter Tryd.func27, Tryd.ntmps27
  go_wp2_with (go_at_call 46; refine (ielems_nil w _).mono ?_; rintro e w' ⟨rfl, rfl⟩)
  go_ret
  exact ⟨rfl, rfl⟩
set_option maxHeartbeats 400000 in
theorem texts_nil (w : World) : Calls Tryd.prog 30 #[.pointer none] w fun e w' => e = .returned (.slice none 0 0) ∧ w = w' := by
  go_enter Tryd.func30, Tryd.ntmps30
  go_wp2_with (go_at_call 48; refine (telems_nil w _).mono ?_; rintro e w' ⟨rfl, rfl⟩)
  go_ret
  exact ⟨rfl, rfl⟩

theorem list_no {α : Type} (p : List UInt8 → Option (α × List UInt8)) (st : Option (List UInt8)) (h : ∀ l, st ≠ some (91 :: l)) : st.bind (listP p) = none := by
  cases st with
  | none => rfl
  | some l =>
    simp only [Option.bind_some, listP]
    cases l with
    | nil => simp
    | cons c t =>
      have : c ≠ 91 := fun e => h t (by rw [e])
      simp [this]

/-- what the four methods of a reader do to it: the value, and what is left -/
theorem ints_k (w : World) (hb : Base w) (b : Nat) (hb6 : 6 ≤ b) (st : Option (List UInt8)) (h : Rd w b st) (hl : ∀ l, st = some l → l.length ≤ 1000000) :
    Calls Tryd.prog 27 #[.pointer (some ⟨b, 0, none⟩)] w fun e w' => ∃ v, e = .returned v ∧
      w'.ownsRow w.heap.size 3 1 v (valOf (listP intP) st).length ((valOf (listP intP) st).map (.int .i64)) ∧ Rd w' b (restOf (listP intP) st) ∧ w.grownBy w' (some b) := by
  have hk : Calls Tryd.prog 46 #[.pointer (some ⟨b, 0, none⟩), .func (.func 22) #[.pointer (some ⟨b, 0, none⟩)] #[]] w fun e w' => ∃ v, e = .returned v ∧
      w'.ownsRow w.heap.size 3 1 v (valOf (listP intP) st).length ((valOf (listP intP) st).map (.int .i64)) ∧ Rd w' b (restOf (listP intP) st) ∧ w.grownBy w' (some b) := by
    by_cases h91 : ∃ s, st = some (91 :: s)
    · obtain ⟨s, rfl⟩ := h91
      exact ielems_go w hb b hb6 s h (by have := hl _ rfl; simp at this; omega)
    · have hne : ∀ l, st ≠ some (91 :: l) := fun l e => h91 ⟨l, e⟩
      have hn := list_no intP st hne
      have e1 : valOf (listP intP) st = [] := by simp [valOf, hn, dflt']
      have e2 : restOf (listP intP) st = none := by simp [restOf, hn]
      rw [e1, e2]
      exact (ielems_no w b _ st h hne).mono fun _ _ ⟨he, hr, hg⟩ => ⟨_, he, World.ownsRow_nil _ _ _ _, hr, hg⟩
  have Hk := Lib.hid hk
  clear hk hl
  go_enter Tryd.func27, Tryd.ntmps27
  go_wp2_with (go_at_call 46; refine Hk.out.mono ?_; rintro e w' ⟨v, rfl, ho, hr, hg⟩)
  go_ret
  exact ⟨_, rfl, ho, hr, hg⟩
theorem texts_k (w : World) (hb : Base w) (b : Nat) (hb6 : 6 ≤ b) (st : Option (List UInt8)) (h : Rd w b st) (hl : ∀ l, st = some l → l.length ≤ 1000000) :
    Calls Tryd.prog 30 #[.pointer (some ⟨b, 0, none⟩)] w fun e w' => ∃ v, e = .returned v ∧
      w'.ownsRow w.heap.size 9 1 v (valOf (listP textP) st).length ((valOf (listP textP) st).map (fun l => .string ⟨l.toArray⟩)) ∧ Rd w' b (restOf (listP textP) st) ∧ w.grownBy w' (some b) := by
  have hk : Calls Tryd.prog 48 #[.pointer (some ⟨b, 0, none⟩), .func (.func 24) #[.pointer (some ⟨b, 0, none⟩)] #[]] w fun e w' => ∃ v, e = .returned v ∧
      w'.ownsRow w.heap.size 9 1 v (valOf (listP textP) st).length ((valOf (listP textP) st).map (fun l => .string ⟨l.toArray⟩)) ∧ Rd w' b (restOf (listP textP) st) ∧ w.grownBy w' (some b) := by
    by_cases h91 : ∃ s, st = some (91 :: s)
    · obtain ⟨s, rfl⟩ := h91
      exact telems_go w hb b hb6 s h (by have := hl _ rfl; simp at this; omega)
    · have hne : ∀ l, st ≠ some (91 :: l) := fun l e => h91 ⟨l, e⟩
      have hn := list_no textP st hne
      have e1 : valOf (listP textP) st = [] := by simp [valOf, hn, dflt']
      have e2 : restOf (listP textP) st = none := by simp [restOf, hn]
      rw [e1, e2]
      exact (telems_no w b _ st h hne).mono fun _ _ ⟨he, hr, hg⟩ => ⟨_, he, World.ownsRow_nil _ _ _ _, hr, hg⟩
  have Hk := Lib.hid hk
  clear hk hl
  go_enter Tryd.func30, Tryd.ntmps30
  go_wp2_with (go_at_call 48; refine Hk.out.mono ?_; rintro e w' ⟨v, rfl, ho, hr, hg⟩)
  go_ret
  exact ⟨_, rfl, ho, hr, hg⟩
end Go.Proofs.YtmohcanfkcopiaaDoor
