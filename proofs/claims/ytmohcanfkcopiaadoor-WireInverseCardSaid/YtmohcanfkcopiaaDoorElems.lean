/-
  wire.elements at int, by its contract.
-/
import Derived.Test.YtmohcanfkcopiaaDoorRead
import Derived.Deep.LoopGhost
import Derived.OwnWalk
namespace Go.Proofs.YtmohcanfkcopiaaDoor
open Go.RowKit
attribute [local go_sem] get_mk extract_mk

theorem skip_f (w : World) (b : Nat) (k : Int) (c : UInt8) (hk : k = c.toNat) (st : Option (List UInt8)) (h : Rd w b st) (hne : ∀ l, st ≠ some (c :: l)) :
    Calls Tryd.prog 55 #[.pointer (some ⟨b, 0, none⟩), .int .u8 k] w fun e w' => e = .returned (.bool false) ∧ w = w' := by
  cases st with
  | none => exact skip_bad w b k h
  | some l =>
    cases l with
    | nil => exact skip_empty w b k h
    | cons x l =>
      refine skip_no w b k x l ?_ h
      rw [bne_iff_ne]
      intro e
      have : x = c := UInt8.toNat_inj.1 (by omega)
      subst this
      exact hne l rfl
theorem skip_t (w : World) (b : Nat) (k : Int) (c : UInt8) (hk : k = c.toNat) (l : List UInt8) (h : Rd w b (some (c :: l))) :
    Calls Tryd.prog 55 #[.pointer (some ⟨b, 0, none⟩), .int .u8 k] w fun e w' => e = .returned (.bool true) ∧ Rd w' b (some l) ∧ w.grownBy w' (some b) :=
  skip_yes w b k c l (by rw [hk]; simp) h

set_option maxHeartbeats 400000 in
theorem ielems_no (w : World) (b : Nat) (v : Value) (st : Option (List UInt8)) (h : Rd w b st) (hne : ∀ l, st ≠ some (91 :: l)) :
    Calls Tryd.prog 46 #[.pointer (some ⟨b, 0, none⟩), v] w fun e w' => e = .returned (.slice none 0 0) ∧ Rd w' b none ∧ w.grownBy w' (some b) := by
  have hk := Lib.hid (skip_f w b 91 91 rfl st h hne)
  clear hne
  go_enter Tryd.func46, Tryd.ntmps46
  go_wp2_with fail
  refine wp_scope_forward 0 rfl ?_
  go_wp2_with (go_at_call 55; refine hk.out.mono ?_; rintro e w' ⟨rfl, rfl⟩)
  refine wp_goto (And.intro rfl ?_)
  unfold After
  go_wp2_with (go_at_call 45; refine (fail_at _ b _ h).mono ?_; rintro e w'' ⟨rfl, hr, hg'⟩)
  rw [Exit.noGoto_ret]
  go_ret
  exact ⟨rfl, hr, hg'⟩

section
variable {α : Type} (p : List UInt8 → Option (α × List UInt8))
/-- what holds of a list under way: the whole, from what has been decoded and what is left -/
def Way (R : Option (List α × List UInt8)) (g : Nat) (l : List α) (r : List UInt8) : Prop :=
  R = match elemsP p g r with | some (l', t) => some (l ++ l', t) | none => none

theorem way_start (s : List UInt8) (k : Nat) : Way p (elemsP p k s) k [] s := by
  unfold Way
  cases elemsP p k s with
  | none => rfl
  | some x => rfl
theorem way_end {R : Option (List α × List UInt8)} {g : Nat} {l : List α} {r : List UInt8} (h : Way p R (g + 1) l (93 :: r)) : R = some (l, r) := by
  unfold Way at h
  rw [h]
  simp [elemsP]
theorem way_bad {R : Option (List α × List UInt8)} {g : Nat} {l : List α} {r : List UInt8} (h : Way p R (g + 1) l r) (h93 : ∀ t, r ≠ 93 :: t) (hp : p r = none) : R = none := by
  unfold Way at h
  rw [h]
  have hh : ¬ r.head? = some 93 := by
    cases r with
    | nil => simp
    | cons c t => intro e; simp at e; subst e; exact h93 t rfl
  simp [elemsP, hp, hh]
theorem way_next {R : Option (List α × List UInt8)} {g : Nat} {l : List α} {r t : List UInt8} {v : α} (h : Way p R (g + 1) l r) (h93 : ∀ t, r ≠ 93 :: t) (hp : p r = some (v, t)) : Way p R g (l ++ [v]) t := by
  unfold Way at h ⊢
  rw [h]
  have hh : ¬ r.head? = some 93 := by
    cases r with
    | nil => simp
    | cons c t => intro e; simp at e; subst e; exact h93 t rfl
  simp only [elemsP, hp]
  rw [if_neg hh]
  cases elemsP p g t with
  | none => rfl
  | some x => obtain ⟨a, u⟩ := x; simp
end

theorem dflt' {α : Type} : (default : List α) = [] := rfl
theorem int_info : (Tryd.prog.info? 3).map (fun i => (i.zero, i.size, i.bytes)) = some (some (.int .i64 0), 1, 8) := by kernel_rfl

/-- what holds at the head of each round -/
def IRel (w : World) (b : Nat) (s : List UInt8) (R : Option (List Int × List UInt8)) (g : Nat) (out : Value) (wr : World) : Prop :=
  ∃ (l : List Int) (r : List UInt8), wr.ownsRow w.heap.size 3 1 out l.length (l.map (Value.int .i64)) ∧ Rd wr b (some r) ∧ w.grownBy wr (some b) ∧ r.length < g ∧ l.length + r.length ≤ s.length ∧ Way intP R g l r

theorem serI_ne (n : Int) : 1 ≤ (serI n).length := by unfold serI; simp

theorem own_kept {w a c : World} {b e size n : Nat} {v : Value} {xs : List Value} (h : a.ownsRow w.heap.size e size v n xs) (hg : a.grownBy c (some b)) (hb : b < w.heap.size) : c.ownsRow w.heap.size e size v n xs := by
  refine h.kept hg ?_
  cases hv : v.ownBlock with
  | none => exact .inl rfl
  | some k =>
    refine .inr fun e => ?_
    injection e with e
    have := (h.lt k hv).1
    omega

theorem cell_one (w : World) (x : Value) (t : TypeId) : ∀ (j : Nat) (u : Value), [x][j]? = some u → (w.alloc (.cells #[x] t)).cell? ((⟨w.heap.size, 0, none⟩ : Addr).add j) = some u := by
  intro j u hj
  cases j with
  | zero =>
    simp at hj
    subst hj
    simp [Addr.add]
  | succ j => simp at hj
theorem one_cell {x : Value} (h : x.oneCell' = true) : ∀ u ∈ [x], u.oneCell' = true := by
  intro u hu
  rw [List.mem_singleton] at hu
  rw [hu]
  exact h
theorem grown_own {w a c : World} {b e size n : Nat} {v : Value} {xs : List Value} (hg : w.grownBy a (some b)) (h : a.ownsRow w.heap.size e size v n xs) (o : Obj) (hc : (a.alloc o).grownBy c v.ownBlock) : w.grownBy c (some b) :=
  (hg.trans (World.grownBy_alloc a o (some b))).andThen hc (fun j hj => .inl (h.lt j hj).1)
theorem rd_own {w a c : World} {b e size n : Nat} {v : Value} {xs : List Value} {st : Option (List UInt8)} (hr : Rd a b st) (h : a.ownsRow w.heap.size e size v n xs) (hb : b < w.heap.size) (o : Obj) (hc : (a.alloc o).grownBy c v.ownBlock) : Rd c b st :=
  (hr.grown (World.grownBy_alloc a o none) (by simp)).grown hc (fun e => by
    have := (h.lt b e.symm).1
    omega)

set_option maxRecDepth 100000 in
set_option maxHeartbeats 1000000 in
theorem ielems_go (w : World) (hb : Base w) (b : Nat) (hb6 : 6 ≤ b) (s : List UInt8) (h : Rd w b (some (91 :: s))) (hl : s.length < 1000000) :
    Calls Tryd.prog 46 #[.pointer (some ⟨b, 0, none⟩), .func (.func 22) #[.pointer (some ⟨b, 0, none⟩)] #[]] w fun e w' => ∃ v, e = .returned v ∧
      w'.ownsRow w.heap.size 3 1 v (valOf (listP intP) (some (91 :: s))).length ((valOf (listP intP) (some (91 :: s))).map (.int .i64)) ∧ Rd w' b (restOf (listP intP) (some (91 :: s))) ∧ w.grownBy w' (some b) := by
  have hk := Lib.hid (skip_t w b 91 91 rfl s h)
  have hb' := Lib.hid hb
  obtain ⟨i0, hi0, hz0, hz1, hz2⟩ := info_parts int_info
  have hbw := h.lt
  generalize hR : listP intP (91 :: s) = R
  have hst : Way intP R (s.length + 1) [] s := by
    rw [← hR]
    exact way_start intP s _
  have Hst := Lib.hid hst
  have HR := Lib.hid hR
  clear hst hR
  go_enter Tryd.func46, Tryd.ntmps46
  go_wp2_with fail
  refine wp_scope_forward 0 rfl ?_
  go_wp2_with (go_at_call 55; refine hk.out.mono ?_; rintro e w1 ⟨rfl, hr1, hg1⟩)
  go_loopg [5] (s.length + 1) (fun g out wr => IRel w b s R g out wr)
  case atStart => exact ⟨[], s, World.ownsRow_nil _ _ _ _, hr1, hg1, by omega, by simp, Hst.out⟩
  case round =>
    obtain ⟨l, r, hown, hr, hg, hlt, hlen, hway⟩ := hrel
    obtain ⟨g, rfl⟩ : ∃ g, gk = g + 1 := ⟨gk - 1, by omega⟩
    have Hway := Lib.hid hway
    clear hway
    by_cases h93 : ∃ t, r = 93 :: t
    · obtain ⟨t, rfl⟩ := h93
      have hs := Lib.hid (skip_t wr b 93 93 rfl t hr)
      go_wp2_with (go_at_call 55; refine hs.out.mono ?_; rintro e w2 ⟨rfl, hr2, hg2⟩)
      simp only [Exit.jump]
      go_ret
      have hR := HR.out
      rw [way_end intP Hway.out] at hR
      have e1 : valOf (listP intP) (some (91 :: s)) = l := by simp [valOf, hR]
      have e2 : restOf (listP intP) (some (91 :: s)) = some t := by simp [restOf, hR]
      rw [e1, e2]
      exact ⟨_, rfl, own_kept hown hg2 hbw, hr2, hg.trans hg2⟩
    · have h93' : ∀ t, r ≠ 93 :: t := fun t e => h93 ⟨t, e⟩
      have hs := Lib.hid (skip_f wr b 93 93 rfl (some r) hr (fun l e => h93' l (Option.some.inj e)))
      have hbr : Base wr := hb'.out.grown hg (fun k hk => by injection hk with hk; omega)
      have hn := Lib.hid (int_k wr hbr b (some r) hr (fun l e => by injection e with e; subst e; omega))
      have H93 := Lib.hid h93'
      clear h93 h93'
      cases hp : intP r with
      | none =>
        have e1 : restOf intP (some r) = none := by simp [restOf, hp]
        rw [e1] at hn
        have hp' := Lib.hid hp
        clear hp e1
        go_wp2_with (first
          | (go_at_call 55; refine hs.out.mono ?_; rintro e w2 ⟨rfl, rfl⟩)
          | (go_at_call 22; refine hn.out.mono ?_; rintro e w3 ⟨rfl, hr3, hg3⟩; have c3 := hr3.c1)
          | (go_at_call 34; refine (Bad_at w3 b true c3).mono ?_; rintro e w4 ⟨rfl, rfl⟩))
        refine wp_goto (And.intro rfl ?_)
        unfold After
        go_wp2_with (go_at_call 45; refine (fail_at _ b _ hr3).mono ?_; rintro e w'' ⟨rfl, hr, hg'⟩)
        rw [Exit.noGoto_ret]
        go_ret
        have hR := HR.out
        rw [way_bad intP Hway.out H93.out hp'.out] at hR
        have e1 : valOf (listP intP) (some (91 :: s)) = [] := by simp [valOf, hR, dflt']
        have e2 : restOf (listP intP) (some (91 :: s)) = none := by simp [restOf, hR]
        rw [e1, e2]
        exact ⟨_, rfl, World.ownsRow_nil _ _ _ _, hr, hg.trans (hg3.trans hg')⟩
      | some x =>
        obtain ⟨v, t⟩ := x
        have e1 : restOf intP (some r) = some t := by simp [restOf, hp]
        have e2 : valOf intP (some r) = v := by simp [valOf, hp]
        rw [e1, e2] at hn
        have hp' := Lib.hid hp
        clear hp e1 e2
        go_wp2_with (first
          | (go_at_call 55; refine hs.out.mono ?_; rintro e w2 ⟨rfl, rfl⟩)
          | (go_at_call 22; refine hn.out.mono ?_; rintro e w3 ⟨rfl, hr3, hg3⟩; have c3 := hr3.c1; have hown3 := own_kept hown hg3 hbw)
          | (go_at_call 34; refine (Bad_at w3 b false c3).mono ?_; rintro e w4 ⟨rfl, rfl⟩)
          | (at_builtin; refine wpList_append_own _ rfl _ _ 22 rfl w.heap.size 3 i0 (.int .i64 0) 1 8 Tryd.underlying22 hi0 hz0 hz1 hz2 rfl (by decide) _ _ _ rfl (hown3.alloc _) ⟨w3.heap.size, 0, none⟩ 1 1 [.int .i64 v] rfl rfl (cell_one _ _ _) (one_cell rfl) (by simp only [maxLen]; omega) (by omega) (Nat.le_trans hg.size (Nat.le_trans hg3.size (by simp))) ?_; intro v5 w5 hown5 hgr5 hat5))
        go_roundg g
        case measure => omega
        case rel =>
          refine ⟨l ++ [v], t, ?_, rd_own hr3 hown3 hbw _ hgr5, grown_own (hg.trans hg3) hown3 _ hgr5, ?_, ?_, way_next intP Hway.out H93.out hp'.out⟩
          · simpa using hown5
          · have := ((intP_iff _ _ _).1 hp'.out).2
            have := serI_ne v
            simp_all
            omega
          · have := ((intP_iff _ _ _).1 hp'.out).2
            have := serI_ne v
            simp_all
            omega
end Go.Proofs.YtmohcanfkcopiaaDoor
