/-
  WireCanonical: the walk.
-/
import Derived.Test.YtmohcanfkcopiaaDoorSane
namespace Go.Proofs.YtmohcanfkcopiaaDoor
open Go.RowKit
attribute [local go_sem] get_mk extract_mk

/-- what a decoder that has succeeded says of the bytes -/
theorem dec_some {α : Type} [Inhabited α] {p : List UInt8 → Option (α × List UInt8)} {f : α → List UInt8} {g : α → Prop} (d : ∀ s v t, p s = some (v, t) ↔ g v ∧ s = f v ++ t) {t u : List UInt8} (h : restOf p (some t) = some u) :
    g (valOf p (some t)) ∧ t = f (valOf p (some t)) ++ u := by
  unfold restOf valOf at *
  cases hp : p t with
  | none => simp [hp] at h
  | some x =>
    obtain ⟨v, r⟩ := x
    simp only [Option.bind_some, hp, Option.some.injEq] at h ⊢
    subst h
    exact (d _ _ _).1 hp
theorem dec_none {α : Type} [Inhabited α] {p : List UInt8 → Option (α × List UInt8)} {t : List UInt8} (h : restOf p (some t) = none) : valOf p (some t) = default := by
  unfold restOf valOf at *
  cases hp : p t with
  | none => simp [hp]
  | some x => simp [hp] at h

theorem int_good (t : List UInt8) : I64 (valOf intP (some t)) := by
  cases h : restOf intP (some t) with
  | none => rw [dec_none h]; exact ⟨by decide, by decide⟩
  | some u => exact (dec_some intP_iff h).1
theorem text_good (t : List UInt8) (ht : t.length ≤ 1000) : (valOf textP (some t)).length ≤ 1000 := by
  cases h : restOf textP (some t) with
  | none => rw [dec_none h]; exact Nat.zero_le _
  | some u =>
    have := (dec_some textP_iff h).2
    have h2 : t.length = (serT (valOf textP (some t)) ++ u).length := by rw [← this]
    unfold serT at h2
    simp only [List.length_append, List.length_cons] at h2
    omega
theorem ints_good (t : List UInt8) (ht : t.length ≤ 1000) : (∀ x ∈ valOf (listP intP) (some t), I64 x) ∧ ((valOf (listP intP) (some t)).flatMap serI).length < 1000000 := by
  cases h : restOf (listP intP) (some t) with
  | none => rw [dec_none h]; exact ⟨(by intro x hx; cases hx), by decide⟩
  | some u =>
    have := dec_some (list_iff intD) h
    refine ⟨this.1, ?_⟩
    have h2 : t.length = (serL serI (valOf (listP intP) (some t)) ++ u).length := by rw [← this.2]
    unfold serL at h2
    simp only [List.length_append, List.length_cons] at h2
    omega
theorem texts_good (t : List UInt8) (ht : t.length ≤ 1000) : (∀ x ∈ valOf (listP textP) (some t), x.length ≤ 4611686018427387904) ∧ ((valOf (listP textP) (some t)).flatMap serT).length < 1000000 := by
  cases h : restOf (listP textP) (some t) with
  | none => rw [dec_none h]; exact ⟨(by intro x hx; cases hx), by decide⟩
  | some u =>
    have := dec_some (list_iff textD) h
    have h2 : t.length = (serL serT (valOf (listP textP) (some t)) ++ u).length := by rw [← this.2]
    unfold serL at h2
    simp only [List.length_append, List.length_cons] at h2
    refine ⟨fun x hx => ?_, by omega⟩
    have h3 : (serT x).length ≤ ((valOf (listP textP) (some t)).flatMap serT).length := by
      obtain ⟨a, b, hab⟩ := List.append_of_mem hx
      rw [hab]
      simp only [List.flatMap_append, List.flatMap_cons, List.length_append]
      omega
    have h4 : x.length ≤ (serT x).length := by unfold serT; simp only [List.length_append, List.length_cons]; omega
    omega

set_option maxRecDepth 100000 in
set_option maxHeartbeats 4000000 in
theorem canonical_walk (w : World) (hb : Base w) (l : List UInt8) (hl : l.length ≤ 9223372036854775807) : Calls Tryd.prog 6 #[.string ⟨l.toArray⟩] w fun e w' => e = .returned (.bool true) ∧ w.grownBy w' none := by
  have hb6 := hb.size
  have Hs := Lib.hid (sane w hb)
  have Hb := Lib.hid hb
  clear hb
  go_enter Tryd.func6, Tryd.ntmps6
  go_wp2_with fail
  refine Hs.out.mono ?_
  rintro e w0 ⟨rfl, g0⟩
  have b0 := Lib.hid (Hb.out.none_ g0)
  have hw0 : w.heap.size ≤ w0.heap.size := g0.size
  go_wp2_with fail
  have ht : (List.take (min (l.length : Int) 200).toNat l).length ≤ 200 := by rw [List.length_take]; omega
  generalize List.take (min (l.length : Int) 200).toNat l = t at ht ⊢
  go_loopw [4] (fun i wr => ∃ k : Nat, k ≤ 4 ∧ i = .int .i64 k ∧ w0.grownBy wr none) (fun i _ => 4 - (intOf i).toNat)
  case atStart => exact ⟨0, by omega, rfl, World.grownBy.refl _ _⟩
  case round =>
    obtain ⟨k, hk, rfl, hg⟩ := hrel
    have hwr : w0.heap.size ≤ wr.heap.size := hg.size
    have bR := Lib.hid (b0.out.none_ hg)
    have hn6 : 6 ≤ wr.heap.size := by omega
    have hl1 : Hid (∀ l, some t = some l → l.length ≤ 4611686018427387904) := Lib.hid (fun l e => by injection e with e; subst e; omega)
    have hl2 : Hid (∀ l, some t = some l → l.length ≤ 1000000) := Lib.hid (fun l e => by injection e with e; subst e; omega)
    match k, hk with
    | 0, _ =>
      go_wp2_with fail
      refine (new_k t wr).mono ?_
      rintro e w1 ⟨rfl, r1, g1, l1⟩
      have b1 := Lib.hid (bR.out.none_ g1)
      cases hu : restOf intP (some t) with
      | none =>
        go_wp2_with fail
        refine (int_k _ b1.out _ _ r1 hl1.out).mono ?_
        rintro e w2 ⟨rfl, r2, g2⟩
        rw [hu] at r2
        have b2 := Lib.hid (b1.out.grown g2 (fun k hk => by injection hk with hk; omega))
        go_wp2_with fail
        refine (wInt _ (int_good t) _ b2.out).mono ?_
        rintro e w3 ⟨rfl, g3⟩
        have r3 := r2.grown g3 (by simp)
        generalize serI (valOf intP (some t)) = a
        go_wp2_with fail
        refine (Bad_k _ _ _ r3).mono ?_
        rintro e w' ⟨rfl, rfl⟩
        go_wp2_with fail
        refine (Bad_k _ _ _ r3).mono ?_
        rintro e w' ⟨rfl, rfl⟩
        go_wp2_with fail
        refine (Left_k _ _ _ r3).mono ?_
        rintro e w' ⟨rfl, rfl⟩
        go_wp2_with fail
        exact ⟨⟨1, by omega, rfl, ((hg.trans g1).andThen g2 (fun j hj => .inl (by injection hj with hj; omega))).trans g3⟩, by simp [intOf]⟩
      | some u =>
        go_wp2_with fail
        refine (int_k _ b1.out _ _ r1 hl1.out).mono ?_
        rintro e w2 ⟨rfl, r2, g2⟩
        rw [hu] at r2
        have b2 := Lib.hid (b1.out.grown g2 (fun k hk => by injection hk with hk; omega))
        go_wp2_with fail
        refine (wInt _ (int_good t) _ b2.out).mono ?_
        rintro e w3 ⟨rfl, g3⟩
        have r3 := r2.grown g3 (by simp)
        have hd := (dec_some intP_iff hu).2
        generalize serI (valOf intP (some t)) = a at hd ⊢
        have ha : ((a.length : Int) != (t.length : Int) - (u.length : Int)) = false := by rw [hd]; simp
        have hta : t.take a.length = a := by rw [hd]; simp
        have hul : u.length ≤ t.length := by rw [hd]; simp
        have hal : a.length ≤ t.length := by rw [hd]; simp
        have Hd := Lib.hid hd
        clear hd
        go_wp2_with fail
        refine (Bad_k _ _ _ r3).mono ?_
        rintro e w' ⟨rfl, rfl⟩
        go_wp2_with fail
        refine (Left_k _ _ _ r3).mono ?_
        rintro e w' ⟨rfl, rfl⟩
        simp only [Option.getD_some]
        go_wp2_with fail
        refine (Bad_k _ _ _ r3).mono ?_
        rintro e w' ⟨rfl, rfl⟩
        go_wp2_with fail
        exact ⟨⟨1, by omega, rfl, ((hg.trans g1).andThen g2 (fun j hj => .inl (by injection hj with hj; omega))).trans g3⟩, by simp [intOf]⟩
    | 1, _ =>
      go_wp2_with fail
      refine (new_k t wr).mono ?_
      rintro e w1 ⟨rfl, r1, g1, l1⟩
      have b1 := Lib.hid (bR.out.none_ g1)
      cases hu : restOf textP (some t) with
      | none =>
        go_wp2_with fail
        refine (text_k _ b1.out _ _ r1 hl1.out).mono ?_
        rintro e w2 ⟨rfl, r2, g2⟩
        rw [hu] at r2
        have b2 := Lib.hid (b1.out.grown g2 (fun k hk => by injection hk with hk; omega))
        go_wp2_with fail
        refine (wText _ (Nat.le_trans (text_good t (by omega)) (by decide)) _ b2.out).mono ?_
        rintro e w3 ⟨rfl, g3⟩
        have r3 := r2.grown g3 (by simp)
        generalize serT (valOf textP (some t)) = a
        go_wp2_with fail
        refine (Bad_k _ _ _ r3).mono ?_
        rintro e w' ⟨rfl, rfl⟩
        go_wp2_with fail
        refine (Bad_k _ _ _ r3).mono ?_
        rintro e w' ⟨rfl, rfl⟩
        go_wp2_with fail
        refine (Left_k _ _ _ r3).mono ?_
        rintro e w' ⟨rfl, rfl⟩
        go_wp2_with fail
        exact ⟨⟨2, by omega, rfl, ((hg.trans g1).andThen g2 (fun j hj => .inl (by injection hj with hj; omega))).trans g3⟩, by simp [intOf]⟩
      | some u =>
        go_wp2_with fail
        refine (text_k _ b1.out _ _ r1 hl1.out).mono ?_
        rintro e w2 ⟨rfl, r2, g2⟩
        rw [hu] at r2
        have b2 := Lib.hid (b1.out.grown g2 (fun k hk => by injection hk with hk; omega))
        go_wp2_with fail
        refine (wText _ (Nat.le_trans (text_good t (by omega)) (by decide)) _ b2.out).mono ?_
        rintro e w3 ⟨rfl, g3⟩
        have r3 := r2.grown g3 (by simp)
        have hd := (dec_some textP_iff hu).2
        generalize serT (valOf textP (some t)) = a at hd ⊢
        have ha : ((a.length : Int) != (t.length : Int) - (u.length : Int)) = false := by rw [hd]; simp
        have hta : t.take a.length = a := by rw [hd]; simp
        have hul : u.length ≤ t.length := by rw [hd]; simp
        have hal : a.length ≤ t.length := by rw [hd]; simp
        have Hd := Lib.hid hd
        clear hd
        go_wp2_with fail
        refine (Bad_k _ _ _ r3).mono ?_
        rintro e w' ⟨rfl, rfl⟩
        go_wp2_with fail
        refine (Left_k _ _ _ r3).mono ?_
        rintro e w' ⟨rfl, rfl⟩
        simp only [Option.getD_some]
        go_wp2_with fail
        refine (Bad_k _ _ _ r3).mono ?_
        rintro e w' ⟨rfl, rfl⟩
        go_wp2_with fail
        exact ⟨⟨2, by omega, rfl, ((hg.trans g1).andThen g2 (fun j hj => .inl (by injection hj with hj; omega))).trans g3⟩, by simp [intOf]⟩
    | 2, _ =>
      go_wp2_with fail
      refine (new_k t wr).mono ?_
      rintro e w1 ⟨rfl, r1, g1, l1⟩
      have b1 := Lib.hid (bR.out.none_ g1)
      cases hu : restOf (listP intP) (some t) with
      | none =>
        go_wp2_with fail
        refine (ints_k _ b1.out _ hn6 _ r1 hl2.out).mono ?_
        rintro e w2 ⟨v, rfl, o2, r2, g2⟩
        obtain ⟨A, c, rfl, hc1, hc2⟩ := own_slice o2
        rw [hu] at r2
        have b2 := Lib.hid (b1.out.grown g2 (fun k hk => by injection hk with hk; omega))
        go_wp2_with fail
        refine (wInts A c _ _ _ b2.out rfl (ints_good t (by omega)).1 (ints_good t (by omega)).2 hc1 hc2 (fun h => own_read o2 h)).mono ?_
        rintro e w3 ⟨rfl, g3⟩
        have r3 := r2.grown g3 (by simp)
        generalize (serL serI) (valOf (listP intP) (some t)) = a
        go_wp2_with fail
        refine (Bad_k _ _ _ r3).mono ?_
        rintro e w' ⟨rfl, rfl⟩
        go_wp2_with fail
        refine (Bad_k _ _ _ r3).mono ?_
        rintro e w' ⟨rfl, rfl⟩
        go_wp2_with fail
        refine (Left_k _ _ _ r3).mono ?_
        rintro e w' ⟨rfl, rfl⟩
        go_wp2_with fail
        exact ⟨⟨3, by omega, rfl, ((hg.trans g1).andThen g2 (fun j hj => .inl (by injection hj with hj; omega))).trans g3⟩, by simp [intOf]⟩
      | some u =>
        go_wp2_with fail
        refine (ints_k _ b1.out _ hn6 _ r1 hl2.out).mono ?_
        rintro e w2 ⟨v, rfl, o2, r2, g2⟩
        obtain ⟨A, c, rfl, hc1, hc2⟩ := own_slice o2
        rw [hu] at r2
        have b2 := Lib.hid (b1.out.grown g2 (fun k hk => by injection hk with hk; omega))
        go_wp2_with fail
        refine (wInts A c _ _ _ b2.out rfl (ints_good t (by omega)).1 (ints_good t (by omega)).2 hc1 hc2 (fun h => own_read o2 h)).mono ?_
        rintro e w3 ⟨rfl, g3⟩
        have r3 := r2.grown g3 (by simp)
        have hd := (dec_some (list_iff intD) hu).2
        generalize (serL serI) (valOf (listP intP) (some t)) = a at hd ⊢
        have ha : ((a.length : Int) != (t.length : Int) - (u.length : Int)) = false := by rw [hd]; simp
        have hta : t.take a.length = a := by rw [hd]; simp
        have hul : u.length ≤ t.length := by rw [hd]; simp
        have hal : a.length ≤ t.length := by rw [hd]; simp
        have Hd := Lib.hid hd
        clear hd
        go_wp2_with fail
        refine (Bad_k _ _ _ r3).mono ?_
        rintro e w' ⟨rfl, rfl⟩
        go_wp2_with fail
        refine (Left_k _ _ _ r3).mono ?_
        rintro e w' ⟨rfl, rfl⟩
        simp only [Option.getD_some]
        go_wp2_with fail
        refine (Bad_k _ _ _ r3).mono ?_
        rintro e w' ⟨rfl, rfl⟩
        go_wp2_with fail
        exact ⟨⟨3, by omega, rfl, ((hg.trans g1).andThen g2 (fun j hj => .inl (by injection hj with hj; omega))).trans g3⟩, by simp [intOf]⟩
    | 3, _ =>
      go_wp2_with fail
      refine (new_k t wr).mono ?_
      rintro e w1 ⟨rfl, r1, g1, l1⟩
      have b1 := Lib.hid (bR.out.none_ g1)
      cases hu : restOf (listP textP) (some t) with
      | none =>
        go_wp2_with fail
        refine (texts_k _ b1.out _ hn6 _ r1 hl2.out).mono ?_
        rintro e w2 ⟨v, rfl, o2, r2, g2⟩
        obtain ⟨A, c, rfl, hc1, hc2⟩ := own_slice o2
        rw [hu] at r2
        have b2 := Lib.hid (b1.out.grown g2 (fun k hk => by injection hk with hk; omega))
        go_wp2_with fail
        refine (wTexts A c _ _ _ b2.out rfl (texts_good t (by omega)).1 (texts_good t (by omega)).2 hc1 hc2 (fun h => own_read o2 h)).mono ?_
        rintro e w3 ⟨rfl, g3⟩
        have r3 := r2.grown g3 (by simp)
        generalize (serL serT) (valOf (listP textP) (some t)) = a
        go_wp2_with fail
        refine (Bad_k _ _ _ r3).mono ?_
        rintro e w' ⟨rfl, rfl⟩
        go_wp2_with fail
        refine (Bad_k _ _ _ r3).mono ?_
        rintro e w' ⟨rfl, rfl⟩
        go_wp2_with fail
        refine (Left_k _ _ _ r3).mono ?_
        rintro e w' ⟨rfl, rfl⟩
        go_wp2_with fail
        exact ⟨⟨4, by omega, rfl, ((hg.trans g1).andThen g2 (fun j hj => .inl (by injection hj with hj; omega))).trans g3⟩, by simp [intOf]⟩
      | some u =>
        go_wp2_with fail
        refine (texts_k _ b1.out _ hn6 _ r1 hl2.out).mono ?_
        rintro e w2 ⟨v, rfl, o2, r2, g2⟩
        obtain ⟨A, c, rfl, hc1, hc2⟩ := own_slice o2
        rw [hu] at r2
        have b2 := Lib.hid (b1.out.grown g2 (fun k hk => by injection hk with hk; omega))
        go_wp2_with fail
        refine (wTexts A c _ _ _ b2.out rfl (texts_good t (by omega)).1 (texts_good t (by omega)).2 hc1 hc2 (fun h => own_read o2 h)).mono ?_
        rintro e w3 ⟨rfl, g3⟩
        have r3 := r2.grown g3 (by simp)
        have hd := (dec_some (list_iff textD) hu).2
        generalize (serL serT) (valOf (listP textP) (some t)) = a at hd ⊢
        have ha : ((a.length : Int) != (t.length : Int) - (u.length : Int)) = false := by rw [hd]; simp
        have hta : t.take a.length = a := by rw [hd]; simp
        have hul : u.length ≤ t.length := by rw [hd]; simp
        have hal : a.length ≤ t.length := by rw [hd]; simp
        have Hd := Lib.hid hd
        clear hd
        go_wp2_with fail
        refine (Bad_k _ _ _ r3).mono ?_
        rintro e w' ⟨rfl, rfl⟩
        go_wp2_with fail
        refine (Left_k _ _ _ r3).mono ?_
        rintro e w' ⟨rfl, rfl⟩
        simp only [Option.getD_some]
        go_wp2_with fail
        refine (Bad_k _ _ _ r3).mono ?_
        rintro e w' ⟨rfl, rfl⟩
        go_wp2_with fail
        exact ⟨⟨4, by omega, rfl, ((hg.trans g1).andThen g2 (fun j hj => .inl (by injection hj with hj; omega))).trans g3⟩, by simp [intOf]⟩
    | 4, _ =>
      go_wp2_with fail
      go_ret
      exact ⟨rfl, g0.trans hg⟩
    | n + 5, hk => omega
end Go.Proofs.YtmohcanfkcopiaaDoor
