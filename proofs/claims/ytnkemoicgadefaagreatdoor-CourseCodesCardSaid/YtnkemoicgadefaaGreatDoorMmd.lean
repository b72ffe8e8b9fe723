/-
  Made catalogs are right.
-/
import Derived.Test.YtnkemoicgadefaaGreatDoorRcd
namespace Go.Proofs.YtnkemoicgadefaaGreatDoor
open Go.RowKit
/-- a made offer, behind offers with these codes -/
structure MadeO (before : List Str) (o : O) : Prop where
  cr : 1 ≤ o.cr ∧ o.cr ≤ 60
  pl : 0 ≤ o.pl ∧ o.pl ≤ 200
  slots : o.slots.Pairwise (· < ·) ∧ ∀ x ∈ o.slots, 1 ≤ x ∧ x ≤ 4
  needs : o.needs.Sublist before ∧ o.needs.length ≤ 2
structure MadeL (m : Nat) (l : List O) : Prop where
  codes : (l.map (·.code)).Sublist (codesL.take m)
  each : ∀ j o, l[j]? = some o → MadeO ((l.take j).map (·.code)) o
theorem made_nil : MadeL 0 [] := ⟨List.Sublist.refl _, (fun _ _ h => by simp at h)⟩
theorem made_skip {m : Nat} {l : List O} (h : MadeL m l) : MadeL (m + 1) l :=
  ⟨h.codes.trans (by
    rw [show codesL.take m = (codesL.take (m + 1)).take m by rw [List.take_take, Nat.min_eq_left (by omega)]]
    exact List.take_sublist _ _), h.each⟩
theorem made_snoc {m : Nat} {l : List O} {o : O} (h : MadeL m l) (hc : codesL[m]? = some o.code) (ho : MadeO (l.map (·.code)) o) : MadeL (m + 1) (l ++ [o]) := by
  refine ⟨?_, fun j x hx => ?_⟩
  · rw [List.map_append, take_snoc hc]
    exact h.codes.append (List.Sublist.refl _)
  · by_cases hj : j < l.length
    · rw [List.getElem?_append_left hj] at hx
      rw [List.take_append_of_le_length (by omega)]
      exact h.each j x hx
    · have hj2 : j = l.length := by
        have := (List.getElem?_eq_some_iff.1 hx).1
        simp at this
        omega
      subst hj2
      rw [List.getElem?_append_right (by omega)] at hx
      simp at hx
      subst hx
      simpa using ho
theorem codesL_inc : Inc codesL := by unfold Inc; decide
theorem codesL_code : ∀ c ∈ codesL, codeB c = true := by decide
theorem made_inc {m : Nat} {l : List O} (h : MadeL m l) : Inc (l.map (·.code)) := (codesL_inc.sublist (List.take_sublist _ _)).sublist h.codes
theorem made_code {m : Nat} {l : List O} (h : MadeL m l) : ∀ o ∈ l, codeB o.code = true := fun o ho =>
  codesL_code _ (List.mem_of_mem_take (h.codes.subset (List.mem_map.2 ⟨o, ho, rfl⟩)))
theorem made_len {m : Nat} {l : List O} (h : MadeL m l) : l.length ≤ 6 := by
  have h1 := h.codes.length_le
  have h2 : codesL.length = 6 := rfl
  rw [List.length_map, List.length_take, h2] at h1
  omega
theorem incI_of {l : List Int} (h : l.Pairwise (· < ·)) : incI l = true := by
  rw [incI_iff]
  intro j x y hx hy
  obtain ⟨h1, h2⟩ := List.getElem?_eq_some_iff.1 hx
  obtain ⟨h3, h4⟩ := List.getElem?_eq_some_iff.1 hy
  have := List.pairwise_iff_getElem.1 h j (j + 1) h1 h3 (by omega)
  rw [h2, h4] at this
  exact this
theorem made_one {b : List Str} {o : O} (hb : Inc b) (h : MadeO b o) : oneV o = 0 := by
  unfold oneV
  have h1 : o.slots.all slotB = true := List.all_eq_true.2 (fun x hx => by
    have := h.slots.2 x hx
    unfold slotB
    simp
    omega)
  have h2 : (decide (1 ≤ o.cr) && decide (o.cr ≤ 60) && decide (0 ≤ o.pl) && decide (o.pl ≤ 200) && o.slots.all slotB) = true := by
    rw [h1]
    have := h.cr
    have := h.pl
    simp
    omega
  have h3 := incI_of h.slots.1
  have h4 := incS_inc (List.Pairwise.sublist h.needs.1 hb)
  have h5 := h.needs.2
  rw [h2, h3, h4, if_neg (by simp), if_neg (by simp), if_neg (by omega), if_neg (by simp)]
theorem first_ok : ∀ (l : List O) (p : Str), (∀ o ∈ l, codeB o.code = true ∧ oneV o = 0) → (p :: l.map (·.code)).Pairwise (· < ·) → firstV p l = 0
  | [], _, _, _ => rfl
  | o :: l, p, h, hp => by
    obtain ⟨h1, h2⟩ := h o (by simp)
    rw [List.map_cons] at hp
    obtain ⟨h3, h4⟩ := List.pairwise_cons.1 hp
    have h5 := h3 o.code (by simp)
    have h6 : nextV p o = 0 := by
      unfold nextV
      rw [if_neg (by simp [h1]), if_neg (fun e => by rw [e] at h5; exact lt_irr _ h5), if_neg (lt_asy h5)]
      exact h2
    unfold firstV
    rw [if_pos h6]
    exact first_ok l o.code (fun x hx => h x (by simp [hx])) h4
theorem made_take {m : Nat} {l : List O} (h : MadeL m l) (j : Nat) : Inc ((l.take j).map (·.code)) := by
  rw [List.map_take]
  exact List.Pairwise.sublist (List.take_sublist _ _) (made_inc h)
theorem made_before {m : Nat} {l : List O} (h : MadeL m l) {a b : Str} (hl : Leads (nx l) a b) : b < a := by
  have key : ∀ a, ∀ x ∈ nx l a, x < a := by
    intro a x hx
    unfold nx at hx
    cases hf : fnd l a with
    | none => rw [hf] at hx; cases hx
    | some o =>
      rw [hf] at hx
      obtain ⟨ho, rfl⟩ := fnd_mem hf
      obtain ⟨j, hj⟩ := List.getElem?_of_mem ho
      obtain ⟨p, hp, rfl⟩ := List.mem_map.1 ((h.each j o hj).needs.1.subset hx)
      obtain ⟨i, hi⟩ := List.getElem?_of_mem hp
      rw [List.getElem?_take] at hi
      split at hi
      · rename_i hij
        obtain ⟨q1, q2⟩ := List.getElem?_eq_some_iff.1 hi
        obtain ⟨q3, q4⟩ := List.getElem?_eq_some_iff.1 hj
        have := List.pairwise_iff_getElem.1 (made_inc h) i j (by simpa using q1) (by simpa using q3) hij
        rw [List.getElem_map, List.getElem_map, q2, q4] at this
        exact this
      · cases hi
  induction hl with
  | one hb => exact key _ _ hb
  | tail _ hc ih => exact lt_tr (key _ _ hc) ih
theorem made_check {m : Nat} {l : List O} (h : MadeL m l) : checkV l = 0 := by
  have h6 := made_len h
  have hf : firstV [] l = 0 := first_ok l [] (fun o ho => ⟨made_code h o ho, by
    obtain ⟨j, hj⟩ := List.getElem?_of_mem ho
    exact made_one (made_take h j) (h.each j o hj)⟩) (List.pairwise_cons.2 ⟨fun c hc => by
      obtain ⟨o, ho, rfl⟩ := List.mem_map.1 hc
      have := made_code h o ho
      cases hx : o.code with
      | nil => rw [hx] at this; revert this; decide
      | cons a t => simp, made_inc h⟩)
  have hc : closedB l = true := List.all_eq_true.2 (fun o ho => List.all_eq_true.2 (fun s hs => by
    rw [fnd_isSome]
    obtain ⟨j, hj⟩ := List.getElem?_of_mem ho
    obtain ⟨p, hp, e⟩ := List.mem_map.1 ((h.each j o hj).needs.1.subset hs)
    exact ⟨p, List.mem_of_mem_take hp, e⟩))
  have hb : circB l = false := by
    rw [Bool.eq_false_iff]
    intro hx
    obtain ⟨o, _, h1⟩ := List.any_eq_true.1 hx
    exact lt_irr _ (made_before h ((needs_mem l _ _).1 (of_decide_eq_true h1)))
  unfold checkV
  rw [hf, hc, hb, if_neg (by omega)]
  simp
theorem few4 {s : List Int} (hp : s.Pairwise (· < ·)) (hx : ∀ x ∈ s, 1 ≤ x ∧ x ≤ 4) : s.length ≤ 4 := by
  have key : ∀ (s : List Int) (a : Int), s.Pairwise (· < ·) → (∀ x ∈ s, a ≤ x ∧ x ≤ 4) → (s.length : Int) ≤ max 0 (5 - a) := by
    intro s
    induction s with
    | nil => intro a _ _; simp; omega
    | cons x t ih =>
      intro a hp hx
      obtain ⟨p1, p2⟩ := List.pairwise_cons.1 hp
      have := ih (x + 1) p2 (fun y hy => ⟨by have := p1 y hy; omega, (hx y (by simp [hy])).2⟩)
      have := hx x (by simp)
      simp only [List.length_cons]
      omega
  have := key s 1 hp hx
  omega
structure SlotOk (x : Nat) (S : List Int) : Prop where
  inc : S.Pairwise (· < ·)
  rng : ∀ y ∈ S, 1 ≤ y ∧ y ≤ 4
  lt : x = 0 ∨ ∀ y ∈ S, y < (x : Int)
  few : S.length ≤ 4
theorem slots_more {S : List Int} {x : Nat} (h : SlotOk x S) (hx : 0 < x) (h4 : x ≤ 4) (z : Nat) (hz : z = 0 ∨ z = x + 1) :
    SlotOk z (S ++ [(x : Int)]) := by
  obtain ⟨h1, h2, h3, _⟩ := h
  have h3 : ∀ y ∈ S, y < (x : Int) := by
    rcases h3 with h3 | h3
    · omega
    · exact h3
  have a1 : (S ++ [(x : Int)]).Pairwise (· < ·) := List.pairwise_append.2 ⟨h1, List.pairwise_singleton _ _, fun a ha b hb => by rw [List.mem_singleton.1 hb]; exact h3 a ha⟩
  have a2 : ∀ y ∈ S ++ [(x : Int)], 1 ≤ y ∧ y ≤ 4 := fun y hy => by
    rcases List.mem_append.1 hy with hy | hy
    · exact h2 y hy
    · rw [List.mem_singleton.1 hy]; omega
  refine ⟨a1, a2, ?_, few4 a1 a2⟩
  rcases hz with hz | hz
  · exact .inl hz
  · refine .inr (fun y hy => ?_)
    rcases List.mem_append.1 hy with hy | hy
    · have := h3 y hy; omega
    · rw [List.mem_singleton.1 hy]; omega
theorem needs_more {N C : List Str} {c : Str} {i : Nat} (hc : C[i]? = some c) (h : N.Sublist (C.take i)) : (N ++ [c]).Sublist (C.take (i + 1)) := by
  rw [take_snoc hc]
  exact h.append (List.Sublist.refl _)
theorem needs_same {N C : List Str} {i : Nat} (h : N.Sublist (C.take i)) : N.Sublist (C.take (i + 1)) := h.trans (by
  rw [show C.take i = (C.take (i + 1)).take i by rw [List.take_take, Nat.min_eq_left (by omega)]]
  exact List.take_sublist _ _)
theorem made_few {m : Nat} {l : List O} (h : MadeL m l) : ∀ o ∈ l, o.slots.length ≤ 4 ∧ o.needs.length ≤ 2 := fun o ho => by
  obtain ⟨j, hj⟩ := List.getElem?_of_mem ho
  have h1 := h.each j o hj
  refine ⟨?_, h1.needs.2⟩
  have key : ∀ (s : List Int) (a : Int), s.Pairwise (· < ·) → (∀ x ∈ s, a ≤ x ∧ x ≤ 4) → (s.length : Int) ≤ max 0 (5 - a) := by
    intro s
    induction s with
    | nil => intro a _ _; simp; omega
    | cons x t ih =>
      intro a hp hx
      obtain ⟨p1, p2⟩ := List.pairwise_cons.1 hp
      have := ih (x + 1) p2 (fun y hy => ⟨by have := p1 y hy; omega, (hx y (by simp [hy])).2⟩)
      have := hx x (by simp)
      simp only [List.length_cons]
      omega
  have := key o.slots 1 h1.slots.1 h1.slots.2
  omega
end Go.Proofs.YtnkemoicgadefaaGreatDoor
