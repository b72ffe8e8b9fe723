/-
  Catalogs, as plain functions of lists.
-/
namespace Go.Proofs.YtnkemoicgadefaaGreatDoor
abbrev Str := List UInt8
/-- an offer -/
structure O where
  code : Str
  cr : Int
  pl : Int
  slots : List Int
  needs : List Str
deriving DecidableEq
/-- the first offer with a code -/
def fnd (l : List O) (c : Str) : Option O := l.find? (fun o => o.code == c)
/-- what a code requires directly -/
def nx (l : List O) (c : Str) : List Str := match fnd l c with | some o => o.needs | none => []
/-- a string leads to another one -/
inductive Leads (f : Str → List Str) : Str → Str → Prop
  | one {a b : Str} : b ∈ f a → Leads f a b
  | tail {a b c : Str} : Leads f a b → c ∈ f b → Leads f a c
variable {f : Str → List Str}
theorem Leads.head {a b c : Str} (h : b ∈ f a) (k : Leads f b c) : Leads f a c := by
  induction k with
  | one hc => exact .tail (.one h) hc
  | tail _ hc ih => exact .tail ih hc
theorem Leads.trans {a b c : Str} (h : Leads f a b) (k : Leads f b c) : Leads f a c := by
  induction k with
  | one hc => exact .tail h hc
  | tail _ hc ih => exact .tail ih hc
theorem Leads.inv {P : Str → Prop} {a b : Str} (h1 : ∀ x ∈ f a, P x) (h2 : ∀ x, P x → ∀ y ∈ f x, P y) (h : Leads f a b) : P b := by
  induction h with
  | one hb => exact h1 _ hb
  | tail _ hc ih => exact h2 _ ih _ hc
theorem Leads.start {a b : Str} (h : Leads f a b) : ∃ c ∈ f a, c = b ∨ Leads f c b := by
  induction h with
  | one hb => exact ⟨_, hb, .inl rfl⟩
  | tail _ hc ih =>
    obtain ⟨x, hx, e⟩ := ih
    rcases e with rfl | e
    · exact ⟨x, hx, .inr (.one hc)⟩
    · exact ⟨x, hx, .inr (.tail e hc)⟩
/-! ### strictly increasing lists of strings -/
def Inc (r : List Str) : Prop := r.Pairwise (· < ·)
theorem lt_irr (a : Str) : ¬ a < a := List.lt_irrefl a
theorem lt_tr {a b c : Str} (h : a < b) (k : b < c) : a < c := List.lt_trans h k
theorem lt_asy {a b : Str} (h : a < b) : ¬ b < a := fun k => lt_irr a (lt_tr h k)
theorem lt_tri (a b : Str) (h : ¬ a < b) (k : ¬ b < a) : a = b := List.le_antisymm k h
theorem Inc.ext : ∀ {a b : List Str}, Inc a → Inc b → (∀ x, x ∈ a ↔ x ∈ b) → a = b
  | [], [], _, _, _ => rfl
  | [], y :: b, _, _, h => by have := (h y).2 (by simp); simp at this
  | x :: a, [], _, _, h => by have := (h x).1 (by simp); simp at this
  | x :: a, y :: b, ha, hb, h => by
    obtain ⟨ha1, ha2⟩ := List.pairwise_cons.1 ha
    obtain ⟨hb1, hb2⟩ := List.pairwise_cons.1 hb
    have hxy : x = y := by
      have h1 := (h x).1 (by simp)
      have h2 := (h y).2 (by simp)
      rcases List.mem_cons.1 h1 with e | h1
      · exact e
      rcases List.mem_cons.1 h2 with e | h2
      · exact e.symm
      exact absurd (ha1 y h2) (lt_asy (hb1 x h1))
    subst hxy
    rw [Inc.ext ha2 hb2 (fun z => ?_)]
    have hz := h z
    constructor
    · intro hm
      rcases List.mem_cons.1 (hz.1 (List.mem_cons_of_mem _ hm)) with e | e
      · exact absurd (ha1 z hm) (by rw [e]; exact lt_irr x)
      · exact e
    · intro hm
      rcases List.mem_cons.1 (hz.2 (List.mem_cons_of_mem _ hm)) with e | e
      · exact absurd (hb1 z hm) (by rw [e]; exact lt_irr x)
      · exact e
/-- exactly what a string leads to, increasing -/
def IsNeeds (f : Str → List Str) (a : Str) (r : List Str) : Prop := Inc r ∧ ∀ s, s ∈ r ↔ Leads f a s
theorem IsNeeds.eq {a : Str} {r q : List Str} (h : IsNeeds f a r) (k : IsNeeds f a q) : r = q := h.1.ext k.1 (fun x => by rw [h.2, k.2])
/-- a list of different strings, sorted -/
theorem inc_sort {F : List Str} (h : F.Nodup) : Inc (F.mergeSort (fun x y => decide (x ≤ y))) ∧ ∀ s, s ∈ F.mergeSort (fun x y => decide (x ≤ y)) ↔ s ∈ F := by
  have hp := List.mergeSort_perm F (fun x y => decide (x ≤ y))
  refine ⟨?_, fun s => hp.mem_iff⟩
  have hn : (F.mergeSort (fun x y => decide (x ≤ y))).Nodup := hp.nodup_iff.2 h
  have hs := List.pairwise_mergeSort (le := fun x y : Str => decide (x ≤ y)) (fun a b c h1 h2 => by
    simp only [decide_eq_true_eq] at *
    exact List.le_trans h1 h2) (fun a b => by
    simp only [Bool.or_eq_true, decide_eq_true_eq]
    exact List.le_total a b) F
  have := List.Pairwise.and hs hn
  refine this.imp ?_
  intro a b ⟨h1, h2⟩
  rw [decide_eq_true_eq] at h1
  exact Classical.byContradiction fun h3 => h2 (lt_tri a b h3 h1)
/-! ### the reference's search -/
/-- where a string goes in an increasing list -/
def atV (r : List Str) (s : Str) : Nat → Nat
  | 0 => 0
  | n + 1 => if s < (r[n]?).getD [] then atV r s n else n + 1
def putV (r : List Str) (s : Str) : List Str := if s ∈ r then r else r.take (atV r s r.length) ++ s :: r.drop (atV r s r.length)
theorem atV_le (r : List Str) (s : Str) : ∀ n, atV r s n ≤ n
  | 0 => Nat.le_refl _
  | n + 1 => by unfold atV; split; have := atV_le r s n; omega; omega
theorem atV_hi (r : List Str) (s : Str) : ∀ n, n ≤ r.length → ∀ j x, atV r s n ≤ j → j < n → r[j]? = some x → s < x
  | 0, _, j, x, _, h, _ => by omega
  | n + 1, hn, j, x, h1, h2, hx => by
    unfold atV at h1
    by_cases c : s < (r[n]?).getD []
    · rw [if_pos c] at h1
      by_cases e : j = n
      · subst e; rw [hx] at c; exact c
      · exact atV_hi r s n (by omega) j x h1 (by omega) hx
    · rw [if_neg c] at h1; omega
theorem atV_lo (r : List Str) (s : Str) (hi : Inc r) : ∀ n, n ≤ r.length → ∀ j x, j < atV r s n → r[j]? = some x → ¬ s < x
  | 0, _, j, x, h, _ => by unfold atV at h; omega
  | n + 1, hn, j, x, h1, hx => by
    unfold atV at h1
    by_cases c : s < (r[n]?).getD []
    · rw [if_pos c] at h1
      exact atV_lo r s hi n (by omega) j x h1 hx
    · rw [if_neg c] at h1
      obtain ⟨y, hy⟩ : ∃ y, r[n]? = some y := ⟨_, List.getElem?_eq_getElem (by omega)⟩
      rw [hy] at c
      by_cases e : j = n
      · subst e; rw [hx] at hy; injection hy with hy; rw [hy]; exact c
      · obtain ⟨h3, h4⟩ := List.getElem?_eq_some_iff.1 hx
        obtain ⟨h5, h6⟩ := List.getElem?_eq_some_iff.1 hy
        have := List.pairwise_iff_getElem.1 hi j n h3 h5 (by omega)
        rw [h4, h6] at this
        exact fun h => c (lt_tr h this)
theorem putV_mem (r : List Str) (s x : Str) : x ∈ putV r s ↔ x = s ∨ x ∈ r := by
  unfold putV
  by_cases h : s ∈ r
  · rw [if_pos h]
    exact ⟨.inr, fun e => by rcases e with rfl | e; exact h; exact e⟩
  · rw [if_neg h]
    have : x ∈ r ↔ x ∈ r.take (atV r s r.length) ∨ x ∈ r.drop (atV r s r.length) := by
      rw [← List.mem_append, List.take_append_drop]
    rw [this]
    simp only [List.mem_append, List.mem_cons]
    constructor
    · rintro (h | h | h)
      · exact .inr (.inl h)
      · exact .inl h
      · exact .inr (.inr h)
    · rintro (h | h | h)
      · exact .inr (.inl h)
      · exact .inl h
      · exact .inr (.inr h)
theorem putV_inc {r : List Str} (hr : Inc r) (s : Str) : Inc (putV r s) := by
  unfold putV
  by_cases h : s ∈ r
  · rw [if_pos h]; exact hr
  · rw [if_neg h]
    have hlo : ∀ x ∈ r.take (atV r s r.length), x < s := fun x hx => by
      obtain ⟨j, hj⟩ := List.getElem?_of_mem hx
      rw [List.getElem?_take] at hj
      split at hj
      · rename_i hlt
        have h1 := atV_lo r s hr _ (Nat.le_refl _) j x hlt hj
        exact Classical.byContradiction fun h2 => h (by rw [lt_tri s x h1 h2]; exact List.mem_of_getElem? hj)
      · cases hj
    have hhi : ∀ x ∈ r.drop (atV r s r.length), s < x := fun x hx => by
      obtain ⟨j, hj⟩ := List.getElem?_of_mem hx
      rw [List.getElem?_drop] at hj
      have h3 := (List.getElem?_eq_some_iff.1 hj).1
      exact atV_hi r s _ (Nat.le_refl _) _ x (by omega) h3 hj
    refine List.pairwise_append.2 ⟨hr.sublist (List.take_sublist _ _), List.pairwise_cons.2 ⟨hhi, hr.sublist (List.drop_sublist _ _)⟩, fun a ha b hb => ?_⟩
    rcases List.mem_cons.1 hb with rfl | hb
    · exact hlo a ha
    · exact lt_tr (hlo a ha) (hhi b hb)
/-- one round of the reference's search: what is found, and what comes next -/
def rndV (f : Str → List Str) : List Str → List Str → List Str → List Str × List Str
  | [], out, more => (out, more)
  | s :: next, out, more => if s ∈ out then rndV f next out more else rndV f next (putV out s) (more ++ f s)
def bfsV (f : Str → List Str) : Nat → List Str → List Str → List Str
  | 0, out, _ => out
  | n + 1, out, next => if next = [] then out else bfsV f n (rndV f next out []).1 (rndV f next out []).2
/-- what holds between the rounds -/
structure Bfs (f : Str → List Str) (a : Str) (out next : List Str) : Prop where
  inc : Inc out
  hout : ∀ s ∈ out, Leads f a s
  hnext : ∀ s ∈ next, Leads f a s
  dir : ∀ s ∈ f a, s ∈ out ∨ s ∈ next
  cl : ∀ s ∈ out, ∀ x ∈ f s, x ∈ out ∨ x ∈ next
structure Rnd (f : Str → List Str) (a : Str) (next out more : List Str) : Prop where
  inc : Inc out
  hout : ∀ s ∈ out, Leads f a s
  hnext : ∀ s ∈ next, Leads f a s
  hmore : ∀ s ∈ more, Leads f a s
  dir : ∀ s ∈ f a, s ∈ out ∨ s ∈ next ∨ s ∈ more
  cl : ∀ s ∈ out, ∀ x ∈ f s, x ∈ out ∨ x ∈ next ∨ x ∈ more
theorem Rnd.step {a s : Str} {next out more : List Str} (h : Rnd f a (s :: next) out more) : (s ∈ out → Rnd f a next out more) ∧ (s ∉ out → Rnd f a next (putV out s) (more ++ f s)) := by
  have hs := h.hnext s (by simp)
  constructor
  · intro hm
    refine ⟨h.inc, h.hout, fun x hx => h.hnext x (by simp [hx]), h.hmore, fun x hx => ?_, fun y hy x hx => ?_⟩
    · rcases h.dir x hx with e | e | e
      · exact .inl e
      · rcases List.mem_cons.1 e with rfl | e
        · exact .inl hm
        · exact .inr (.inl e)
      · exact .inr (.inr e)
    · rcases h.cl y hy x hx with e | e | e
      · exact .inl e
      · rcases List.mem_cons.1 e with rfl | e
        · exact .inl hm
        · exact .inr (.inl e)
      · exact .inr (.inr e)
  · intro _
    refine ⟨putV_inc h.inc s, fun x hx => ?_, fun x hx => h.hnext x (by simp [hx]), fun x hx => ?_, fun x hx => ?_, fun y hy x hx => ?_⟩
    · rcases (putV_mem _ _ _).1 hx with rfl | hx
      · exact hs
      · exact h.hout x hx
    · rcases List.mem_append.1 hx with hx | hx
      · exact h.hmore x hx
      · exact hs.tail hx
    · rcases h.dir x hx with e | e | e
      · exact .inl ((putV_mem _ _ _).2 (.inr e))
      · rcases List.mem_cons.1 e with rfl | e
        · exact .inl ((putV_mem _ _ _).2 (.inl rfl))
        · exact .inr (.inl e)
      · exact .inr (.inr (by simp [e]))
    · rcases (putV_mem _ _ _).1 hy with rfl | hy
      · exact .inr (.inr (by simp [hx]))
      · rcases h.cl y hy x hx with e | e | e
        · exact .inl ((putV_mem _ _ _).2 (.inr e))
        · rcases List.mem_cons.1 e with rfl | e
          · exact .inl ((putV_mem _ _ _).2 (.inl rfl))
          · exact .inr (.inl e)
        · exact .inr (.inr (by simp [e]))
theorem rnd_ok {a : Str} : ∀ {next out more : List Str}, Rnd f a next out more → Bfs f a (rndV f next out more).1 (rndV f next out more).2
  | [], out, more, h => ⟨h.inc, h.hout, h.hmore, fun s hs => by simpa [rndV] using h.dir s hs, fun s hs x hx => by simpa [rndV] using h.cl s hs x hx⟩
  | s :: next, out, more, h => by
    unfold rndV
    split
    · rename_i hm; exact rnd_ok (h.step.1 hm)
    · rename_i hm; exact rnd_ok (h.step.2 hm)
theorem rnd_size : ∀ (next out more : List Str), (rndV f next out more = (out, more) ∧ ∀ s ∈ next, s ∈ out) ∨ out.length < (rndV f next out more).1.length
  | [], out, more => .inl ⟨rfl, fun _ h => by cases h⟩
  | s :: next, out, more => by
    unfold rndV
    split
    · rename_i hm
      rcases rnd_size next out more with ⟨h, k⟩ | h
      · exact .inl ⟨h, fun x hx => by rcases List.mem_cons.1 hx with rfl | hx; exact hm; exact k x hx⟩
      · exact .inr h
    · rename_i hm
      have hl : (putV out s).length = out.length + 1 := by
        unfold putV
        rw [if_neg hm]
        have := atV_le out s out.length
        simp only [List.length_append, List.length_cons, List.length_take, List.length_drop]
        omega
      rcases rnd_size next (putV out s) (more ++ f s) with ⟨h, _⟩ | h
      · right; rw [h]; show out.length < (putV out s).length; omega
      · right; omega
theorem Bfs.rnd {a : Str} {out next : List Str} (h : Bfs f a out next) : Rnd f a next out [] :=
  ⟨h.inc, h.hout, h.hnext, (fun _ hx => by cases hx), fun s hs => (h.dir s hs).imp id .inl, fun s hs x hx => (h.cl s hs x hx).imp id .inl⟩
theorem Bfs.step {a : Str} {out next : List Str} (h : Bfs f a out next) : Bfs f a (rndV f next out []).1 (rndV f next out []).2 := rnd_ok h.rnd
theorem Bfs.done {a : Str} {out : List Str} (h : Bfs f a out []) : IsNeeds f a out :=
  ⟨h.inc, fun s => ⟨h.hout s, fun hl => hl.inv (P := fun x => x ∈ out) (fun x hx => by simpa using h.dir x hx) (fun x hx y hy => by simpa using h.cl x hx y hy)⟩⟩
/-- all that is required anywhere -/
theorem inc_nodup {r : List Str} (h : Inc r) : r.Nodup := List.Pairwise.imp (fun {a b} (hab : a < b) (e : a = b) => lt_irr b (e ▸ hab)) h
theorem nodup_le : ∀ {r U : List Str}, r.Nodup → (∀ x ∈ r, x ∈ U) → r.length ≤ U.length
  | [], _, _, _ => Nat.zero_le _
  | x :: r, U, hn, hs => by
    obtain ⟨h1, h2⟩ := List.nodup_cons.1 hn
    have hx := hs x (by simp)
    have := nodup_le (U := U.erase x) h2 (fun y hy => (List.mem_erase_of_ne (fun (e : y = x) => h1 (e ▸ hy))).2 (hs y (by simp [hy])))
    rw [List.length_erase_of_mem hx] at this
    have hp := List.length_pos_of_mem hx
    simp only [List.length_cons]
    omega
theorem bfs_ok {a : Str} {U : List Str} (hU : ∀ s, Leads f a s → s ∈ U) : ∀ (n : Nat) (out next : List Str), Bfs f a out next → U.length + 2 ≤ n + out.length → IsNeeds f a (bfsV f n out next)
  | 0, out, next, h, hn => by
    have := nodup_le (inc_nodup h.inc) (fun x hx => hU x (h.hout x hx))
    omega
  | n + 1, out, next, h, hn => by
    unfold bfsV
    split
    · rename_i e; subst e; exact h.done
    · rename_i e
      rcases rnd_size (f := f) next out [] with ⟨hr, hk⟩ | hr
      · rw [hr]
        have hb : Bfs f a out [] := by have := h.step; rw [hr] at this; exact this
        have e2 : ∀ m, bfsV f m out [] = out := fun m => by cases m <;> simp [bfsV]
        rw [e2]
        exact hb.done
      · exact bfs_ok hU n _ _ h.step (by omega)
/-- all strings that are required -/
def allN (l : List O) : List Str := l.flatMap (·.needs)
def needsV (l : List O) (a : Str) : List Str := bfsV (nx l) ((allN l).length + 2) [] (nx l a)
theorem fnd_mem {l : List O} {c : Str} {o : O} (h : fnd l c = some o) : o ∈ l ∧ o.code = c := ⟨List.mem_of_find?_eq_some h, by have := List.find?_some h; simpa using this⟩
theorem nx_all {l : List O} {a s : Str} (h : s ∈ nx l a) : s ∈ allN l := by
  unfold nx at h
  split at h
  · rename_i o ho
    exact List.mem_flatMap.2 ⟨o, (fnd_mem ho).1, h⟩
  · cases h
theorem leads_all {l : List O} {a s : Str} (h : Leads (nx l) a s) : s ∈ allN l := by
  cases h with
  | one h => exact nx_all h
  | tail _ h => exact nx_all h
theorem bfs_start (f : Str → List Str) (a : Str) : Bfs f a [] (f a) := ⟨List.Pairwise.nil, (fun _ h => by cases h), fun s hs => .one hs, fun s hs => .inr hs, (fun _ h => by cases h)⟩
theorem needs_is (l : List O) (a : Str) : IsNeeds (nx l) a (needsV l a) := bfs_ok (fun _ h => leads_all h) _ _ _ (bfs_start _ a) (by simp)
theorem needs_mem (l : List O) (a s : Str) : s ∈ needsV l a ↔ Leads (nx l) a s := (needs_is l a).2 s
/-! ### checks -/
def codeC (c : UInt8) : Bool := (65 ≤ c.toNat && c.toNat ≤ 90) || (48 ≤ c.toNat && c.toNat ≤ 57)
def codeB (s : Str) : Bool := decide (1 ≤ s.length) && decide (s.length ≤ 8) && s.all codeC
def incI : List Int → Bool
  | [] => true
  | [_] => true
  | x :: y :: l => decide (x < y) && incI (y :: l)
def incS : List Str → Bool
  | [] => true
  | [_] => true
  | x :: y :: l => decide (x < y) && incS (y :: l)
def slotB (n : Int) : Bool := decide (1 ≤ n) && decide (n ≤ 40)
/-- the error of an offer alone -/
def oneV (o : O) : Int :=
  if (decide (1 ≤ o.cr) && decide (o.cr ≤ 60) && decide (0 ≤ o.pl) && decide (o.pl ≤ 200) && o.slots.all slotB) = false then 3
  else if incI o.slots = false then 7 else if 5 < o.needs.length then 2 else if incS o.needs = false then 7 else 0
def nextV (p : Str) (o : O) : Int := if codeB o.code = false then 12 else if o.code = p then 6 else if o.code < p then 7 else oneV o
def firstV : Str → List O → Int
  | _, [] => 0
  | p, o :: l => if nextV p o = 0 then firstV o.code l else nextV p o
def closedB (l : List O) : Bool := l.all fun o => o.needs.all fun n => (fnd l n).isSome
def circB (l : List O) : Bool := l.any fun o => decide (o.code ∈ needsV l o.code)
def checkV (l : List O) : Int := if 60 < l.length then 2 else if firstV [] l ≠ 0 then firstV [] l else if closedB l = false then 5 else if circB l = true then 14 else 0
theorem nextV_zero {p : Str} {o : O} (h : nextV p o = 0) : codeB o.code = true ∧ p < o.code ∧ oneV o = 0 := by
  unfold nextV at h
  by_cases c1 : codeB o.code = false
  · rw [if_pos c1] at h; cases h
  rw [if_neg c1] at h
  by_cases c2 : o.code = p
  · rw [if_pos c2] at h; cases h
  rw [if_neg c2] at h
  by_cases c3 : o.code < p
  · rw [if_pos c3] at h; cases h
  rw [if_neg c3] at h
  exact ⟨by simpa using c1, Classical.byContradiction fun c4 => c2 (lt_tri _ _ c3 c4), h⟩
theorem first_inc : ∀ (l : List O) (p : Str), firstV p l = 0 → (∀ o ∈ l, p < o.code) ∧ Inc (l.map (·.code))
  | [], _, _ => ⟨(fun _ h => by cases h), List.Pairwise.nil⟩
  | o :: l, p, h => by
    unfold firstV at h
    by_cases c : nextV p o = 0
    · rw [if_pos c] at h
      obtain ⟨h1, h2⟩ := first_inc l o.code h
      have h3 := (nextV_zero c).2.1
      refine ⟨fun x hx => ?_, List.pairwise_cons.2 ⟨fun y hy => ?_, h2⟩⟩
      · rcases List.mem_cons.1 hx with rfl | hx
        · exact h3
        · exact lt_tr h3 (h1 x hx)
      · obtain ⟨x, hx, rfl⟩ := List.mem_map.1 hy
        exact h1 x hx
    · rw [if_neg c] at h; exact absurd h c
/-- in a list whose codes are different, each offer is found by its code -/
theorem fnd_self : ∀ {l : List O}, (l.map (·.code)).Nodup → ∀ o ∈ l, fnd l o.code = some o
  | x :: l, hn, o, ho => by
    obtain ⟨h1, h2⟩ := List.nodup_cons.1 hn
    unfold fnd
    rw [List.find?_cons]
    rcases List.mem_cons.1 ho with rfl | ho
    · simp
    · have : (x.code == o.code) = false := by
        rw [beq_eq_false_iff_ne]
        exact fun e => h1 (List.mem_map.2 ⟨o, ho, e.symm⟩)
      rw [this]
      exact fnd_self h2 o ho
theorem fnd_none {l : List O} {c : Str} (h : ∀ o ∈ l, o.code ≠ c) : fnd l c = none := List.find?_eq_none.2 (fun o ho => by simpa using h o ho)
theorem fnd_isSome (l : List O) (c : Str) : (fnd l c).isSome = true ↔ ∃ o ∈ l, o.code = c := by
  constructor
  · intro h
    obtain ⟨o, ho⟩ := Option.isSome_iff_exists.1 h
    exact ⟨o, (fnd_mem ho).1, (fnd_mem ho).2⟩
  · rintro ⟨o, ho, rfl⟩
    unfold fnd
    rw [List.find?_isSome]
    exact ⟨o, ho, by simp⟩
structure Right (l : List O) : Prop where
  few : l.length ≤ 60
  inc : Inc (l.map (·.code))
  code : ∀ o ∈ l, codeB o.code = true
  cl : ∀ o ∈ l, ∀ n ∈ o.needs, ∃ x ∈ l, x.code = n
  ac : ∀ o ∈ l, ¬ Leads (nx l) o.code o.code
theorem first_codes : ∀ (l : List O) (p : Str), firstV p l = 0 → ∀ o ∈ l, codeB o.code = true ∧ oneV o = 0
  | [], _, _, _, h => by cases h
  | x :: l, p, h, o, ho => by
    unfold firstV at h
    by_cases c : nextV p x = 0
    · rw [if_pos c] at h
      rcases List.mem_cons.1 ho with rfl | ho
      · exact ⟨(nextV_zero c).1, (nextV_zero c).2.2⟩
      · exact first_codes l _ h o ho
    · rw [if_neg c] at h; exact absurd h c
theorem right_of {l : List O} (h : checkV l = 0) : Right l := by
  unfold checkV at h
  by_cases c1 : 60 < l.length
  · rw [if_pos c1] at h; cases h
  rw [if_neg c1] at h
  by_cases c2 : firstV [] l ≠ 0
  · rw [if_pos c2] at h; exact absurd h c2
  rw [if_neg c2] at h
  by_cases c3 : closedB l = false
  · rw [if_pos c3] at h; cases h
  rw [if_neg c3] at h
  by_cases c4 : circB l = true
  · rw [if_pos c4] at h; cases h
  have h0 : firstV [] l = 0 := Classical.byContradiction c2
  refine ⟨by omega, (first_inc l [] h0).2, fun o ho => (first_codes l [] h0 o ho).1, fun o ho n hn => ?_, fun o ho hl => c4 ?_⟩
  · have : closedB l = true := by simpa using c3
    have := List.all_eq_true.1 (List.all_eq_true.1 this o ho) n hn
    exact (fnd_isSome l n).1 this
  · exact List.any_eq_true.2 ⟨o, ho, by rw [decide_eq_true_eq]; exact (needs_mem l _ _).2 hl⟩
/-! ### the order -/
def pickV (l : List O) (out : List Str) : Option O := l.find? fun o => !decide (o.code ∈ out) && o.needs.all fun n => decide (n ∈ out)
def ordN (l : List O) : Nat → List Str → List Str
  | 0, out => out
  | n + 1, out => match pickV l out with | some o => ordN l n (out ++ [o.code]) | none => out
def orderV (l : List O) : List Str := if checkV l = 0 then ordN l l.length [] else []
theorem pick_some {l : List O} (h : Right l) {out : List Str} (ho : ∃ o ∈ l, o.code ∉ out) : ∃ o, pickV l out = some o := by
  have key : ∀ (m : Nat) (o : O), o ∈ l → o.code ∉ out → (needsV l o.code).length ≤ m → ∃ o, pickV l out = some o := by
    intro m
    induction m with
    | zero =>
      intro o hol hoo hm
      have h0 : needsV l o.code = [] := List.eq_nil_of_length_eq_zero (by omega)
      have hnd : o.needs = [] := by
        rcases hN : o.needs with _ | ⟨x, t⟩
        · rfl
        · have hf := fnd_self (inc_nodup h.inc) o hol
          have : x ∈ needsV l o.code := (needs_mem l _ _).2 (.one (by unfold nx; rw [hf]; show x ∈ o.needs; rw [hN]; simp))
          rw [h0] at this
          cases this
      have : (pickV l out).isSome = true := by
        unfold pickV
        rw [List.find?_isSome]
        exact ⟨o, hol, by rw [hnd]; simp [hoo]⟩
      exact Option.isSome_iff_exists.1 this
    | succ m ih =>
      intro o hol hoo hm
      by_cases c : ∀ n ∈ o.needs, n ∈ out
      · have : (pickV l out).isSome = true := by
          unfold pickV
          rw [List.find?_isSome]
          refine ⟨o, hol, ?_⟩
          rw [Bool.and_eq_true]
          exact ⟨by simp [hoo], List.all_eq_true.2 (fun n hn => by simpa using c n hn)⟩
        exact Option.isSome_iff_exists.1 this
      · obtain ⟨n, hn, hno⟩ : ∃ n, n ∈ o.needs ∧ n ∉ out := by
          refine Classical.byContradiction fun k => c fun n hn => Classical.byContradiction fun k2 => k ⟨n, hn, k2⟩
        obtain ⟨x, hx, rfl⟩ := h.cl o hol n hn
        have hf := fnd_self (inc_nodup h.inc) o hol
        have hd : x.code ∈ nx l o.code := by unfold nx; rw [hf]; exact hn
        refine ih x hx hno ?_
        have hlt : (x.code :: needsV l x.code).length ≤ (needsV l o.code).length := by
          refine nodup_le (List.nodup_cons.2 ⟨fun e => h.ac x hx ((needs_mem l _ _).1 e), inc_nodup (needs_is l _).1⟩) (fun y hy => ?_)
          rcases List.mem_cons.1 hy with rfl | hy
          · exact (needs_mem l _ _).2 (.one hd)
          · exact (needs_mem l _ _).2 (((needs_mem l _ _).1 hy).head hd)
        simp only [List.length_cons] at hlt
        omega
  obtain ⟨o, h1, h2⟩ := ho
  exact key _ o h1 h2 (Nat.le_refl _)
theorem left_of {l : List O} (h : Right l) {out : List Str} (ho : out.length < l.length) : ∃ o ∈ l, o.code ∉ out := by
  refine Classical.byContradiction fun k => ?_
  have := nodup_le (r := l.map (·.code)) (U := out) (inc_nodup h.inc) (fun x hx => by
    obtain ⟨o, h1, rfl⟩ := List.mem_map.1 hx
    exact Classical.byContradiction fun h2 => k ⟨o, h1, h2⟩)
  rw [List.length_map] at this
  omega
theorem pick_is {l : List O} {out : List Str} {o : O} (h : pickV l out = some o) : o ∈ l ∧ o.code ∉ out ∧ ∀ n ∈ o.needs, n ∈ out := by
  have h1 := List.mem_of_find?_eq_some h
  have h2 := List.find?_some h
  rw [Bool.and_eq_true] at h2
  refine ⟨h1, by simpa using h2.1, fun n hn => by simpa using List.all_eq_true.1 h2.2 n hn⟩
/-! ### what can be taken -/
def metV (l : List O) (c : Str) (has : List Str) : Bool := match fnd l c with | some o => o.needs.all fun n => decide (n ∈ has) | none => false
def clashV (a b : List Int) : Bool := a.any fun n => decide (n ∈ b)
/-! ### what each code requires, as the program's map has it: the first offer with a code counts -/
def dirA : List O → List (Str × List Str) → List (Str × List Str)
  | [], m => m
  | o :: l, m => dirA l (if (m.lookup o.code).isSome then m else m ++ [(o.code, o.needs)])
def dirV (l : List O) : List (Str × List Str) := dirA l []
theorem lookup_app {α : Type} : ∀ (m : List (Str × α)) (c : Str) (k : Str) (v : α), (m ++ [(k, v)]).lookup c = match m.lookup c with | some x => some x | none => if c == k then some v else none
  | [], c, k, v => by
    show (match c == k with | true => some v | false => ([] : List (Str × α)).lookup c) = if c == k then some v else none
    cases c == k <;> rfl
  | (a, b) :: m, c, k, v => by
    simp only [List.cons_append, List.lookup]
    cases c == a
    · exact lookup_app m c k v
    · rfl
theorem dirA_lookup : ∀ (l : List O) (m : List (Str × List Str)) (c : Str), (dirA l m).lookup c = match m.lookup c with | some x => some x | none => (fnd l c).map (·.needs)
  | [], m, c => by
    unfold dirA fnd
    cases m.lookup c <;> rfl
  | o :: l, m, c => by
    unfold dirA
    rw [dirA_lookup l _ c]
    have hf : fnd (o :: l) c = if o.code == c then some o else fnd l c := by
      unfold fnd
      rw [List.find?_cons]
      cases o.code == c <;> rfl
    rw [hf]
    by_cases e : o.code = c
    · subst e
      cases hm : m.lookup o.code with
      | some x => simp [hm]
      | none =>
        rw [if_neg (by simp), lookup_app, hm]
        simp
    · have e1 : (o.code == c) = false := by simpa using e
      have e2 : (c == o.code) = false := by simpa using fun h : c = o.code => e h.symm
      have e3 : (if (m.lookup o.code).isSome then m else m ++ [(o.code, o.needs)]).lookup c = m.lookup c := by
        split
        · rfl
        · rw [lookup_app, e2]
          cases m.lookup c <;> rfl
      rw [e1, e3]
      cases m.lookup c <;> rfl
theorem dir_lookup (l : List O) (c : Str) : (dirV l).lookup c = (fnd l c).map (·.needs) := dirA_lookup l [] c
theorem dir_nx (l : List O) (c : Str) : ((dirV l).lookup c).getD [] = nx l c := by
  rw [dir_lookup]
  unfold nx
  cases fnd l c <;> rfl
theorem lookup_key {α : Type} : ∀ (m : List (Str × α)) (c : Str), (m.lookup c).isSome = true ↔ c ∈ m.map (·.1)
  | [], c => by simp [List.lookup]
  | (a, b) :: m, c => by
    simp only [List.lookup, List.map_cons, List.mem_cons]
    by_cases e : c = a
    · subst e; simp
    · have : (c == a) = false := by simpa using e
      rw [this]
      simp [e, lookup_key m c]
theorem dirA_nodup : ∀ (l : List O) (m : List (Str × List Str)), (m.map (·.1)).Nodup → ((dirA l m).map (·.1)).Nodup
  | [], m, h => h
  | o :: l, m, h => by
    unfold dirA
    refine dirA_nodup l _ ?_
    split
    · exact h
    · rename_i hn
      rw [lookup_key] at hn
      rw [List.map_append, List.nodup_append]
      exact ⟨h, by simp, fun a ha b hb e => by simp at hb; subst hb; subst e; exact hn ha⟩
theorem dir_nodup (l : List O) : ((dirV l).map (·.1)).Nodup := dirA_nodup l [] (by simp)
theorem dir_keys (l : List O) (c : Str) : c ∈ (dirV l).map (·.1) ↔ ∃ o ∈ l, o.code = c := by
  rw [← lookup_key, dir_lookup, Option.isSome_map, fnd_isSome]
theorem mem_lookup {α : Type} : ∀ {m : List (Str × α)} {c : Str} {v : α}, (m.map (·.1)).Nodup → (c, v) ∈ m → m.lookup c = some v
  | (a, b) :: m, c, v, hn, h => by
    obtain ⟨h1, h2⟩ := List.nodup_cons.1 hn
    rw [List.lookup]
    rcases List.mem_cons.1 h with e | h
    · injection e with e1 e2
      subst e1 e2
      simp
    · have : (c == a) = false := by
        rw [beq_eq_false_iff_ne]
        exact fun e => h1 (e ▸ List.mem_map.2 ⟨(c, v), h, rfl⟩)
      rw [this]
      exact mem_lookup h2 h
/-! ### circles, by colours -/
/-- what holds between visits: what is done leads only to what is done, and to no circle -/
structure Dfs (f : Str → List Str) (col : Str → Option Bool) : Prop where
  cl : ∀ b, col b = some false → ∀ x ∈ f b, col x = some false
  no : ∀ b, col b = some false → ¬ Leads f b b
def upd (col : Str → Option Bool) (c : Str) (v : Bool) : Str → Option Bool := fun s => if s = c then some v else col s
/-- a visit goes on -/
structure Goes (col col' : Str → Option Bool) : Prop where
  black : ∀ s, col s = some false → col' s = some false
  grey : ∀ s, col' s = some true ↔ col s = some true
theorem Goes.refl (col : Str → Option Bool) : Goes col col := ⟨fun _ h => h, fun _ => Iff.rfl⟩
theorem Goes.trans {a b c : Str → Option Bool} (h : Goes a b) (k : Goes b c) : Goes a c := ⟨fun s hs => k.black s (h.black s hs), fun s => (k.grey s).trans (h.grey s)⟩
theorem Goes.some {a b : Str → Option Bool} (h : Goes a b) {s : Str} (hs : a s ≠ none) : b s ≠ none := by
  cases e : a s with
  | none => exact absurd e hs
  | some v =>
    cases v with
    | false => rw [h.black s e]; simp
    | true => rw [(h.grey s).2 e]; simp
theorem dfs_open {col : Str → Option Bool} {c : Str} (h : Dfs f col) (hc : col c = none) : Dfs f (upd col c true) := by
  have e : ∀ b, upd col c true b = some false → col b = some false := fun b hb => by
    unfold upd at hb
    split at hb
    · cases hb
    · exact hb
  refine ⟨fun b hb x hx => ?_, fun b hb => h.no b (e b hb)⟩
  have := h.cl b (e b hb) x hx
  unfold upd
  split
  · rename_i e2; rw [e2, hc] at this; cases this
  · exact this
theorem dfs_close {col col' : Str → Option Bool} {c : Str} (hc : col c = none) (h : Dfs f col') (g : Goes (upd col c true) col') (hd : ∀ x ∈ f c, col' x = some false) : Dfs f (upd col' c false) ∧ Goes col (upd col' c false) := by
  have hg : col' c = some true := (g.grey c).2 (by unfold upd; rw [if_pos rfl])
  have hne : ∀ x, col' x = some false → x ≠ c := fun x hx e => by rw [e, hg] at hx; cases hx
  have hf : ∀ b, col' b = some false → upd col' c false b = some false := fun b hb => by unfold upd; split; rfl; exact hb
  refine ⟨⟨fun b hb x hx => ?_, fun b hb hl => ?_⟩, ⟨fun s hs => hf s (g.black s ?_), fun s => ?_⟩⟩
  · unfold upd at hb
    split at hb
    · rename_i e; subst e; exact hf x (hd x hx)
    · exact hf x (h.cl b hb x hx)
  · unfold upd at hb
    split at hb
    · rename_i e
      subst e
      have := hl.inv (P := fun x => col' x = some false) hd (fun x hx => h.cl x hx)
      exact hne b this rfl
    · exact h.no b hb hl
  · unfold upd
    split
    · rename_i e; rw [e, hc] at hs; cases hs
    · exact hs
  · unfold upd
    by_cases e : s = c
    · subst e
      simp [hc]
    · rw [if_neg e, g.grey s]
      unfold upd
      rw [if_neg e]
/-- how many of U have no colour yet -/
def plain (U : List Str) (col : Str → Option Bool) : Nat := (U.filter fun s => (col s).isNone).length
theorem plain_le (U : List Str) {a b : Str → Option Bool} (h : ∀ s, a s ≠ none → b s ≠ none) : plain U b ≤ plain U a := by
  unfold plain
  induction U with
  | nil => simp
  | cons x U ih =>
    simp only [List.filter_cons]
    by_cases h1 : a x = none
    · rw [h1]
      simp only [Option.isNone_none, if_true, List.length_cons]
      split <;> (try simp only [List.length_cons]) <;> omega
    · have h2 := h x h1
      have e1 : (a x).isNone = false := by cases e : a x <;> simp_all
      have e2 : (b x).isNone = false := by cases e : b x <;> simp_all
      rw [e1, e2]
      simpa using ih
theorem plain_lt (U : List Str) {a : Str → Option Bool} {c : Str} (hc : a c = none) (hm : c ∈ U) (v : Bool) : plain U (upd a c v) < plain U a := by
  unfold plain
  induction U with
  | nil => cases hm
  | cons x U ih =>
    have hle : ∀ V : List Str, (V.filter fun s => (upd a c v s).isNone).length ≤ (V.filter fun s => (a s).isNone).length := fun V => plain_le V (fun s hs => by unfold upd; split; simp; exact hs)
    simp only [List.filter_cons]
    by_cases e : x = c
    · subst e
      have e1 : upd a x v x = some v := by unfold upd; rw [if_pos rfl]
      rw [hc, e1]
      have := hle U
      simp only [Option.isNone_none, Option.isNone_some, if_true, List.length_cons, Bool.false_eq_true, if_false]
      omega
    · have hm2 : c ∈ U := by rcases List.mem_cons.1 hm with e2 | h; exact absurd e2.symm e; exact h
      have := ih hm2
      have e1 : upd a c v x = a x := by unfold upd; rw [if_neg e]
      rw [e1]
      split
      · simp only [List.length_cons]; omega
      · exact this
end Go.Proofs.YtnkemoicgadefaaGreatDoor
