/-
  Plain facts on lists of bytes: what the serializations of package wire are, and what a decoder finds. No program.
-/
import Derived.Lib.AtoiAll
import Derived.Lib.ItoaNum
import Derived.Lib.Bytealg
namespace Go.Proofs.YtmohcanfkcopiaaDoor
open Go.Lib

/-- an int of 64 bits -/
def I64 (n : Int) : Prop := -9223372036854775808 ≤ n ∧ n ≤ 9223372036854775807

def serI (n : Int) : List UInt8 := itoa n ++ [59]
def serT (s : List UInt8) : List UInt8 := itoa s.length ++ 58 :: s
def serL {α : Type} (f : α → List UInt8) (l : List α) : List UInt8 := 91 :: (l.flatMap f ++ [93])

-- the digits

theorem dec_small {u : Nat} (h : u < 10) : decDigits u = [UInt8.ofNat (48 + u)] := by rw [decDigits, dif_pos h]
theorem dec_big {u : Nat} (h : ¬ u < 10) : decDigits u = decDigits (u / 10) ++ [UInt8.ofNat (48 + u % 10)] := by rw [decDigits, dif_neg h]
theorem ofNat_digit {d : Nat} (h : d < 10) : (UInt8.ofNat (48 + d)).toNat = 48 + d := by
  rw [UInt8.toNat_ofNat']; omega

theorem dec_digits (u : Nat) : ∀ c ∈ decDigits u, 48 ≤ c.toNat ∧ c.toNat ≤ 57 := by
  induction u using Nat.strongRecOn with
  | ind u ih =>
    intro c hc
    by_cases h : u < 10
    · rw [dec_small h, List.mem_singleton] at hc
      subst hc
      rw [ofNat_digit h]; omega
    · rw [dec_big h, List.mem_append, List.mem_singleton] at hc
      rcases hc with hc | rfl
      · exact ih (u / 10) (by omega) c hc
      · rw [ofNat_digit (by omega)]; omega

theorem dec_ne_nil (u : Nat) : decDigits u ≠ [] := by
  by_cases h : u < 10
  · rw [dec_small h]; simp
  · rw [dec_big h]; simp

theorem parse_snoc (l : List UInt8) (c : UInt8) : ∀ acc v, parseUint10 acc l = .ok v → 48 ≤ c.toNat → c.toNat ≤ 57 → v * 10 + (c.toNat - 48) < 18446744073709551616 →
    parseUint10 acc (l ++ [c]) = .ok (v * 10 + (c.toNat - 48)) := by
  induction l with
  | nil =>
    intro acc v h h1 h2 h3
    simp only [parseUint10, NumEnd.ok.injEq] at h
    subst h
    simp only [List.nil_append, parseUint10]
    rw [if_pos ⟨h1, h2⟩, if_neg (by omega), if_neg (by omega)]
  | cons b l ih =>
    intro acc v h h1 h2 h3
    simp only [parseUint10] at h
    simp only [List.cons_append, parseUint10]
    split at h
    · rename_i hb
      rw [if_pos hb]
      split at h
      · cases h
      · rename_i h4
        rw [if_neg h4]
        split at h
        · cases h
        · rename_i h5
          rw [if_neg h5]
          exact ih _ _ h h1 h2 h3
    · cases h

theorem parse_dec (u : Nat) (hu : u < 18446744073709551616) : parseUint10 0 (decDigits u) = .ok u := by
  induction u using Nat.strongRecOn with
  | ind u ih =>
    by_cases h : u < 10
    · rw [dec_small h]
      have := parse_snoc [] (UInt8.ofNat (48 + u)) 0 0 rfl (by rw [ofNat_digit h]; omega) (by rw [ofNat_digit h]; omega) (by rw [ofNat_digit h]; omega)
      rw [ofNat_digit h] at this
      simpa using this
    · rw [dec_big h]
      have hd : u % 10 < 10 := by omega
      have := parse_snoc (decDigits (u / 10)) (UInt8.ofNat (48 + u % 10)) 0 (u / 10) (ih _ (by omega) (by omega)) (by rw [ofNat_digit hd]; omega) (by rw [ofNat_digit hd]; omega) (by rw [ofNat_digit hd]; omega)
      rw [ofNat_digit hd] at this
      rw [this]
      congr 1
      omega

theorem parseMag_dec (u : Nat) (hu : u < 18446744073709551616) : parseMag (decDigits u) = .ok u := by
  unfold parseMag
  rw [if_neg (dec_ne_nil u), parse_dec u hu]

theorem itoa_neg' {n : Int} (h : n < 0) : itoa n = 45 :: decDigits n.natAbs := by unfold itoa; rw [if_pos h]
theorem itoa_pos' {n : Int} (h : ¬ n < 0) : itoa n = decDigits n.toNat := by unfold itoa; rw [if_neg h]

theorem dec_head (u : Nat) : ∃ c r, decDigits u = c :: r ∧ 48 ≤ c.toNat ∧ c.toNat ≤ 57 := by
  cases h : decDigits u with
  | nil => exact absurd h (dec_ne_nil u)
  | cons c r =>
    have := dec_digits u c (by rw [h]; exact List.mem_cons_self)
    exact ⟨c, r, rfl, this⟩

theorem atoi_itoa (n : Int) (h : I64 n) : atoiAll (itoa n) = .ok n := by
  unfold I64 at h
  by_cases hn : n < 0
  · rw [itoa_neg' hn]
    unfold atoiAll
    simp only
    rw [if_pos (by decide), parseMag_dec _ (by omega)]
    simp only
    rw [if_neg (by simp), if_neg (by simp; omega), if_pos (by decide)]
    congr 1
    omega
  · rw [itoa_pos' hn]
    obtain ⟨c, r, hc, h1, h2⟩ := dec_head n.toNat
    have hp := parseMag_dec n.toNat (by omega)
    unfold atoiAll
    rw [hc]
    simp only
    rw [if_neg (by omega), ← hc, hp]
    simp only
    rw [if_neg (by omega), if_neg (by omega), if_neg (by omega)]
    congr 1
    omega

theorem atoi_range' {f : List UInt8} {n : Int} (h : atoiAll f = .ok n) : I64 n := by
  unfold I64
  unfold atoiAll at h
  cases f with
  | nil => cases h
  | cons c r =>
    simp only at h
    split at h
    · cases h
    · cases h
    · split at h
      · cases h
      · split at h
        · cases h
        · rename_i h1 h2
          injection h with h
          split at h <;> omega

theorem itoa_no {n : Int} {c : UInt8} (hc : 58 ≤ c.toNat) : c ∉ itoa n := by
  intro h
  by_cases hn : n < 0
  · rw [itoa_neg' hn, List.mem_cons] at h
    rcases h with rfl | h
    · exact absurd hc (by decide)
    · have := dec_digits _ c h; omega
  · rw [itoa_pos' hn] at h
    have := dec_digits _ c h; omega

theorem dec_length (u : Nat) (k : Nat) (h : u < 10 ^ (k + 1)) : (decDigits u).length ≤ k + 1 := by
  induction k generalizing u with
  | zero => rw [dec_small (by simpa using h)]; simp
  | succ k ih =>
    by_cases hu : u < 10
    · rw [dec_small hu]; simp
    · rw [dec_big hu, List.length_append]
      have := ih (u / 10) (by rw [Nat.pow_succ] at h; omega)
      simp only [List.length_singleton]
      omega

theorem itoa_len {n : Int} (h : I64 n) : (itoa n).length ≤ 20 := by
  unfold I64 at h
  by_cases hn : n < 0
  · rw [itoa_neg' hn, List.length_cons]
    have := dec_length n.natAbs 18 (by omega)
    omega
  · rw [itoa_pos' hn]
    have := dec_length n.toNat 18 (by omega)
    omega
theorem itoa_ne_nil (n : Int) : itoa n ≠ [] := by
  by_cases hn : n < 0
  · rw [itoa_neg' hn]; simp
  · rw [itoa_pos' hn]; exact dec_ne_nil _

-- cutting at a byte

def cutAt (c : UInt8) : List UInt8 → Option (List UInt8 × List UInt8)
  | [] => none
  | b :: l => if b == c then some ([], l) else match cutAt c l with
    | none => none
    | some (f, t) => some (b :: f, t)

theorem cutAt_iff (c : UInt8) (s f t : List UInt8) : cutAt c s = some (f, t) ↔ s = f ++ c :: t ∧ c ∉ f := by
  induction s generalizing f with
  | nil => simp [cutAt]
  | cons b l ih =>
    simp only [cutAt]
    by_cases hb : b = c
    · subst hb
      simp only [beq_self_eq_true, if_true, Option.some.injEq, Prod.mk.injEq]
      constructor
      · rintro ⟨rfl, rfl⟩; simp
      · rintro ⟨h, hn⟩
        cases f with
        | nil => simpa using h
        | cons x f =>
          simp only [List.cons_append, List.cons.injEq] at h
          exact absurd (by rw [h.1]; exact List.mem_cons_self) hn
    · rw [if_neg (by simpa using hb)]
      constructor
      · intro h
        split at h
        · cases h
        · rename_i f' t' he
          simp only [Option.some.injEq, Prod.mk.injEq] at h
          obtain ⟨rfl, rfl⟩ := h
          obtain ⟨rfl, hn⟩ := (ih _).1 he
          refine ⟨rfl, ?_⟩
          simp only [List.mem_cons, not_or]
          exact ⟨fun e => hb e.symm, hn⟩
      · rintro ⟨h, hn⟩
        cases f with
        | nil => simp only [List.nil_append, List.cons.injEq] at h; exact absurd h.1 hb
        | cons x f =>
          simp only [List.cons_append, List.cons.injEq] at h
          obtain ⟨rfl, h⟩ := h
          rw [(ih f).2 ⟨h, fun hm => hn (List.mem_cons_of_mem _ hm)⟩]

theorem cutAt_none (c : UInt8) (s : List UInt8) : cutAt c s = none ↔ c ∉ s := by
  induction s with
  | nil => simp [cutAt]
  | cons b l ih =>
    simp only [cutAt, List.mem_cons, not_or]
    by_cases hb : b = c
    · subst hb; simp
    · rw [if_neg (by simpa using hb)]
      constructor
      · intro h
        split at h
        · rename_i he
          exact ⟨fun e => hb e.symm, ih.1 he⟩
        · cases h
      · rintro ⟨_, h⟩
        rw [ih.2 h]

theorem index_none {c : UInt8} {s : List UInt8} (h : c ∉ s) : indexByte s c = -1 := by
  induction s with
  | nil => rfl
  | cons b l ih =>
    simp only [List.mem_cons, not_or] at h
    simp only [indexByte]
    rw [if_neg (by simpa using fun e => h.1 (Eq.symm e)), ih h.2, if_pos (by decide)]
theorem index_at {c : UInt8} {f t : List UInt8} (h : c ∉ f) : indexByte (f ++ c :: t) c = f.length := by
  induction f with
  | nil => simp [indexByte]
  | cons b l ih =>
    simp only [List.mem_cons, not_or] at h
    simp only [List.cons_append, indexByte]
    rw [if_neg (by simpa using fun e => h.1 (Eq.symm e)), ih h.2, if_neg (by simp)]
    simp

-- one number

def numP (c : UInt8) (s : List UInt8) : Option (Int × List UInt8) :=
  match cutAt c s with
  | none => none
  | some (f, t) => match atoiAll f with
    | .ok n => if itoa n = f then some (n, t) else none
    | _ => none

theorem numP_iff {c : UInt8} (hc : 58 ≤ c.toNat) (s : List UInt8) (n : Int) (t : List UInt8) : numP c s = some (n, t) ↔ I64 n ∧ s = itoa n ++ c :: t := by
  unfold numP
  constructor
  · intro h
    split at h
    · cases h
    · rename_i f t' he
      split at h
      · rename_i m hm
        split at h
        · rename_i hf
          simp only [Option.some.injEq, Prod.mk.injEq] at h
          obtain ⟨rfl, rfl⟩ := h
          exact ⟨atoi_range' hm, by rw [hf]; exact ((cutAt_iff _ _ _ _).1 he).1⟩
        · cases h
      · cases h
  · rintro ⟨hn, rfl⟩
    rw [(cutAt_iff c _ (itoa n) t).2 ⟨rfl, itoa_no hc⟩]
    simp only
    rw [atoi_itoa n hn]
    simp

def intP (s : List UInt8) : Option (Int × List UInt8) := numP 59 s
def textP (s : List UInt8) : Option (List UInt8 × List UInt8) :=
  match numP 58 s with
  | none => none
  | some (n, t) => if 0 ≤ n ∧ n ≤ t.length then some (t.take n.toNat, t.drop n.toNat) else none

theorem intP_iff (s : List UInt8) (n : Int) (t : List UInt8) : intP s = some (n, t) ↔ I64 n ∧ s = serI n ++ t := by
  unfold intP serI
  rw [numP_iff (by decide)]
  simp

theorem textP_iff (s v t : List UInt8) : textP s = some (v, t) ↔ I64 v.length ∧ s = serT v ++ t := by
  unfold textP serT
  constructor
  · intro h
    split at h
    · cases h
    · rename_i n u he
      obtain ⟨hn, rfl⟩ := (numP_iff (by decide) _ _ _).1 he
      split at h
      · rename_i hle
        simp only [Option.some.injEq, Prod.mk.injEq] at h
        obtain ⟨rfl, rfl⟩ := h
        have hl : ((u.take n.toNat).length : Int) = n := by rw [List.length_take]; omega
        rw [hl]
        exact ⟨hn, by rw [List.append_assoc, List.cons_append, List.take_append_drop]⟩
      · cases h
  · rintro ⟨hn, rfl⟩
    rw [List.append_assoc, List.cons_append, (numP_iff (by decide) _ (v.length : Int) (v ++ t)).2 ⟨hn, rfl⟩]
    simp only
    rw [if_pos ⟨by omega, by rw [List.length_append]; omega⟩]
    simp

-- lists

section
variable {α : Type} (p : List UInt8 → Option (α × List UInt8))
def elemsP : Nat → List UInt8 → Option (List α × List UInt8)
  | 0, _ => none
  | k + 1, s => if s.head? = some 93 then some ([], s.tail) else match p s with
    | none => none
    | some (v, t) => match elemsP k t with
      | none => none
      | some (l, u) => some (v :: l, u)
def listP (s : List UInt8) : Option (List α × List UInt8) := if s.head? = some 91 then elemsP p s.length s.tail else none
end

/-- what a method of a reader hands back, and what is left then -/
def valOf {α : Type} [Inhabited α] (p : List UInt8 → Option (α × List UInt8)) (st : Option (List UInt8)) : α := match st.bind p with | some (n, _) => n | none => default
def restOf {α : Type} (p : List UInt8 → Option (α × List UInt8)) (st : Option (List UInt8)) : Option (List UInt8) := match st.bind p with | some (_, t) => some t | none => none

/-- what a decoder of one element must be -/
structure Dec {α : Type} (p : List UInt8 → Option (α × List UInt8)) (f : α → List UInt8) (g : α → Prop) : Prop where
  iff : ∀ s v t, p s = some (v, t) ↔ g v ∧ s = f v ++ t
  head : ∀ v, ∃ c r, f v = c :: r ∧ c ≠ 93

theorem ser_head (n : Int) (r : List UInt8) : ∃ c t, itoa n ++ r = c :: t ∧ c ≠ 93 := by
  cases h : itoa n with
  | nil => exact absurd h (itoa_ne_nil n)
  | cons c t =>
    refine ⟨c, t ++ r, rfl, fun e => ?_⟩
    subst e
    exact itoa_no (n := n) (c := 93) (by decide) (by rw [h]; exact List.mem_cons_self)
theorem intD : Dec intP serI I64 := ⟨intP_iff, fun v => ser_head v _⟩
theorem textD : Dec textP serT (fun v => I64 v.length) := ⟨textP_iff, fun _ => ser_head _ _⟩

section
variable {α : Type} {p : List UInt8 → Option (α × List UInt8)} {f : α → List UInt8} {g : α → Prop}
theorem elems_iff (d : Dec p f g) : ∀ (k : Nat) (s : List UInt8) (l : List α) (t : List UInt8),
    (elemsP p k s = some (l, t) → (∀ v ∈ l, g v) ∧ s = l.flatMap f ++ 93 :: t) ∧
    (l.length < k → (∀ v ∈ l, g v) → s = l.flatMap f ++ 93 :: t → elemsP p k s = some (l, t)) := by
  intro k
  induction k with
  | zero => intro s l t; exact ⟨fun h => (by cases h), fun h => absurd h (by omega)⟩
  | succ k ih =>
    intro s l t
    constructor
    · intro h
      simp only [elemsP] at h
      split at h
      · rename_i hh
        simp only [Option.some.injEq, Prod.mk.injEq] at h
        obtain ⟨rfl, rfl⟩ := h
        cases s with
        | nil => simp at hh
        | cons b s => simp at hh; subst hh; simp
      · split at h
        · cases h
        · rename_i v u hv
          split at h
          · cases h
          · rename_i l' u' hl
            simp only [Option.some.injEq, Prod.mk.injEq] at h
            obtain ⟨rfl, rfl⟩ := h
            obtain ⟨hg, rfl⟩ := (d.iff _ _ _).1 hv
            obtain ⟨hg', rfl⟩ := (ih _ _ _).1 hl
            refine ⟨fun x hx => ?_, by simp⟩
            rcases List.mem_cons.1 hx with rfl | hx
            · exact hg
            · exact hg' x hx
    · intro hk hg hs
      cases l with
      | nil => subst hs; simp [elemsP]
      | cons v l =>
        subst hs
        obtain ⟨c, r, hc, hne⟩ := d.head v
        have hp : p ((v :: l).flatMap f ++ 93 :: t) = some (v, l.flatMap f ++ 93 :: t) := (d.iff _ _ _).2 ⟨hg v List.mem_cons_self, by simp⟩
        simp only [elemsP]
        rw [hp, if_neg (by simp [hc, hne])]
        simp only
        rw [((ih (l.flatMap f ++ 93 :: t) l t).2 (by simpa using hk) (fun x hx => hg x (List.mem_cons_of_mem _ hx)) rfl)]

theorem flat_len (d : Dec p f g) (l : List α) : l.length ≤ (l.flatMap f).length := by
  induction l with
  | nil => simp
  | cons v l ih =>
    obtain ⟨c, r, hc, _⟩ := d.head v
    simp only [List.flatMap_cons, List.length_append, List.length_cons, hc]
    omega

theorem list_iff (d : Dec p f g) (s : List UInt8) (l : List α) (t : List UInt8) : listP p s = some (l, t) ↔ (∀ v ∈ l, g v) ∧ s = serL f l ++ t := by
  unfold listP serL
  constructor
  · intro h
    split at h
    · rename_i hh
      cases s with
      | nil => simp at hh
      | cons b s =>
        simp at hh
        subst hh
        obtain ⟨hg, hs⟩ := (elems_iff d _ _ _ _).1 h
        simp only [List.tail_cons] at hs
        exact ⟨hg, by rw [hs]; simp⟩
    · cases h
  · rintro ⟨hg, rfl⟩
    rw [if_pos (by simp)]
    refine (elems_iff d _ _ _ _).2 ?_ hg (by simp)
    have := flat_len d l
    simp only [List.length_append, List.length_cons, List.cons_append]
    omega
theorem listD (d : Dec p f g) : ∀ s l t, listP p s = some (l, t) ↔ (∀ v ∈ l, g v) ∧ s = serL f l ++ t := list_iff d

/-- one step of a loop over elements does not hang on how much fuel is left -/
theorem elems_more (d : Dec p f g) {k k' : Nat} {s : List UInt8} (h : s.length < k) (h' : s.length < k') : elemsP p k s = elemsP p k' s := by
  have one : ∀ k k', s.length < k' → ∀ r, elemsP p k s = some r → elemsP p k' s = some r := by
    intro k k' h' r hr
    obtain ⟨l, t⟩ := r
    obtain ⟨hg, hs⟩ := (elems_iff d _ _ _ _).1 hr
    refine (elems_iff d _ _ _ _).2 ?_ hg hs
    have := flat_len d l
    rw [hs] at h'
    simp only [List.length_append, List.length_cons] at h'
    omega
  cases h1 : elemsP p k s with
  | some r => exact (one k k' h' r h1).symm
  | none =>
    cases h2 : elemsP p k' s with
    | none => rfl
    | some r => rw [one k' k h r h2] at h1; cases h1
end
end Go.Proofs.YtmohcanfkcopiaaDoor
