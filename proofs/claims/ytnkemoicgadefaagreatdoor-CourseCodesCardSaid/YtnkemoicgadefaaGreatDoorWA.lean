/-
  Plain facts on lists of bytes: what the serializations of package wire are, and what a decoder finds. No program.
  The world that every call of this seat begins in, and the library's contracts in its words.
  (*wire.Reader).number, by its contract.
  (*wire.Reader).Int and Text, by their contracts.
  wire.elements at int, by its contract.
  wire.elements at string, by its contract; Ints and Texts of a reader.
  wire.list at int and at string, Ints and Texts, by their contracts.
  New, and the law's own helpers decodes, malformed, by their contracts.
-/
import Derived.Lib.AtoiAll
import Derived.Lib.ItoaNum
import Derived.Lib.Bytealg
import Derived.Test.YtnkemoicgadefaaGreatDoorShelf
import Derived.WalkKit
import Derived.WalkSpells
import Derived.WalkLawsBesides
import Derived.Lib.Hide
import Derived.Maps.AppendAt
import Derived.Maps.Range
import Derived.Deep.QuietTactic
import Derived.BigQuiet
import Derived.ScopeJumps
import Derived.Maps.RangeWalk
import Derived.Deep.LoopGhost
import Derived.OwnWalk
namespace Go.Proofs.YtnkemoicgadefaaGreatDoor.Wire
open Go.Lib

/-- an int of 64 bits -/
def I64 (n : Int) : Prop := -9223372036854775808 ≤ n ∧ n ≤ 9223372036854775807

def serI (n : Int) : List UInt8 := itoa n ++ [59]
def serT (s : List UInt8) : List UInt8 := itoa s.length ++ 58 :: s
def serL {α : Type} (f : α → List UInt8) (l : List α) : List UInt8 := 91 :: (l.flatMap f ++ [93])

-- the digits

theorem dec_small {u : Nat} (h : u < 10) : decDigits u = [UInt8.ofNat (48 + u)] := by rw [decDigits, dif_pos h]
theorem dec_big {u : Nat} (h : ¬ u < 10) : decDigits u = decDigits (u / 10) ++ [UInt8.ofNat (48 + u % 10)] := by rw [decDigits, dif_neg h]
theorem ofNat_digit {d : Nat} (h : d < 10) : (UInt8.ofNat (48 + d)).toNat = 48 + d := by
  rw [UInt8.toNat_ofNat']; omega

theorem dec_digits (u : Nat) : ∀ c ∈ decDigits u, 48 ≤ c.toNat ∧ c.toNat ≤ 57 := by
  induction u using Nat.strongRecOn with
  | ind u ih =>
    intro c hc
    by_cases h : u < 10
    · rw [dec_small h, List.mem_singleton] at hc
      subst hc
      rw [ofNat_digit h]; omega
    · rw [dec_big h, List.mem_append, List.mem_singleton] at hc
      rcases hc with hc | rfl
      · exact ih (u / 10) (by omega) c hc
      · rw [ofNat_digit (by omega)]; omega

theorem dec_ne_nil (u : Nat) : decDigits u ≠ [] := by
  by_cases h : u < 10
  · rw [dec_small h]; simp
  · rw [dec_big h]; simp

theorem parse_snoc (l : List UInt8) (c : UInt8) : ∀ acc v, parseUint10 acc l = .ok v → 48 ≤ c.toNat → c.toNat ≤ 57 → v * 10 + (c.toNat - 48) < 18446744073709551616 →
    parseUint10 acc (l ++ [c]) = .ok (v * 10 + (c.toNat - 48)) := by
  induction l with
  | nil =>
    intro acc v h h1 h2 h3
    simp only [parseUint10, NumEnd.ok.injEq] at h
    subst h
    simp only [List.nil_append, parseUint10]
    rw [if_pos ⟨h1, h2⟩, if_neg (by omega), if_neg (by omega)]
  | cons b l ih =>
    intro acc v h h1 h2 h3
    simp only [parseUint10] at h
    simp only [List.cons_append, parseUint10]
    split at h
    · rename_i hb
      rw [if_pos hb]
      split at h
      · cases h
      · rename_i h4
        rw [if_neg h4]
        split at h
        · cases h
        · rename_i h5
          rw [if_neg h5]
          exact ih _ _ h h1 h2 h3
    · cases h

theorem parse_dec (u : Nat) (hu : u < 18446744073709551616) : parseUint10 0 (decDigits u) = .ok u := by
  induction u using Nat.strongRecOn with
  | ind u ih =>
    by_cases h : u < 10
    · rw [dec_small h]
      have := parse_snoc [] (UInt8.ofNat (48 + u)) 0 0 rfl (by rw [ofNat_digit h]; omega) (by rw [ofNat_digit h]; omega) (by rw [ofNat_digit h]; omega)
      rw [ofNat_digit h] at this
      simpa using this
    · rw [dec_big h]
      have hd : u % 10 < 10 := by omega
      have := parse_snoc (decDigits (u / 10)) (UInt8.ofNat (48 + u % 10)) 0 (u / 10) (ih _ (by omega) (by omega)) (by rw [ofNat_digit hd]; omega) (by rw [ofNat_digit hd]; omega) (by rw [ofNat_digit hd]; omega)
      rw [ofNat_digit hd] at this
      rw [this]
      congr 1
      omega

theorem parseMag_dec (u : Nat) (hu : u < 18446744073709551616) : parseMag (decDigits u) = .ok u := by
  unfold parseMag
  rw [if_neg (dec_ne_nil u), parse_dec u hu]

theorem itoa_neg' {n : Int} (h : n < 0) : itoa n = 45 :: decDigits n.natAbs := by unfold itoa; rw [if_pos h]
theorem itoa_pos' {n : Int} (h : ¬ n < 0) : itoa n = decDigits n.toNat := by unfold itoa; rw [if_neg h]

theorem dec_head (u : Nat) : ∃ c r, decDigits u = c :: r ∧ 48 ≤ c.toNat ∧ c.toNat ≤ 57 := by
  cases h : decDigits u with
  | nil => exact absurd h (dec_ne_nil u)
  | cons c r =>
    have := dec_digits u c (by rw [h]; exact List.mem_cons_self)
    exact ⟨c, r, rfl, this⟩

theorem atoi_itoa (n : Int) (h : I64 n) : atoiAll (itoa n) = .ok n := by
  unfold I64 at h
  by_cases hn : n < 0
  · rw [itoa_neg' hn]
    unfold atoiAll
    simp only
    rw [if_pos (by decide), parseMag_dec _ (by omega)]
    simp only
    rw [if_neg (by simp), if_neg (by simp; omega), if_pos (by decide)]
    congr 1
    omega
  · rw [itoa_pos' hn]
    obtain ⟨c, r, hc, h1, h2⟩ := dec_head n.toNat
    have hp := parseMag_dec n.toNat (by omega)
    unfold atoiAll
    rw [hc]
    simp only
    rw [if_neg (by omega), ← hc, hp]
    simp only
    rw [if_neg (by omega), if_neg (by omega), if_neg (by omega)]
    congr 1
    omega

theorem atoi_range' {f : List UInt8} {n : Int} (h : atoiAll f = .ok n) : I64 n := by
  unfold I64
  unfold atoiAll at h
  cases f with
  | nil => cases h
  | cons c r =>
    simp only at h
    split at h
    · cases h
    · cases h
    · split at h
      · cases h
      · split at h
        · cases h
        · rename_i h1 h2
          injection h with h
          split at h <;> omega

theorem itoa_no {n : Int} {c : UInt8} (hc : 58 ≤ c.toNat) : c ∉ itoa n := by
  intro h
  by_cases hn : n < 0
  · rw [itoa_neg' hn, List.mem_cons] at h
    rcases h with rfl | h
    · exact absurd hc (by decide)
    · have := dec_digits _ c h; omega
  · rw [itoa_pos' hn] at h
    have := dec_digits _ c h; omega

theorem dec_length (u : Nat) (k : Nat) (h : u < 10 ^ (k + 1)) : (decDigits u).length ≤ k + 1 := by
  induction k generalizing u with
  | zero => rw [dec_small (by simpa using h)]; simp
  | succ k ih =>
    by_cases hu : u < 10
    · rw [dec_small hu]; simp
    · rw [dec_big hu, List.length_append]
      have := ih (u / 10) (by rw [Nat.pow_succ] at h; omega)
      simp only [List.length_singleton]
      omega

theorem itoa_len {n : Int} (h : I64 n) : (itoa n).length ≤ 20 := by
  unfold I64 at h
  by_cases hn : n < 0
  · rw [itoa_neg' hn, List.length_cons]
    have := dec_length n.natAbs 18 (by omega)
    omega
  · rw [itoa_pos' hn]
    have := dec_length n.toNat 18 (by omega)
    omega
theorem itoa_ne_nil (n : Int) : itoa n ≠ [] := by
  by_cases hn : n < 0
  · rw [itoa_neg' hn]; simp
  · rw [itoa_pos' hn]; exact dec_ne_nil _

-- cutting at a byte

def cutAt (c : UInt8) : List UInt8 → Option (List UInt8 × List UInt8)
  | [] => none
  | b :: l => if b == c then some ([], l) else match cutAt c l with
    | none => none
    | some (f, t) => some (b :: f, t)

theorem cutAt_iff (c : UInt8) (s f t : List UInt8) : cutAt c s = some (f, t) ↔ s = f ++ c :: t ∧ c ∉ f := by
  induction s generalizing f with
  | nil => simp [cutAt]
  | cons b l ih =>
    simp only [cutAt]
    by_cases hb : b = c
    · subst hb
      simp only [beq_self_eq_true, if_true, Option.some.injEq, Prod.mk.injEq]
      constructor
      · rintro ⟨rfl, rfl⟩; simp
      · rintro ⟨h, hn⟩
        cases f with
        | nil => simpa using h
        | cons x f =>
          simp only [List.cons_append, List.cons.injEq] at h
          exact absurd (by rw [h.1]; exact List.mem_cons_self) hn
    · rw [if_neg (by simpa using hb)]
      constructor
      · intro h
        split at h
        · cases h
        · rename_i f' t' he
          simp only [Option.some.injEq, Prod.mk.injEq] at h
          obtain ⟨rfl, rfl⟩ := h
          obtain ⟨rfl, hn⟩ := (ih _).1 he
          refine ⟨rfl, ?_⟩
          simp only [List.mem_cons, not_or]
          exact ⟨fun e => hb e.symm, hn⟩
      · rintro ⟨h, hn⟩
        cases f with
        | nil => simp only [List.nil_append, List.cons.injEq] at h; exact absurd h.1 hb
        | cons x f =>
          simp only [List.cons_append, List.cons.injEq] at h
          obtain ⟨rfl, h⟩ := h
          rw [(ih f).2 ⟨h, fun hm => hn (List.mem_cons_of_mem _ hm)⟩]

theorem cutAt_none (c : UInt8) (s : List UInt8) : cutAt c s = none ↔ c ∉ s := by
  induction s with
  | nil => simp [cutAt]
  | cons b l ih =>
    simp only [cutAt, List.mem_cons, not_or]
    by_cases hb : b = c
    · subst hb; simp
    · rw [if_neg (by simpa using hb)]
      constructor
      · intro h
        split at h
        · rename_i he
          exact ⟨fun e => hb e.symm, ih.1 he⟩
        · cases h
      · rintro ⟨_, h⟩
        rw [ih.2 h]

theorem index_none {c : UInt8} {s : List UInt8} (h : c ∉ s) : indexByte s c = -1 := by
  induction s with
  | nil => rfl
  | cons b l ih =>
    simp only [List.mem_cons, not_or] at h
    simp only [indexByte]
    rw [if_neg (by simpa using fun e => h.1 (Eq.symm e)), ih h.2, if_pos (by decide)]
theorem index_at {c : UInt8} {f t : List UInt8} (h : c ∉ f) : indexByte (f ++ c :: t) c = f.length := by
  induction f with
  | nil => simp [indexByte]
  | cons b l ih =>
    simp only [List.mem_cons, not_or] at h
    simp only [List.cons_append, indexByte]
    rw [if_neg (by simpa using fun e => h.1 (Eq.symm e)), ih h.2, if_neg (by simp)]
    simp

-- one number

def numP (c : UInt8) (s : List UInt8) : Option (Int × List UInt8) :=
  match cutAt c s with
  | none => none
  | some (f, t) => match atoiAll f with
    | .ok n => if itoa n = f then some (n, t) else none
    | _ => none

theorem numP_iff {c : UInt8} (hc : 58 ≤ c.toNat) (s : List UInt8) (n : Int) (t : List UInt8) : numP c s = some (n, t) ↔ I64 n ∧ s = itoa n ++ c :: t := by
  unfold numP
  constructor
  · intro h
    split at h
    · cases h
    · rename_i f t' he
      split at h
      · rename_i m hm
        split at h
        · rename_i hf
          simp only [Option.some.injEq, Prod.mk.injEq] at h
          obtain ⟨rfl, rfl⟩ := h
          exact ⟨atoi_range' hm, by rw [hf]; exact ((cutAt_iff _ _ _ _).1 he).1⟩
        · cases h
      · cases h
  · rintro ⟨hn, rfl⟩
    rw [(cutAt_iff c _ (itoa n) t).2 ⟨rfl, itoa_no hc⟩]
    simp only
    rw [atoi_itoa n hn]
    simp

def intP (s : List UInt8) : Option (Int × List UInt8) := numP 59 s
def textP (s : List UInt8) : Option (List UInt8 × List UInt8) :=
  match numP 58 s with
  | none => none
  | some (n, t) => if 0 ≤ n ∧ n ≤ t.length then some (t.take n.toNat, t.drop n.toNat) else none

theorem intP_iff (s : List UInt8) (n : Int) (t : List UInt8) : intP s = some (n, t) ↔ I64 n ∧ s = serI n ++ t := by
  unfold intP serI
  rw [numP_iff (by decide)]
  simp

theorem textP_iff (s v t : List UInt8) : textP s = some (v, t) ↔ I64 v.length ∧ s = serT v ++ t := by
  unfold textP serT
  constructor
  · intro h
    split at h
    · cases h
    · rename_i n u he
      obtain ⟨hn, rfl⟩ := (numP_iff (by decide) _ _ _).1 he
      split at h
      · rename_i hle
        simp only [Option.some.injEq, Prod.mk.injEq] at h
        obtain ⟨rfl, rfl⟩ := h
        have hl : ((u.take n.toNat).length : Int) = n := by rw [List.length_take]; omega
        rw [hl]
        exact ⟨hn, by rw [List.append_assoc, List.cons_append, List.take_append_drop]⟩
      · cases h
  · rintro ⟨hn, rfl⟩
    rw [List.append_assoc, List.cons_append, (numP_iff (by decide) _ (v.length : Int) (v ++ t)).2 ⟨hn, rfl⟩]
    simp only
    rw [if_pos ⟨by omega, by rw [List.length_append]; omega⟩]
    simp

-- lists

section
variable {α : Type} (p : List UInt8 → Option (α × List UInt8))
def elemsP : Nat → List UInt8 → Option (List α × List UInt8)
  | 0, _ => none
  | k + 1, s => if s.head? = some 93 then some ([], s.tail) else match p s with
    | none => none
    | some (v, t) => match elemsP k t with
      | none => none
      | some (l, u) => some (v :: l, u)
def listP (s : List UInt8) : Option (List α × List UInt8) := if s.head? = some 91 then elemsP p s.length s.tail else none
end

/-- what a method of a reader hands back, and what is left then -/
def valOf {α : Type} [Inhabited α] (p : List UInt8 → Option (α × List UInt8)) (st : Option (List UInt8)) : α := match st.bind p with | some (n, _) => n | none => default
def restOf {α : Type} (p : List UInt8 → Option (α × List UInt8)) (st : Option (List UInt8)) : Option (List UInt8) := match st.bind p with | some (_, t) => some t | none => none

/-- what a decoder of one element must be -/
structure Dec {α : Type} (p : List UInt8 → Option (α × List UInt8)) (f : α → List UInt8) (g : α → Prop) : Prop where
  iff : ∀ s v t, p s = some (v, t) ↔ g v ∧ s = f v ++ t
  head : ∀ v, ∃ c r, f v = c :: r ∧ c ≠ 93

theorem ser_head (n : Int) (r : List UInt8) : ∃ c t, itoa n ++ r = c :: t ∧ c ≠ 93 := by
  cases h : itoa n with
  | nil => exact absurd h (itoa_ne_nil n)
  | cons c t =>
    refine ⟨c, t ++ r, rfl, fun e => ?_⟩
    subst e
    exact itoa_no (n := n) (c := 93) (by decide) (by rw [h]; exact List.mem_cons_self)
theorem intD : Dec intP serI I64 := ⟨intP_iff, fun v => ser_head v _⟩
theorem textD : Dec textP serT (fun v => I64 v.length) := ⟨textP_iff, fun _ => ser_head _ _⟩

section
variable {α : Type} {p : List UInt8 → Option (α × List UInt8)} {f : α → List UInt8} {g : α → Prop}
theorem elems_iff (d : Dec p f g) : ∀ (k : Nat) (s : List UInt8) (l : List α) (t : List UInt8),
    (elemsP p k s = some (l, t) → (∀ v ∈ l, g v) ∧ s = l.flatMap f ++ 93 :: t) ∧
    (l.length < k → (∀ v ∈ l, g v) → s = l.flatMap f ++ 93 :: t → elemsP p k s = some (l, t)) := by
  intro k
  induction k with
  | zero => intro s l t; exact ⟨fun h => (by cases h), fun h => absurd h (by omega)⟩
  | succ k ih =>
    intro s l t
    constructor
    · intro h
      simp only [elemsP] at h
      split at h
      · rename_i hh
        simp only [Option.some.injEq, Prod.mk.injEq] at h
        obtain ⟨rfl, rfl⟩ := h
        cases s with
        | nil => simp at hh
        | cons b s => simp at hh; subst hh; simp
      · split at h
        · cases h
        · rename_i v u hv
          split at h
          · cases h
          · rename_i l' u' hl
            simp only [Option.some.injEq, Prod.mk.injEq] at h
            obtain ⟨rfl, rfl⟩ := h
            obtain ⟨hg, rfl⟩ := (d.iff _ _ _).1 hv
            obtain ⟨hg', rfl⟩ := (ih _ _ _).1 hl
            refine ⟨fun x hx => ?_, by simp⟩
            rcases List.mem_cons.1 hx with rfl | hx
            · exact hg
            · exact hg' x hx
    · intro hk hg hs
      cases l with
      | nil => subst hs; simp [elemsP]
      | cons v l =>
        subst hs
        obtain ⟨c, r, hc, hne⟩ := d.head v
        have hp : p ((v :: l).flatMap f ++ 93 :: t) = some (v, l.flatMap f ++ 93 :: t) := (d.iff _ _ _).2 ⟨hg v List.mem_cons_self, by simp⟩
        simp only [elemsP]
        rw [hp, if_neg (by simp [hc, hne])]
        simp only
        rw [((ih (l.flatMap f ++ 93 :: t) l t).2 (by simpa using hk) (fun x hx => hg x (List.mem_cons_of_mem _ hx)) rfl)]

theorem flat_len (d : Dec p f g) (l : List α) : l.length ≤ (l.flatMap f).length := by
  induction l with
  | nil => simp
  | cons v l ih =>
    obtain ⟨c, r, hc, _⟩ := d.head v
    simp only [List.flatMap_cons, List.length_append, List.length_cons, hc]
    omega

theorem list_iff (d : Dec p f g) (s : List UInt8) (l : List α) (t : List UInt8) : listP p s = some (l, t) ↔ (∀ v ∈ l, g v) ∧ s = serL f l ++ t := by
  unfold listP serL
  constructor
  · intro h
    split at h
    · rename_i hh
      cases s with
      | nil => simp at hh
      | cons b s =>
        simp at hh
        subst hh
        obtain ⟨hg, hs⟩ := (elems_iff d _ _ _ _).1 h
        simp only [List.tail_cons] at hs
        exact ⟨hg, by rw [hs]; simp⟩
    · cases h
  · rintro ⟨hg, rfl⟩
    rw [if_pos (by simp)]
    refine (elems_iff d _ _ _ _).2 ?_ hg (by simp)
    have := flat_len d l
    simp only [List.length_append, List.length_cons, List.cons_append]
    omega
theorem listD (d : Dec p f g) : ∀ s l t, listP p s = some (l, t) ↔ (∀ v ∈ l, g v) ∧ s = serL f l ++ t := list_iff d

/-- one step of a loop over elements does not hang on how much fuel is left -/
theorem elems_more (d : Dec p f g) {k k' : Nat} {s : List UInt8} (h : s.length < k) (h' : s.length < k') : elemsP p k s = elemsP p k' s := by
  have one : ∀ k k', s.length < k' → ∀ r, elemsP p k s = some r → elemsP p k' s = some r := by
    intro k k' h' r hr
    obtain ⟨l, t⟩ := r
    obtain ⟨hg, hs⟩ := (elems_iff d _ _ _ _).1 hr
    refine (elems_iff d _ _ _ _).2 ?_ hg hs
    have := flat_len d l
    rw [hs] at h'
    simp only [List.length_append, List.length_cons] at h'
    omega
  cases h1 : elemsP p k s with
  | some r => exact (one k k' h' r h1).symm
  | none =>
    cases h2 : elemsP p k' s with
    | none => rfl
    | some r => rw [one k' k h r h2] at h1; cases h1
end
end Go.Proofs.YtnkemoicgadefaaGreatDoor.Wire
namespace Go.Proofs.YtnkemoicgadefaaGreatDoor.Wire
open Go.RowKit

/-- what the package-level variables hold that the library reads -/
structure Base (w : World) : Prop where
  tab : Lib.TabIs Tryz.prog w "internal/strconv.uint64pow10" .u64 Lib.pow10Tab
  syn : ∃ t p, w.cell? ⟨2, 0, none⟩ = some (.iface t p)
  ran : ∃ t p, w.cell? ⟨3, 0, none⟩ = some (.iface t p)
  size : 6 ≤ w.heap.size

theorem gTab : Tryz.prog.globalNamed "internal/strconv.uint64pow10" = some 0 := by kernel_rfl

theorem grown_of_below {w w' : World} (h : Below w.heap.size w w') : w.grownBy w' none := ⟨h.os, h.tape, h.output, h.size, fun i hi _ => h.block i hi⟩
theorem below_of_grown {w w' : World} (h : w.grownBy w' none) : Below w.heap.size w w' := ⟨h.os, h.tape, h.output, h.size, fun i hi => h.block i hi (by simp)⟩

theorem Base.grown {w w' : World} {row : Option Nat} (h : Base w) (hg : w.grownBy w' row) (hr : ∀ b, row = some b → 6 ≤ b) : Base w' := by
  have hs := h.size
  have hb : ∀ i, i < 6 → w'.heap[i]? = w.heap[i]? := fun i hi => hg.block i (by omega) (fun e => by have := hr i e.symm; omega)
  refine ⟨?_, ?_, ?_, Nat.le_trans h.size hg.size⟩
  · have ht := h.tab
    unfold Lib.TabIs World.var? at ht ⊢
    rw [gTab] at ht ⊢
    simp only [Option.bind_some] at ht ⊢
    rw [hb 0 (by omega)]
    exact ht
  · obtain ⟨t, p, hc⟩ := h.syn
    exact ⟨t, p, (World.cell?_of_block (hb 2 (by omega))).trans hc⟩
  · obtain ⟨t, p, hc⟩ := h.ran
    exact ⟨t, p, (World.cell?_of_block (hb 3 (by omega))).trans hc⟩
theorem Base.none_ {w w' : World} (h : Base w) (hg : w.grownBy w' none) : Base w' := h.grown hg (by simp)

theorem grown_drewN (w : World) (k : Nat) (row : Option Nat) : w.grownBy (w.drewN k) row := ⟨rfl, rfl, rfl, Nat.le_refl _, fun _ _ _ => rfl⟩
theorem grown_grow (w : World) (os : Array Obj) (row : Option Nat) : w.grownBy (Go.Sort.grow w os) row :=
  ⟨rfl, rfl, rfl, by simp, fun i hi _ => Go.Sort.heap_grow_old w os hi⟩

/-- strconv.Itoa -/
theorem itoa_k (n : Int) (h : I64 n) (w : World) (hb : Base w) :
    Calls Tryz.prog 64 #[.int .i64 n] w fun e w' => e = .returned (.string ⟨(Lib.itoa n).toArray⟩) ∧ w.grownBy w' none :=
  (Tryz.strconv_Itoa n h.1 h.2 w hb.tab).mono fun _ _ ⟨he, k, os, hw⟩ => ⟨he, by rw [hw]; exact (grown_drewN w k none).trans (grown_grow _ os none)⟩


theorem str_app (a b : List UInt8) : (⟨a.toArray⟩ : ByteArray) ++ ⟨b.toArray⟩ = ⟨(a ++ b).toArray⟩ := by
  apply ByteArray.ext; simp
theorem get_mk (l : List UInt8) (i : Nat) (h : i < (⟨l.toArray⟩ : ByteArray).size) : (⟨l.toArray⟩ : ByteArray)[i]'h = l[i]'(by simpa [ByteArray.size] using h) := rfl
theorem extract_mk (l : List UInt8) (i j : Nat) : (⟨l.toArray⟩ : ByteArray).extract i j = ⟨((l.take j).drop i).toArray⟩ := by
  apply ByteArray.ext
  simp [List.drop_take]
attribute [local go_sem] get_mk extract_mk
theorem ret_str {a b : ByteArray} (h : a = b) : Ending.returned (.string a) = .returned (.string b) := by rw [h]

set_option maxHeartbeats 400000 in
/-- wire.Int -/
theorem wInt (n : Int) (h : I64 n) (w : World) (hb : Base w) :
    Calls Tryz.prog 25 #[.int .i64 n] w fun e w' => e = .returned (.string ⟨(serI n).toArray⟩) ∧ w.grownBy w' none := by
  have hl := itoa_len h
  have hl' : ¬ 9223372036854775807 < (Lib.itoa n).length + 1 := by omega
  go_enter Tryz.func25, Tryz.ntmps25
  go_wp2_with (go_at_call 64; refine (itoa_k n h w hb).mono ?_; rintro e w' ⟨rfl, hg⟩)
  go_ret
  exact ⟨ret_str (str_app _ [59]), hg⟩

set_option maxHeartbeats 400000 in
/-- wire.Text -/
theorem wText (l : List UInt8) (hl : l.length ≤ 4611686018427387904) (w : World) (hb : Base w) :
    Calls Tryz.prog 26 #[.string ⟨l.toArray⟩] w fun e w' => e = .returned (.string ⟨(serT l).toArray⟩) ∧ w.grownBy w' none := by
  have hi : I64 (l.length : Int) := ⟨by omega, by omega⟩
  have hk := itoa_len hi
  go_enter Tryz.func26, Tryz.ntmps26
  go_wp2_with (go_at_call 64; refine (itoa_k _ hi w hb).mono ?_; rintro e w' ⟨rfl, hg⟩)
  go_ret
  exact ⟨ret_str (by rw [str_app _ [58], str_app, serT, List.append_assoc]; rfl), hg⟩

/-- what a reader holds: what is left, or nothing, if it is bad -/
def Rd (w : World) (b : Nat) (st : Option (List UInt8)) : Prop :=
  w.heap[b]? = some (.cells #[.string ⟨(st.getD []).toArray⟩, .bool st.isNone] 96 (0, 0))

theorem Rd.c0 {w : World} {b : Nat} {st : Option (List UInt8)} (h : Rd w b st) : w.cell? ⟨b, 0, none⟩ = some (.string ⟨(st.getD []).toArray⟩) := by
  unfold Rd at h; simp [World.cell?, h]
theorem Rd.c1 {w : World} {b : Nat} {st : Option (List UInt8)} (h : Rd w b st) : w.cell? ⟨b, 1, none⟩ = some (.bool st.isNone) := by
  unfold Rd at h; simp [World.cell?, h]
theorem Rd.fz {w : World} {b : Nat} {st : Option (List UInt8)} (h : Rd w b st) (i : Nat) : w.frozen? ⟨b, i, none⟩ = false := by
  unfold Rd at h; simp [World.frozen?, h]
theorem Rd.lt {w : World} {b : Nat} {st : Option (List UInt8)} (h : Rd w b st) : b < w.heap.size := by
  rcases Nat.lt_or_ge b w.heap.size with hlt | hge
  · exact hlt
  · unfold Rd at h; rw [Array.getElem?_eq_none hge] at h; cases h
theorem Rd.grown {w w' : World} {b : Nat} {st : Option (List UInt8)} {row : Option Nat} (h : Rd w b st) (hg : w.grownBy w' row) (hne : some b ≠ row) : Rd w' b st :=
  (hg.block b h.lt hne).trans h
theorem Rd.set0 {w : World} {b : Nat} {l : List UInt8} (h : Rd w b (some l)) (m : List UInt8) : Rd (w.setCell ⟨b, 0, none⟩ (.string ⟨m.toArray⟩)) b (some m) := by
  unfold Rd at h ⊢
  simp [World.setCell, Array.getElem?_modify, h]
theorem Rd.bad {w : World} {b : Nat} {st : Option (List UInt8)} (h : Rd w b st) : Rd ((w.setCell ⟨b, 0, none⟩ (.string ⟨#[]⟩)).setCell ⟨b, 1, none⟩ (.bool true)) b none := by
  unfold Rd at h ⊢
  simp [World.setCell, Array.getElem?_modify, h]
theorem grown_setCell (w : World) (b i : Nat) (v : Value) : w.grownBy (w.setCell ⟨b, i, none⟩ v) (some b) :=
  ⟨rfl, rfl, rfl, by simp [World.setCell], fun k _ hne => Below.heap_setCell w _ v k (by rintro rfl; exact hne rfl)⟩

set_option maxHeartbeats 400000 in
theorem Bad_nil (w : World) : Calls Tryz.prog 32 #[.pointer none] w fun e w' => e = .returned (.bool true) ∧ w = w' := by
  go_enter Tryz.func32, Tryz.ntmps32
  go_wp2
  go_ret
  exact ⟨rfl, rfl⟩
set_option maxHeartbeats 400000 in
theorem Bad_at (w : World) (b : Nat) (v : Bool) (h : w.cell? ⟨b, 1, none⟩ = some (.bool v)) : Calls Tryz.prog 32 #[.pointer (some ⟨b, 0, none⟩)] w fun e w' => e = .returned (.bool v) ∧ w = w' := by
  go_enter Tryz.func32, Tryz.ntmps32
  go_wp2
  go_ret
  exact ⟨rfl, rfl⟩
set_option maxHeartbeats 400000 in
theorem Left_at (w : World) (b : Nat) (l : List UInt8) (h0 : w.cell? ⟨b, 0, none⟩ = some (.string ⟨l.toArray⟩)) (h : w.cell? ⟨b, 1, none⟩ = some (.bool false)) : Calls Tryz.prog 34 #[.pointer (some ⟨b, 0, none⟩)] w fun e w' => e = .returned (.int .i64 l.length) ∧ w = w' := by
  go_enter Tryz.func34, Tryz.ntmps34
  go_wp2_with (go_at_call 32; refine (Bad_at w b false h).mono ?_; rintro e w' ⟨rfl, rfl⟩)
  go_ret
  exact ⟨rfl, rfl⟩

set_option maxHeartbeats 400000 in
theorem Left_bad (w : World) (b : Nat) (h : w.cell? ⟨b, 1, none⟩ = some (.bool true)) : Calls Tryz.prog 34 #[.pointer (some ⟨b, 0, none⟩)] w fun e w' => e = .returned (.int .i64 0) ∧ w = w' := by
  go_enter Tryz.func34, Tryz.ntmps34
  go_wp2_with (go_at_call 32; refine (Bad_at w b true h).mono ?_; rintro e w' ⟨rfl, rfl⟩)
  go_ret
  exact ⟨rfl, rfl⟩
set_option maxHeartbeats 400000 in
theorem Left_nil (w : World) : Calls Tryz.prog 34 #[.pointer none] w fun e w' => e = .returned (.int .i64 0) ∧ w = w' := by
  go_enter Tryz.func34, Tryz.ntmps34
  go_wp2_with (go_at_call 32; refine (Bad_nil w).mono ?_; rintro e w' ⟨rfl, rfl⟩)
  go_ret
  exact ⟨rfl, rfl⟩
set_option maxHeartbeats 400000 in
theorem fail_nil (w : World) : Calls Tryz.prog 93 #[.pointer none] w fun e w' => e = .returned (.tuple #[]) ∧ w = w' := by
  go_enter Tryz.func93, Tryz.ntmps93
  go_wp2
  go_end0
  exact ⟨rfl, rfl⟩
set_option maxHeartbeats 400000 in
theorem fail_at (w : World) (b : Nat) (st : Option (List UInt8)) (h : Rd w b st) : Calls Tryz.prog 93 #[.pointer (some ⟨b, 0, none⟩)] w fun e w' => e = .returned (.tuple #[]) ∧ Rd w' b none ∧ w.grownBy w' (some b) := by
  have h0 := h.c0
  have h1 := h.c1
  have f0 := h.fz 0
  have f1 := h.fz 1
  go_enter Tryz.func93, Tryz.ntmps93
  go_wp2
  go_end0
  exact ⟨rfl, h.bad, (grown_setCell _ _ _ _).trans (grown_setCell _ _ _ _)⟩

set_option maxHeartbeats 400000 in
theorem skip_nil (w : World) (k : Int) : Calls Tryz.prog 112 #[.pointer none, .int .u8 k] w fun e w' => e = .returned (.bool false) ∧ w = w' := by
  go_enter Tryz.func112, Tryz.ntmps112
  go_wp2_with (go_at_call 32; refine (Bad_nil w).mono ?_; rintro e w' ⟨rfl, rfl⟩)
  go_ret
  exact ⟨rfl, rfl⟩
set_option maxHeartbeats 400000 in
theorem skip_bad (w : World) (b : Nat) (k : Int) (h : Rd w b none) : Calls Tryz.prog 112 #[.pointer (some ⟨b, 0, none⟩), .int .u8 k] w fun e w' => e = .returned (.bool false) ∧ w = w' := by
  have h1 := h.c1
  go_enter Tryz.func112, Tryz.ntmps112
  go_wp2_with (go_at_call 32; refine (Bad_at w b true h1).mono ?_; rintro e w' ⟨rfl, rfl⟩)
  go_ret
  exact ⟨rfl, rfl⟩
set_option maxHeartbeats 400000 in
theorem skip_empty (w : World) (b : Nat) (k : Int) (h : Rd w b (some [])) : Calls Tryz.prog 112 #[.pointer (some ⟨b, 0, none⟩), .int .u8 k] w fun e w' => e = .returned (.bool false) ∧ w = w' := by
  have h0 := h.c0
  have h1 := h.c1
  simp only [Option.getD_some] at h0
  go_enter Tryz.func112, Tryz.ntmps112
  go_wp2_with (go_at_call 32; refine (Bad_at w b false h1).mono ?_; rintro e w' ⟨rfl, rfl⟩)
  go_ret
  exact ⟨rfl, rfl⟩
set_option maxHeartbeats 400000 in
theorem skip_no (w : World) (b : Nat) (k : Int) (c : UInt8) (l : List UInt8) (hk' : ((c.toNat : Int) != k) = true) (h : Rd w b (some (c :: l))) : Calls Tryz.prog 112 #[.pointer (some ⟨b, 0, none⟩), .int .u8 k] w fun e w' => e = .returned (.bool false) ∧ w = w' := by
  have h0 := h.c0
  have h1 := h.c1
  simp only [Option.getD_some] at h0
  go_enter Tryz.func112, Tryz.ntmps112
  go_wp2_with (go_at_call 32; refine (Bad_at w b false h1).mono ?_; rintro e w' ⟨rfl, rfl⟩)

  go_ret
  exact ⟨rfl, rfl⟩
set_option maxHeartbeats 400000 in
theorem skip_yes (w : World) (b : Nat) (k : Int) (c : UInt8) (l : List UInt8) (hk' : ((c.toNat : Int) != k) = false) (h : Rd w b (some (c :: l))) : Calls Tryz.prog 112 #[.pointer (some ⟨b, 0, none⟩), .int .u8 k] w fun e w' => e = .returned (.bool true) ∧ Rd w' b (some l) ∧ w.grownBy w' (some b) := by
  have h0 := h.c0
  have h1 := h.c1
  have f0 := h.fz 0
  simp only [Option.getD_some] at h0
  go_enter Tryz.func112, Tryz.ntmps112
  go_wp2_with (go_at_call 32; refine (Bad_at w b false h1).mono ?_; rintro e w' ⟨rfl, rfl⟩)

  go_ret
  exact ⟨rfl, h.set0 l, grown_setCell _ _ _ _⟩
end Go.Proofs.YtnkemoicgadefaaGreatDoor.Wire
namespace Go.Proofs.YtnkemoicgadefaaGreatDoor.Wire
open Go.RowKit
attribute [local go_sem] get_mk extract_mk

/-- what follows a label that is jumped to once, forward -/
def After (P : Program) (rest : Code) (Q : Exit → Act → World → Prop) (a : Act) (w : World) : Prop := rest.wp P (Exit.noGoto Q) a w

theorem wp_scope_forward {P : Program} {c rest : Code} {Q : Exit → Act → World → Prop} {a : Act} {w : World} (l : Nat) (hf : findLabel c l = some rest)
    (first : c.wp P (Exit.jump l (After P rest Q) Q) a w) : (Code.scope c).wp P Q a w := by
  refine wp_scope_jumps l (After P rest Q) (fun _ _ => 0) hf first fun a w h => ?_
  refine Code.wp_mono ?_ h
  intro e a' w' hq
  cases e with
  | goto l' => exact hq.elim
  | normal => exact hq
  | exit id => exact hq
  | ret => exact hq
  | panic ch => exact hq
  | outgrown => exact hq
set_option maxHeartbeats 400000 in
theorem number_nil (w : World) (k : Int) : Calls Tryz.prog 67 #[.pointer none, .int .u8 k] w fun e w' => e = .returned (.tuple #[.int .i64 0, .bool false]) ∧ w = w' := by
  go_enter Tryz.func67, Tryz.ntmps67
  go_wp2
  refine wp_scope_forward 0 rfl ?_
  go_wp2_with (go_at_call 32; refine (Bad_nil w).mono ?_; rintro e w' ⟨rfl, rfl⟩)
  refine wp_goto (And.intro rfl ?_)
  unfold After
  go_wp2_with (go_at_call 93; refine (fail_nil w).mono ?_; rintro e w' ⟨rfl, rfl⟩)
  rw [Exit.noGoto_ret]
  go_ret2
  exact ⟨rfl, rfl⟩

set_option maxHeartbeats 400000 in
theorem number_bad (w : World) (b : Nat) (k : Int) (h : Rd w b none) : Calls Tryz.prog 67 #[.pointer (some ⟨b, 0, none⟩), .int .u8 k] w fun e w' => e = .returned (.tuple #[.int .i64 0, .bool false]) ∧ Rd w' b none ∧ w.grownBy w' (some b) := by
  go_enter Tryz.func67, Tryz.ntmps67
  go_wp2
  refine wp_scope_forward 0 rfl ?_
  go_wp2_with (go_at_call 32; refine (Bad_at w b true h.c1).mono ?_; rintro e w' ⟨rfl, rfl⟩)
  refine wp_goto (And.intro rfl ?_)
  unfold After
  go_wp2_with (go_at_call 93; refine (fail_at w b none h).mono ?_; rintro e w' ⟨rfl, hr, hg⟩)
  rw [Exit.noGoto_ret]
  go_ret2
  exact ⟨rfl, hr, hg⟩

theorem nat_u8 (c : UInt8) : (Int.toNat (c.toNat : Int)).toUInt8 = c := by simp
theorem take_min (l : List UInt8) : l.take (min (l.length : Int) 21).toNat = l.take 21 := by
  by_cases h : l.length ≤ 21
  · rw [List.take_of_length_le (by omega), List.take_of_length_le (by omega)]
  · congr 1; omega
/-- strings.IndexByte over the first 21 bytes -/
theorem index_k (l : List UInt8) (c : UInt8) (n : Int) (h : Lib.indexByte (l.take 21) c = n) (w : World) :
    Calls Tryz.prog 91 #[.string ⟨(l.take (min (l.length : Int) 21).toNat).toArray⟩, .int .u8 c.toNat] w fun e w' => e = .returned (.int .i64 n) ∧ w' = w := by
  have := Tryz.strings_IndexByte ⟨(l.take (min (l.length : Int) 21).toNat).toArray⟩ c.toNat w
  rw [nat_u8] at this
  simp only [take_min] at this ⊢
  rw [h] at this
  exact this

set_option maxHeartbeats 400000 in
set_option maxRecDepth 100000 in
theorem number_none (w : World) (b : Nat) (c : UInt8) (l : List UInt8) (h : Rd w b (some l)) (hi : c ∉ l.take 21) (hl : l.length ≤ 4611686018427387904) :
    Calls Tryz.prog 67 #[.pointer (some ⟨b, 0, none⟩), .int .u8 c.toNat] w fun e w' => e = .returned (.tuple #[.int .i64 0, .bool false]) ∧ Rd w' b none ∧ w.grownBy w' (some b) := by
  have h0 := h.c0
  have h1 := h.c1
  simp only [Option.getD_some] at h0
  have hx := Lib.hid (index_k l c (-1) (index_none hi))
  go_enter Tryz.func67, Tryz.ntmps67
  go_wp2
  refine wp_scope_forward 0 rfl ?_
  go_wp2_with (first | (go_at_call 32; refine (Bad_at w b false h1).mono ?_; rintro e w' ⟨rfl, rfl⟩))
  go_quiet ((go_at_call 91; exact Calls.quiet_of_same (hx.out _)))
  go_wp2
  refine wp_goto (And.intro rfl ?_)
  unfold After
  have hr : Rd (w.drewN nq) b (some l) := h
  go_wp2_with (go_at_call 93; refine (fail_at _ b _ hr).mono ?_; rintro e w' ⟨rfl, hr, hg⟩)
  rw [Exit.noGoto_ret]
  go_ret2
  exact ⟨rfl, hr, (grown_drewN w nq _).trans hg⟩


theorem index_form {c : UInt8} {f t : List UInt8} (hc : c ∉ f) (hf : f.length ≤ 20) : Lib.indexByte ((f ++ c :: t).take 21) c = f.length := by
  rw [List.take_append, List.take_of_length_le (by omega)]
  obtain ⟨k, hk⟩ : ∃ k, 21 - f.length = k + 1 := ⟨20 - f.length, by omega⟩
  rw [hk, List.take_succ_cons]
  exact index_at hc

set_option maxHeartbeats 400000 in
set_option maxRecDepth 100000 in
theorem number_err (w : World) (hb : Base w) (b : Nat) (c : UInt8) (f t : List UInt8) (h : Rd w b (some (f ++ c :: t))) (hc : c ∉ f) (hf : f.length ≤ 20) (hl : (f ++ c :: t).length ≤ 4611686018427387904)
    (v : Int) (hat : ∀ w, Base w → Calls Tryz.prog 92 #[.string ⟨f.toArray⟩] w fun e w' => ∃ N, e = .returned (.tuple #[.int .i64 v, .iface 148 (.pointer (some ⟨N, 0, none⟩))]) ∧ w.grownBy w' none) :
    Calls Tryz.prog 67 #[.pointer (some ⟨b, 0, none⟩), .int .u8 c.toNat] w fun e w' => e = .returned (.tuple #[.int .i64 0, .bool false]) ∧ Rd w' b none ∧ w.grownBy w' (some b) := by
  have hin : Lib.indexByte ((f ++ c :: t).take 21) c = f.length := by
    rw [List.take_append, List.take_of_length_le (by omega)]
    obtain ⟨k, hk⟩ : ∃ k, 21 - f.length = k + 1 := ⟨20 - f.length, by omega⟩
    rw [hk, List.take_succ_cons]
    exact index_at hc
  have htk : List.take f.length (f ++ c :: t) = f := by simp
  generalize hL : f ++ c :: t = L at *
  have h0 := h.c0
  have h1 := h.c1
  simp only [Option.getD_some] at h0
  have hx := Lib.hid (index_k L c _ hin)
  have hle : f.length ≤ L.length := by rw [← hL]; simp
  have hL' := Lib.hid hL
  clear hL hin
  have hat' := Lib.hid hat
  clear hat
  have hb' := Lib.hid hb
  go_enter Tryz.func67, Tryz.ntmps67
  go_wp2
  refine wp_scope_forward 0 rfl ?_
  go_wp2_with (first | (go_at_call 32; refine (Bad_at w b false h1).mono ?_; rintro e w' ⟨rfl, rfl⟩))
  go_quiet ((go_at_call 91; exact Calls.quiet_of_same (hx.out _)))
  have hbq : Base (w.drewN nq) := hb'.out.none_ (grown_drewN w nq none)
  go_wp2_with (go_at_call 92; refine (hat'.out _ hbq).mono ?_; rintro e w' ⟨N, rfl, hg⟩)
  refine wp_goto (And.intro rfl ?_)
  unfold After
  have hr : Rd w' b (some L) := Rd.grown (w := w.drewN nq) h hg (by simp)
  go_wp2_with (go_at_call 93; refine (fail_at _ b _ hr).mono ?_; rintro e w'' ⟨rfl, hr, hg'⟩)
  rw [Exit.noGoto_ret]
  go_ret2
  exact ⟨rfl, hr, (grown_drewN w nq _).trans ((hg.but _).trans hg')⟩

set_option maxHeartbeats 400000 in
set_option maxRecDepth 100000 in
theorem number_other (w : World) (hb : Base w) (b : Nat) (c : UInt8) (f t : List UInt8) (h : Rd w b (some (f ++ c :: t))) (hc : c ∉ f) (hf : f.length ≤ 20) (hl : (f ++ c :: t).length ≤ 4611686018427387904)
    (v : Int) (hv : I64 v) (hne : Lib.itoa v ≠ f) (hat : ∀ w, Base w → Calls Tryz.prog 92 #[.string ⟨f.toArray⟩] w fun e w' => e = .returned (.tuple #[.int .i64 v, .nilIface]) ∧ w.grownBy w' none) :
    Calls Tryz.prog 67 #[.pointer (some ⟨b, 0, none⟩), .int .u8 c.toNat] w fun e w' => e = .returned (.tuple #[.int .i64 0, .bool false]) ∧ Rd w' b none ∧ w.grownBy w' (some b) := by
  have hne1 : (Lib.itoa v == f) = false := by simpa using hne
  have hin : Lib.indexByte ((f ++ c :: t).take 21) c = f.length := index_form hc hf
  have htk : List.take f.length (f ++ c :: t) = f := by simp
  have hdr : List.drop (f.length + 1) (f ++ c :: t) = t := by rw [List.drop_append]; simp
  have hle : f.length + 1 ≤ (f ++ c :: t).length := by simp
  generalize hL : f ++ c :: t = L at *
  have h0 := h.c0
  have h1 := h.c1
  simp only [Option.getD_some] at h0
  have hx := Lib.hid (index_k L c _ hin)
  have hL' := Lib.hid hL
  clear hL hin
  have hat' := Lib.hid hat
  clear hat
  have hb' := Lib.hid hb
  have hv' := Lib.hid hv
  have hne' := Lib.hid hne
  clear hne
  go_enter Tryz.func67, Tryz.ntmps67
  go_wp2
  refine wp_scope_forward 0 rfl ?_
  go_wp2_with (first | (go_at_call 32; refine (Bad_at w b false h1).mono ?_; rintro e w' ⟨rfl, rfl⟩))
  go_quiet ((go_at_call 91; exact Calls.quiet_of_same (hx.out _)))
  have hbq : Base (w.drewN nq) := hb'.out.none_ (grown_drewN w nq none)
  go_wp2_with (first
    | (go_at_call 92; refine (hat'.out _ hbq).mono ?_; rintro e w' ⟨rfl, hg⟩; have hb1 := hbq.none_ hg)
    | (go_at_call 64; refine (itoa_k v hv'.out _ hb1).mono ?_; rintro e w2 ⟨rfl, hg2⟩))
  refine wp_goto (And.intro rfl ?_)
  unfold After
  have hr : Rd w2 b (some L) := Rd.grown (Rd.grown (w := w.drewN nq) h hg (by simp)) hg2 (by simp)
  go_wp2_with (go_at_call 93; refine (fail_at _ b _ hr).mono ?_; rintro e w'' ⟨rfl, hr, hg'⟩)
  rw [Exit.noGoto_ret]
  go_ret2
  exact ⟨rfl, hr, (grown_drewN w nq _).trans ((hg.but _).trans ((hg2.but _).trans hg'))⟩

set_option maxHeartbeats 400000 in
set_option maxRecDepth 100000 in
theorem number_ok (w : World) (hb : Base w) (b : Nat) (c : UInt8) (f t : List UInt8) (h : Rd w b (some (f ++ c :: t))) (hc : c ∉ f) (hf : f.length ≤ 20) (hl : (f ++ c :: t).length ≤ 4611686018427387904)
    (v : Int) (hv : I64 v) (he : Lib.itoa v = f) (hat : ∀ w, Base w → Calls Tryz.prog 92 #[.string ⟨f.toArray⟩] w fun e w' => e = .returned (.tuple #[.int .i64 v, .nilIface]) ∧ w.grownBy w' none) :
    Calls Tryz.prog 67 #[.pointer (some ⟨b, 0, none⟩), .int .u8 c.toNat] w fun e w' => e = .returned (.tuple #[.int .i64 v, .bool true]) ∧ Rd w' b (some t) ∧ w.grownBy w' (some b) := by
  have hin : Lib.indexByte ((f ++ c :: t).take 21) c = f.length := index_form hc hf
  have htk : List.take f.length (f ++ c :: t) = f := by simp
  have hdr : List.drop (f.length + 1) (f ++ c :: t) = t := by rw [List.drop_append]; simp
  have hle : f.length + 1 ≤ (f ++ c :: t).length := by simp
  generalize hL : f ++ c :: t = L at *
  have h0 := h.c0
  have h1 := h.c1
  simp only [Option.getD_some] at h0
  have hx := Lib.hid (index_k L c _ hin)
  have hL' := Lib.hid hL
  clear hL hin
  have hat' := Lib.hid hat
  clear hat
  have hb' := Lib.hid hb
  have hv' := Lib.hid hv
  have hi : ∀ w, Base w → Calls Tryz.prog 64 #[.int .i64 v] w fun e w' => e = .returned (.string ⟨f.toArray⟩) ∧ w.grownBy w' none := by
    intro w hb
    have := itoa_k v hv w hb
    rw [he] at this
    exact this
  have hi' := Lib.hid hi
  clear hi he
  go_enter Tryz.func67, Tryz.ntmps67
  go_wp2
  refine wp_scope_forward 0 rfl ?_
  go_wp2_with (first | (go_at_call 32; refine (Bad_at w b false h1).mono ?_; rintro e w' ⟨rfl, rfl⟩))
  go_quiet ((go_at_call 91; exact Calls.quiet_of_same (hx.out _)))
  have hbq : Base (w.drewN nq) := hb'.out.none_ (grown_drewN w nq none)
  go_wp2_with (first
    | (go_at_call 92; refine (hat'.out _ hbq).mono ?_; rintro e w' ⟨rfl, hg⟩; have hb1 := hbq.none_ hg)
    | (go_at_call 64; refine (hi'.out _ hb1).mono ?_; rintro e w2 ⟨rfl, hg2⟩; have hr2 : Rd w2 b (some L) := Rd.grown (Rd.grown (w := w.drewN nq) h hg (by simp)) hg2 (by simp); have h02 := hr2.c0; have f02 := hr2.fz 0; simp only [Option.getD_some] at h02))
  simp only [Exit.jump]
  go_ret2
  exact ⟨rfl, hr2.set0 t, (grown_drewN w nq _).trans ((hg.but _).trans ((hg2.but _).trans (grown_setCell _ _ _ _)))⟩

/-- strconv.Atoi, the three ways -/
theorem atoi_ok (f : List UInt8) (hf : f.length ≤ 20) (v : Int) (h : Lib.atoiAll f = .ok v) (w : World) (_ : Base w) :
    Calls Tryz.prog 92 #[.string ⟨f.toArray⟩] w fun e w' => e = .returned (.tuple #[.int .i64 v, .nilIface]) ∧ w.grownBy w' none :=
  (Tryz.strconv_Atoi_ok ⟨f.toArray⟩ (by show f.toArray.size ≤ _; simp; omega) v (by simpa using h) w).mono fun _ _ ⟨he, hw⟩ => ⟨he, by
    rcases hw with rfl | ⟨t, rfl⟩
    · exact World.grownBy.refl _ _
    · exact grown_of_below (Lib.bytesWorld_below _ _ _)⟩
theorem atoi_other (f : List UInt8) (hf : f.length ≤ 20) (h1 : ∀ v, Lib.atoiAll f ≠ .ok v) (h2 : Lib.atoiAll f ≠ .range) (w : World) (hb : Base w) :
    Calls Tryz.prog 92 #[.string ⟨f.toArray⟩] w fun e w' => ∃ N, e = .returned (.tuple #[.int .i64 0, .iface 148 (.pointer (some ⟨N, 0, none⟩))]) ∧ w.grownBy w' none := by
  obtain ⟨t, p, hc⟩ := hb.syn
  cases hx : Lib.atoiAll f with
  | ok v => exact absurd hx (h1 v)
  | range => exact absurd hx h2
  | _ =>
    exact (Any.strconv_Atoi_syntax Tryz.laysC172 ⟨f.toArray⟩ (by show f.toArray.size ≤ _; simp; omega) (by simpa using hx) _ w hc (.inr ⟨t, p, rfl⟩)).mono fun _ _ ⟨N, he, _, _, hw⟩ => ⟨N, he, grown_of_below hw⟩
theorem atoi_range (f : List UInt8) (hf : f.length ≤ 20) (h : Lib.atoiAll f = .range) (w : World) (hb : Base w) :
    Calls Tryz.prog 92 #[.string ⟨f.toArray⟩] w fun e w' => ∃ N, e = .returned (.tuple #[.int .i64 (Lib.atoiSat f), .iface 148 (.pointer (some ⟨N, 0, none⟩))]) ∧ w.grownBy w' none := by
  obtain ⟨t, p, hc⟩ := hb.ran
  exact (Tryz.strconv_Atoi_range ⟨f.toArray⟩ (by show f.toArray.size ≤ _; simp; omega) (by simpa using h) _ w hc (.inr ⟨t, p, rfl⟩)).mono fun _ _ ⟨N, he, _, _, hw⟩ => ⟨N, by simpa using he, grown_of_below hw⟩

/-- (*wire.Reader).number -/
theorem number_k (w : World) (hb : Base w) (b : Nat) (c : UInt8) (hc : 58 ≤ c.toNat) (st : Option (List UInt8)) (h : Rd w b st) (hl : ∀ l, st = some l → l.length ≤ 4611686018427387904) :
    Calls Tryz.prog 67 #[.pointer (some ⟨b, 0, none⟩), .int .u8 c.toNat] w fun e w' => e = .returned (.tuple #[.int .i64 (valOf (numP c) st), .bool (restOf (numP c) st).isSome]) ∧ Rd w' b (restOf (numP c) st) ∧ w.grownBy w' (some b) := by
  cases st with
  | none => exact number_bad w b _ h
  | some l =>
    have hl := hl l rfl
    cases hn : numP c l with
    | some r =>
      obtain ⟨n, t⟩ := r
      obtain ⟨hi, rfl⟩ := (numP_iff hc _ _ _).1 hn
      have := number_ok w hb b c (Lib.itoa n) t h (itoa_no hc) (itoa_len hi) hl n hi rfl (fun w hb => atoi_ok _ (itoa_len hi) n (atoi_itoa n hi) w hb)
      simpa [valOf, restOf, hn] using this
    | none =>
      have hN : valOf (numP c) (some l) = 0 := by simp [valOf, hn]
      have hR : restOf (numP c) (some l) = none := by simp [restOf, hn]
      rw [hN, hR]
      by_cases hm : c ∈ l.take 21
      · cases hcut : cutAt c l with
        | none => exact absurd (List.mem_of_mem_take hm) ((cutAt_none c l).1 hcut)
        | some r =>
          obtain ⟨f, t⟩ := r
          obtain ⟨rfl, hcf⟩ := (cutAt_iff c l f t).1 hcut
          have hf : f.length ≤ 20 := by
            rcases Nat.lt_or_ge 20 f.length with h20 | h20
            · rw [List.take_append_of_le_length (by omega)] at hm
              exact absurd (List.mem_of_mem_take hm) hcf
            · exact h20
          cases hat : Lib.atoiAll f with
          | ok v =>
            have hv := atoi_range' hat
            refine number_other w hb b c f t h hcf hf hl v hv ?_ (fun w hb => atoi_ok f hf v hat w hb)
            intro he
            unfold numP at hn
            rw [hcut] at hn
            simp [hat, he] at hn
          | range => exact number_err w hb b c f t h hcf hf hl _ (fun w hb => atoi_range f hf hat w hb)
          | _ => exact number_err w hb b c f t h hcf hf hl _ (fun w hb => atoi_other f hf (fun v e => by rw [hat] at e; cases e) (fun e => by rw [hat] at e; cases e) w hb)
      · exact number_none w b c l h hm hl
end Go.Proofs.YtnkemoicgadefaaGreatDoor.Wire
namespace Go.Proofs.YtnkemoicgadefaaGreatDoor.Wire
open Go.RowKit
attribute [local go_sem] get_mk extract_mk

set_option maxHeartbeats 400000 in
theorem int_nil (w : World) : Calls Tryz.prog 31 #[.pointer none] w fun e w' => e = .returned (.int .i64 0) ∧ w = w' := by
  go_enter Tryz.func31, Tryz.ntmps31
  go_wp2_with (go_at_call 67; refine (number_nil w _).mono ?_; rintro e w' ⟨rfl, rfl⟩)
  go_ret
  exact ⟨rfl, rfl⟩
set_option maxHeartbeats 400000 in
theorem int_k (w : World) (hb : Base w) (b : Nat) (st : Option (List UInt8)) (h : Rd w b st) (hl : ∀ l, st = some l → l.length ≤ 4611686018427387904) :
    Calls Tryz.prog 31 #[.pointer (some ⟨b, 0, none⟩)] w fun e w' => e = .returned (.int .i64 (valOf intP st)) ∧ Rd w' b (restOf intP st) ∧ w.grownBy w' (some b) := by
  have hk := Lib.hid (number_k w hb b 59 (by decide) st h hl)
  clear hl
  go_enter Tryz.func31, Tryz.ntmps31
  go_wp2_with (go_at_call 67; refine hk.out.mono ?_; rintro e w' ⟨rfl, hr, hg⟩)
  go_ret
  exact ⟨rfl, hr, hg⟩

set_option maxHeartbeats 400000 in
theorem text_nil (w : World) : Calls Tryz.prog 68 #[.pointer none] w fun e w' => e = .returned (.string ⟨#[]⟩) ∧ w = w' := by
  go_enter Tryz.func68, Tryz.ntmps68
  go_wp2
  refine wp_scope_forward 0 rfl ?_
  go_wp2_with (go_at_call 67; refine (number_nil w _).mono ?_; rintro e w' ⟨rfl, rfl⟩)
  refine wp_goto (And.intro rfl ?_)
  unfold After
  go_wp2_with (go_at_call 93; refine (fail_nil w).mono ?_; rintro e w' ⟨rfl, rfl⟩)
  rw [Exit.noGoto_ret]
  go_ret
  exact ⟨rfl, rfl⟩

set_option maxHeartbeats 400000 in
theorem text_bad (w : World) (b : Nat) (n : Int) (hk : Calls Tryz.prog 67 #[.pointer (some ⟨b, 0, none⟩), .int .u8 58] w fun e w' => e = .returned (.tuple #[.int .i64 n, .bool false]) ∧ Rd w' b none ∧ w.grownBy w' (some b)) :
    Calls Tryz.prog 68 #[.pointer (some ⟨b, 0, none⟩)] w fun e w' => e = .returned (.string ⟨#[]⟩) ∧ Rd w' b none ∧ w.grownBy w' (some b) := by
  have hk' := Lib.hid hk
  clear hk
  go_enter Tryz.func68, Tryz.ntmps68
  go_wp2
  refine wp_scope_forward 0 rfl ?_
  go_wp2_with (go_at_call 67; refine hk'.out.mono ?_; rintro e w' ⟨rfl, hr, hg⟩)
  refine wp_goto (And.intro rfl ?_)
  unfold After
  go_wp2_with (go_at_call 93; refine (fail_at _ b _ hr).mono ?_; rintro e w'' ⟨rfl, hr, hg'⟩)
  rw [Exit.noGoto_ret]
  go_ret
  exact ⟨rfl, hr, hg.trans hg'⟩

set_option maxHeartbeats 400000 in
theorem text_neg (w : World) (b : Nat) (n : Int) (t : List UInt8) (hn : n < 0) (hk : Calls Tryz.prog 67 #[.pointer (some ⟨b, 0, none⟩), .int .u8 58] w fun e w' => e = .returned (.tuple #[.int .i64 n, .bool true]) ∧ Rd w' b (some t) ∧ w.grownBy w' (some b)) :
    Calls Tryz.prog 68 #[.pointer (some ⟨b, 0, none⟩)] w fun e w' => e = .returned (.string ⟨#[]⟩) ∧ Rd w' b none ∧ w.grownBy w' (some b) := by
  have hk' := Lib.hid hk
  clear hk
  have hd : decide (n < 0) = true := by simpa using hn
  go_enter Tryz.func68, Tryz.ntmps68
  go_wp2
  refine wp_scope_forward 0 rfl ?_
  go_wp2_with (go_at_call 67; refine hk'.out.mono ?_; rintro e w' ⟨rfl, hr, hg⟩)
  refine wp_goto (And.intro rfl ?_)
  unfold After
  go_wp2_with (go_at_call 93; refine (fail_at _ b _ hr).mono ?_; rintro e w'' ⟨rfl, hr, hg'⟩)
  rw [Exit.noGoto_ret]
  go_ret
  exact ⟨rfl, hr, hg.trans hg'⟩

set_option maxHeartbeats 400000 in
theorem text_long (w : World) (b : Nat) (n : Nat) (t : List UInt8) (hn : t.length < n) (hk : Calls Tryz.prog 67 #[.pointer (some ⟨b, 0, none⟩), .int .u8 58] w fun e w' => e = .returned (.tuple #[.int .i64 n, .bool true]) ∧ Rd w' b (some t) ∧ w.grownBy w' (some b)) :
    Calls Tryz.prog 68 #[.pointer (some ⟨b, 0, none⟩)] w fun e w' => e = .returned (.string ⟨#[]⟩) ∧ Rd w' b none ∧ w.grownBy w' (some b) := by
  have hk' := Lib.hid hk
  clear hk
  have hd : decide ((n : Int) < 0) = false := by simp
  have hd2 : decide (t.length < n) = true := by simpa using hn
  go_enter Tryz.func68, Tryz.ntmps68
  go_wp2
  refine wp_scope_forward 0 rfl ?_
  go_wp2_with (go_at_call 67; refine hk'.out.mono ?_; rintro e w' ⟨rfl, hr, hg⟩; have h02 := hr.c0; simp only [Option.getD_some] at h02)
  refine wp_goto (And.intro rfl ?_)
  unfold After
  go_wp2_with (go_at_call 93; refine (fail_at _ b _ hr).mono ?_; rintro e w'' ⟨rfl, hr, hg'⟩)
  rw [Exit.noGoto_ret]
  go_ret
  exact ⟨rfl, hr, hg.trans hg'⟩

set_option maxHeartbeats 400000 in
theorem text_ok (w : World) (b : Nat) (n : Nat) (t : List UInt8) (hn : n ≤ t.length) (hk : Calls Tryz.prog 67 #[.pointer (some ⟨b, 0, none⟩), .int .u8 58] w fun e w' => e = .returned (.tuple #[.int .i64 n, .bool true]) ∧ Rd w' b (some t) ∧ w.grownBy w' (some b)) :
    Calls Tryz.prog 68 #[.pointer (some ⟨b, 0, none⟩)] w fun e w' => e = .returned (.string ⟨(t.take n).toArray⟩) ∧ Rd w' b (some (t.drop n)) ∧ w.grownBy w' (some b) := by
  have hk' := Lib.hid hk
  clear hk
  have hd : decide ((n : Int) < 0) = false := by simp
  have hd2 : decide (t.length < n) = false := by simpa using hn
  go_enter Tryz.func68, Tryz.ntmps68
  go_wp2
  refine wp_scope_forward 0 rfl ?_
  go_wp2_with (go_at_call 67; refine hk'.out.mono ?_; rintro e w' ⟨rfl, hr, hg⟩; have h02 := hr.c0; have f02 := hr.fz 0; simp only [Option.getD_some] at h02)
  go_region
  go_wp2
  simp only [Exit.jump]
  go_ret
  exact ⟨rfl, hr.set0 _, hg.trans ((grown_setCell _ _ _ _).trans (grown_drewN _ 1 _))⟩

theorem dflt : (default : List UInt8) = [] := rfl
theorem text_k (w : World) (hb : Base w) (b : Nat) (st : Option (List UInt8)) (h : Rd w b st) (hl : ∀ l, st = some l → l.length ≤ 4611686018427387904) :
    Calls Tryz.prog 68 #[.pointer (some ⟨b, 0, none⟩)] w fun e w' => e = .returned (.string ⟨(valOf textP st).toArray⟩) ∧ Rd w' b (restOf textP st) ∧ w.grownBy w' (some b) := by
  have hk := number_k w hb b 58 (by decide) st h hl
  cases hn : st.bind (numP 58) with
  | none =>
    have h1 : restOf (numP 58) st = none := by simp [restOf, hn]
    rw [h1] at hk
    have h2 : st.bind textP = none := by
      cases st with
      | none => rfl
      | some l => simp only [Option.bind_some] at hn ⊢; simp [textP, hn]
    simpa [valOf, restOf, h2, dflt] using text_bad w b _ hk
  | some r =>
    obtain ⟨n, t⟩ := r
    have h1 : restOf (numP 58) st = some t := by simp [restOf, hn]
    have h0 : valOf (numP 58) st = n := by simp [valOf, hn]
    rw [h1, h0] at hk
    have h2 : st.bind textP = if 0 ≤ n ∧ n ≤ t.length then some (t.take n.toNat, t.drop n.toNat) else none := by
      cases st with
      | none => simp at hn
      | some l => simp only [Option.bind_some] at hn ⊢; simp [textP, hn]
    by_cases hneg : n < 0
    · rw [if_neg (by omega)] at h2
      simpa [valOf, restOf, h2, dflt] using text_neg w b n t hneg hk
    · obtain ⟨m, rfl⟩ := Int.eq_ofNat_of_zero_le (Int.not_lt.1 hneg)
      by_cases hlong : t.length < m
      · rw [if_neg (by omega)] at h2
        simpa [valOf, restOf, h2, dflt] using text_long w b m t hlong hk
      · rw [if_pos (by omega)] at h2
        simpa [valOf, restOf, h2, dflt] using text_ok w b m t (by omega) hk

end Go.Proofs.YtnkemoicgadefaaGreatDoor.Wire
namespace Go.Proofs.YtnkemoicgadefaaGreatDoor.Wire
open Go.RowKit
attribute [local go_sem] get_mk extract_mk

theorem skip_f (w : World) (b : Nat) (k : Int) (c : UInt8) (hk : k = c.toNat) (st : Option (List UInt8)) (h : Rd w b st) (hne : ∀ l, st ≠ some (c :: l)) :
    Calls Tryz.prog 112 #[.pointer (some ⟨b, 0, none⟩), .int .u8 k] w fun e w' => e = .returned (.bool false) ∧ w = w' := by
  cases st with
  | none => exact skip_bad w b k h
  | some l =>
    cases l with
    | nil => exact skip_empty w b k h
    | cons x l =>
      refine skip_no w b k x l ?_ h
      rw [bne_iff_ne]
      intro e
      have : x = c := UInt8.toNat_inj.1 (by omega)
      subst this
      exact hne l rfl
theorem skip_t (w : World) (b : Nat) (k : Int) (c : UInt8) (hk : k = c.toNat) (l : List UInt8) (h : Rd w b (some (c :: l))) :
    Calls Tryz.prog 112 #[.pointer (some ⟨b, 0, none⟩), .int .u8 k] w fun e w' => e = .returned (.bool true) ∧ Rd w' b (some l) ∧ w.grownBy w' (some b) :=
  skip_yes w b k c l (by rw [hk]; simp) h

set_option maxHeartbeats 400000 in
theorem ielems_no (w : World) (b : Nat) (v : Value) (st : Option (List UInt8)) (h : Rd w b st) (hne : ∀ l, st ≠ some (91 :: l)) :
    Calls Tryz.prog 94 #[.pointer (some ⟨b, 0, none⟩), v] w fun e w' => e = .returned (.slice none 0 0) ∧ Rd w' b none ∧ w.grownBy w' (some b) := by
  have hk := Lib.hid (skip_f w b 91 91 rfl st h hne)
  clear hne
  go_enter Tryz.func94, Tryz.ntmps94
  go_wp2_with fail
  refine wp_scope_forward 0 rfl ?_
  go_wp2_with (go_at_call 112; refine hk.out.mono ?_; rintro e w' ⟨rfl, rfl⟩)
  refine wp_goto (And.intro rfl ?_)
  unfold After
  go_wp2_with (go_at_call 93; refine (fail_at _ b _ h).mono ?_; rintro e w'' ⟨rfl, hr, hg'⟩)
  rw [Exit.noGoto_ret]
  go_ret
  exact ⟨rfl, hr, hg'⟩

section
variable {α : Type} (p : List UInt8 → Option (α × List UInt8))
/-- what holds of a list under way: the whole, from what has been decoded and what is left -/
def Way (R : Option (List α × List UInt8)) (g : Nat) (l : List α) (r : List UInt8) : Prop :=
  R = match elemsP p g r with | some (l', t) => some (l ++ l', t) | none => none

theorem way_start (s : List UInt8) (k : Nat) : Way p (elemsP p k s) k [] s := by
  unfold Way
  cases elemsP p k s with
  | none => rfl
  | some x => rfl
theorem way_end {R : Option (List α × List UInt8)} {g : Nat} {l : List α} {r : List UInt8} (h : Way p R (g + 1) l (93 :: r)) : R = some (l, r) := by
  unfold Way at h
  rw [h]
  simp [elemsP]
theorem way_bad {R : Option (List α × List UInt8)} {g : Nat} {l : List α} {r : List UInt8} (h : Way p R (g + 1) l r) (h93 : ∀ t, r ≠ 93 :: t) (hp : p r = none) : R = none := by
  unfold Way at h
  rw [h]
  have hh : ¬ r.head? = some 93 := by
    cases r with
    | nil => simp
    | cons c t => intro e; simp at e; subst e; exact h93 t rfl
  simp [elemsP, hp, hh]
theorem way_next {R : Option (List α × List UInt8)} {g : Nat} {l : List α} {r t : List UInt8} {v : α} (h : Way p R (g + 1) l r) (h93 : ∀ t, r ≠ 93 :: t) (hp : p r = some (v, t)) : Way p R g (l ++ [v]) t := by
  unfold Way at h ⊢
  rw [h]
  have hh : ¬ r.head? = some 93 := by
    cases r with
    | nil => simp
    | cons c t => intro e; simp at e; subst e; exact h93 t rfl
  simp only [elemsP, hp]
  rw [if_neg hh]
  cases elemsP p g t with
  | none => rfl
  | some x => obtain ⟨a, u⟩ := x; simp
end

theorem dflt' {α : Type} : (default : List α) = [] := rfl
theorem int_info : (Tryz.prog.info? 3).map (fun i => (i.zero, i.size, i.bytes)) = some (some (.int .i64 0), 1, 8) := by kernel_rfl

/-- what holds at the head of each round -/
def IRel (w : World) (b : Nat) (s : List UInt8) (R : Option (List Int × List UInt8)) (g : Nat) (out : Value) (wr : World) : Prop :=
  ∃ (l : List Int) (r : List UInt8), wr.ownsRow w.heap.size 3 1 out l.length (l.map (Value.int .i64)) ∧ Rd wr b (some r) ∧ w.grownBy wr (some b) ∧ r.length < g ∧ l.length + r.length ≤ s.length ∧ Way intP R g l r

theorem serI_ne (n : Int) : 1 ≤ (serI n).length := by unfold serI; simp

theorem own_kept {w a c : World} {b e size n : Nat} {v : Value} {xs : List Value} (h : a.ownsRow w.heap.size e size v n xs) (hg : a.grownBy c (some b)) (hb : b < w.heap.size) : c.ownsRow w.heap.size e size v n xs := by
  refine h.kept hg ?_
  cases hv : v.ownBlock with
  | none => exact .inl rfl
  | some k =>
    refine .inr fun e => ?_
    injection e with e
    have := (h.lt k hv).1
    omega

theorem cell_one (w : World) (x : Value) (t : TypeId) : ∀ (j : Nat) (u : Value), [x][j]? = some u → (w.alloc (.cells #[x] t)).cell? ((⟨w.heap.size, 0, none⟩ : Addr).add j) = some u := by
  intro j u hj
  cases j with
  | zero =>
    simp at hj
    subst hj
    simp [Addr.add]
  | succ j => simp at hj
theorem one_cell {x : Value} (h : x.oneCell' = true) : ∀ u ∈ [x], u.oneCell' = true := by
  intro u hu
  rw [List.mem_singleton] at hu
  rw [hu]
  exact h
theorem grown_own {w a c : World} {b e size n : Nat} {v : Value} {xs : List Value} (hg : w.grownBy a (some b)) (h : a.ownsRow w.heap.size e size v n xs) (o : Obj) (hc : (a.alloc o).grownBy c v.ownBlock) : w.grownBy c (some b) :=
  (hg.trans (World.grownBy_alloc a o (some b))).andThen hc (fun j hj => .inl (h.lt j hj).1)
theorem rd_own {w a c : World} {b e size n : Nat} {v : Value} {xs : List Value} {st : Option (List UInt8)} (hr : Rd a b st) (h : a.ownsRow w.heap.size e size v n xs) (hb : b < w.heap.size) (o : Obj) (hc : (a.alloc o).grownBy c v.ownBlock) : Rd c b st :=
  (hr.grown (World.grownBy_alloc a o none) (by simp)).grown hc (fun e => by
    have := (h.lt b e.symm).1
    omega)

set_option maxRecDepth 100000 in
set_option maxHeartbeats 1000000 in
theorem ielems_go (w : World) (hb : Base w) (b : Nat) (hb6 : 6 ≤ b) (s : List UInt8) (h : Rd w b (some (91 :: s))) (hl : s.length < 1000000) :
    Calls Tryz.prog 94 #[.pointer (some ⟨b, 0, none⟩), .func (.func 31) #[.pointer (some ⟨b, 0, none⟩)] #[]] w fun e w' => ∃ v, e = .returned v ∧
      w'.ownsRow w.heap.size 3 1 v (valOf (listP intP) (some (91 :: s))).length ((valOf (listP intP) (some (91 :: s))).map (.int .i64)) ∧ Rd w' b (restOf (listP intP) (some (91 :: s))) ∧ w.grownBy w' (some b) := by
  have hk := Lib.hid (skip_t w b 91 91 rfl s h)
  have hb' := Lib.hid hb
  obtain ⟨i0, hi0, hz0, hz1, hz2⟩ := info_parts int_info
  have hbw := h.lt
  generalize hR : listP intP (91 :: s) = R
  have hst : Way intP R (s.length + 1) [] s := by
    rw [← hR]
    exact way_start intP s _
  have Hst := Lib.hid hst
  have HR := Lib.hid hR
  clear hst hR
  go_enter Tryz.func94, Tryz.ntmps94
  go_wp2_with fail
  refine wp_scope_forward 0 rfl ?_
  go_wp2_with (go_at_call 112; refine hk.out.mono ?_; rintro e w1 ⟨rfl, hr1, hg1⟩)
  go_loopg [5] (s.length + 1) (fun g out wr => IRel w b s R g out wr)
  case atStart => exact ⟨[], s, World.ownsRow_nil _ _ _ _, hr1, hg1, by omega, by simp, Hst.out⟩
  case round =>
    obtain ⟨l, r, hown, hr, hg, hlt, hlen, hway⟩ := hrel
    obtain ⟨g, rfl⟩ : ∃ g, gk = g + 1 := ⟨gk - 1, by omega⟩
    have Hway := Lib.hid hway
    clear hway
    by_cases h93 : ∃ t, r = 93 :: t
    · obtain ⟨t, rfl⟩ := h93
      have hs := Lib.hid (skip_t wr b 93 93 rfl t hr)
      go_wp2_with (go_at_call 112; refine hs.out.mono ?_; rintro e w2 ⟨rfl, hr2, hg2⟩)
      simp only [Exit.jump]
      go_ret
      have hR := HR.out
      rw [way_end intP Hway.out] at hR
      have e1 : valOf (listP intP) (some (91 :: s)) = l := by simp [valOf, hR]
      have e2 : restOf (listP intP) (some (91 :: s)) = some t := by simp [restOf, hR]
      rw [e1, e2]
      exact ⟨_, rfl, own_kept hown hg2 hbw, hr2, hg.trans hg2⟩
    · have h93' : ∀ t, r ≠ 93 :: t := fun t e => h93 ⟨t, e⟩
      have hs := Lib.hid (skip_f wr b 93 93 rfl (some r) hr (fun l e => h93' l (Option.some.inj e)))
      have hbr : Base wr := hb'.out.grown hg (fun k hk => by injection hk with hk; omega)
      have hn := Lib.hid (int_k wr hbr b (some r) hr (fun l e => by injection e with e; subst e; omega))
      have H93 := Lib.hid h93'
      clear h93 h93'
      cases hp : intP r with
      | none =>
        have e1 : restOf intP (some r) = none := by simp [restOf, hp]
        rw [e1] at hn
        have hp' := Lib.hid hp
        clear hp e1
        go_wp2_with (first
          | (go_at_call 112; refine hs.out.mono ?_; rintro e w2 ⟨rfl, rfl⟩)
          | (go_at_call 31; refine hn.out.mono ?_; rintro e w3 ⟨rfl, hr3, hg3⟩; have c3 := hr3.c1)
          | (go_at_call 32; refine (Bad_at w3 b true c3).mono ?_; rintro e w4 ⟨rfl, rfl⟩))
        refine wp_goto (And.intro rfl ?_)
        unfold After
        go_wp2_with (go_at_call 93; refine (fail_at _ b _ hr3).mono ?_; rintro e w'' ⟨rfl, hr, hg'⟩)
        rw [Exit.noGoto_ret]
        go_ret
        have hR := HR.out
        rw [way_bad intP Hway.out H93.out hp'.out] at hR
        have e1 : valOf (listP intP) (some (91 :: s)) = [] := by simp [valOf, hR, dflt']
        have e2 : restOf (listP intP) (some (91 :: s)) = none := by simp [restOf, hR]
        rw [e1, e2]
        exact ⟨_, rfl, World.ownsRow_nil _ _ _ _, hr, hg.trans (hg3.trans hg')⟩
      | some x =>
        obtain ⟨v, t⟩ := x
        have e1 : restOf intP (some r) = some t := by simp [restOf, hp]
        have e2 : valOf intP (some r) = v := by simp [valOf, hp]
        rw [e1, e2] at hn
        have hp' := Lib.hid hp
        clear hp e1 e2
        go_wp2_with (first
          | (go_at_call 112; refine hs.out.mono ?_; rintro e w2 ⟨rfl, rfl⟩)
          | (go_at_call 31; refine hn.out.mono ?_; rintro e w3 ⟨rfl, hr3, hg3⟩; have c3 := hr3.c1; have hown3 := own_kept hown hg3 hbw)
          | (go_at_call 32; refine (Bad_at w3 b false c3).mono ?_; rintro e w4 ⟨rfl, rfl⟩)
          | (at_builtin; refine wpList_append_own _ rfl _ _ 22 rfl w.heap.size 3 i0 (.int .i64 0) 1 8 Tryz.underlying22 hi0 hz0 hz1 hz2 rfl (by decide) _ _ _ rfl (hown3.alloc _) ⟨w3.heap.size, 0, none⟩ 1 1 [.int .i64 v] rfl rfl (cell_one _ _ _) (one_cell rfl) (by simp only [maxLen]; omega) (by omega) (Nat.le_trans hg.size (Nat.le_trans hg3.size (by simp))) ?_; intro v5 w5 hown5 hgr5 hat5))
        go_roundg g
        case measure => omega
        case rel =>
          refine ⟨l ++ [v], t, ?_, rd_own hr3 hown3 hbw _ hgr5, grown_own (hg.trans hg3) hown3 _ hgr5, ?_, ?_, way_next intP Hway.out H93.out hp'.out⟩
          · simpa using hown5
          · have := ((intP_iff _ _ _).1 hp'.out).2
            have := serI_ne v
            simp_all
            omega
          · have := ((intP_iff _ _ _).1 hp'.out).2
            have := serI_ne v
            simp_all
            omega
end Go.Proofs.YtnkemoicgadefaaGreatDoor.Wire
namespace Go.Proofs.YtnkemoicgadefaaGreatDoor.Wire
open Go.RowKit
attribute [local go_sem] get_mk extract_mk

set_option maxHeartbeats 400000 in
theorem telems_no (w : World) (b : Nat) (v : Value) (st : Option (List UInt8)) (h : Rd w b st) (hne : ∀ l, st ≠ some (91 :: l)) :
    Calls Tryz.prog 95 #[.pointer (some ⟨b, 0, none⟩), v] w fun e w' => e = .returned (.slice none 0 0) ∧ Rd w' b none ∧ w.grownBy w' (some b) := by
  have hk := Lib.hid (skip_f w b 91 91 rfl st h hne)
  clear hne
  go_enter Tryz.func95, Tryz.ntmps95
  go_wp2_with fail
  refine wp_scope_forward 0 rfl ?_
  go_wp2_with (go_at_call 112; refine hk.out.mono ?_; rintro e w' ⟨rfl, rfl⟩)
  refine wp_goto (And.intro rfl ?_)
  unfold After
  go_wp2_with (go_at_call 93; refine (fail_at _ b _ h).mono ?_; rintro e w'' ⟨rfl, hr, hg'⟩)
  rw [Exit.noGoto_ret]
  go_ret
  exact ⟨rfl, hr, hg'⟩

theorem text_info : (Tryz.prog.info? 9).map (fun i => (i.zero, i.size, i.bytes)) = some (some (.string ⟨#[]⟩), 1, 16) := by kernel_rfl

/-- what holds at the head of each round -/
def TRel (w : World) (b : Nat) (s : List UInt8) (R : Option (List (List UInt8) × List UInt8)) (g : Nat) (out : Value) (wr : World) : Prop :=
  ∃ (l : List (List UInt8)) (r : List UInt8), wr.ownsRow w.heap.size 9 1 out l.length (l.map (fun l => Value.string ⟨l.toArray⟩)) ∧ Rd wr b (some r) ∧ w.grownBy wr (some b) ∧ r.length < g ∧ l.length + r.length ≤ s.length ∧ Way textP R g l r

theorem serT_ne (n : List UInt8) : 1 ≤ (serT n).length := by unfold serT; simp; omega

set_option maxRecDepth 100000 in
set_option maxHeartbeats 1000000 in
theorem telems_go (w : World) (hb : Base w) (b : Nat) (hb6 : 6 ≤ b) (s : List UInt8) (h : Rd w b (some (91 :: s))) (hl : s.length < 1000000) :
    Calls Tryz.prog 95 #[.pointer (some ⟨b, 0, none⟩), .func (.func 68) #[.pointer (some ⟨b, 0, none⟩)] #[]] w fun e w' => ∃ v, e = .returned v ∧
      w'.ownsRow w.heap.size 9 1 v (valOf (listP textP) (some (91 :: s))).length ((valOf (listP textP) (some (91 :: s))).map (fun l => .string ⟨l.toArray⟩)) ∧ Rd w' b (restOf (listP textP) (some (91 :: s))) ∧ w.grownBy w' (some b) := by
  have hk := Lib.hid (skip_t w b 91 91 rfl s h)
  have hb' := Lib.hid hb
  obtain ⟨i0, hi0, hz0, hz1, hz2⟩ := info_parts text_info
  have hbw := h.lt
  generalize hR : listP textP (91 :: s) = R
  have hst : Way textP R (s.length + 1) [] s := by
    rw [← hR]
    exact way_start textP s _
  have Hst := Lib.hid hst
  have HR := Lib.hid hR
  clear hst hR
  go_enter Tryz.func95, Tryz.ntmps95
  go_wp2_with fail
  refine wp_scope_forward 0 rfl ?_
  go_wp2_with (go_at_call 112; refine hk.out.mono ?_; rintro e w1 ⟨rfl, hr1, hg1⟩)
  go_loopg [5] (s.length + 1) (fun g out wr => TRel w b s R g out wr)
  case atStart => exact ⟨[], s, World.ownsRow_nil _ _ _ _, hr1, hg1, by omega, by simp, Hst.out⟩
  case round =>
    obtain ⟨l, r, hown, hr, hg, hlt, hlen, hway⟩ := hrel
    obtain ⟨g, rfl⟩ : ∃ g, gk = g + 1 := ⟨gk - 1, by omega⟩
    have Hway := Lib.hid hway
    clear hway
    by_cases h93 : ∃ t, r = 93 :: t
    · obtain ⟨t, rfl⟩ := h93
      have hs := Lib.hid (skip_t wr b 93 93 rfl t hr)
      go_wp2_with (go_at_call 112; refine hs.out.mono ?_; rintro e w2 ⟨rfl, hr2, hg2⟩)
      simp only [Exit.jump]
      go_ret
      have hR := HR.out
      rw [way_end textP Hway.out] at hR
      have e1 : valOf (listP textP) (some (91 :: s)) = l := by simp [valOf, hR]
      have e2 : restOf (listP textP) (some (91 :: s)) = some t := by simp [restOf, hR]
      rw [e1, e2]
      exact ⟨_, rfl, own_kept hown hg2 hbw, hr2, hg.trans hg2⟩
    · have h93' : ∀ t, r ≠ 93 :: t := fun t e => h93 ⟨t, e⟩
      have hs := Lib.hid (skip_f wr b 93 93 rfl (some r) hr (fun l e => h93' l (Option.some.inj e)))
      have hbr : Base wr := hb'.out.grown hg (fun k hk => by injection hk with hk; omega)
      have hn := Lib.hid (text_k wr hbr b (some r) hr (fun l e => by injection e with e; subst e; omega))
      have H93 := Lib.hid h93'
      clear h93 h93'
      cases hp : textP r with
      | none =>
        have e1 : restOf textP (some r) = none := by simp [restOf, hp]
        rw [e1] at hn
        have hp' := Lib.hid hp
        clear hp e1
        go_wp2_with (first
          | (go_at_call 112; refine hs.out.mono ?_; rintro e w2 ⟨rfl, rfl⟩)
          | (go_at_call 68; refine hn.out.mono ?_; rintro e w3 ⟨rfl, hr3, hg3⟩; have c3 := hr3.c1)
          | (go_at_call 32; refine (Bad_at w3 b true c3).mono ?_; rintro e w4 ⟨rfl, rfl⟩))
        refine wp_goto (And.intro rfl ?_)
        unfold After
        go_wp2_with (go_at_call 93; refine (fail_at _ b _ hr3).mono ?_; rintro e w'' ⟨rfl, hr, hg'⟩)
        rw [Exit.noGoto_ret]
        go_ret
        have hR := HR.out
        rw [way_bad textP Hway.out H93.out hp'.out] at hR
        have e1 : valOf (listP textP) (some (91 :: s)) = [] := by simp [valOf, hR, dflt']
        have e2 : restOf (listP textP) (some (91 :: s)) = none := by simp [restOf, hR]
        rw [e1, e2]
        exact ⟨_, rfl, World.ownsRow_nil _ _ _ _, hr, hg.trans (hg3.trans hg')⟩
      | some x =>
        obtain ⟨v, t⟩ := x
        have e1 : restOf textP (some r) = some t := by simp [restOf, hp]
        have e2 : valOf textP (some r) = v := by simp [valOf, hp]
        rw [e1, e2] at hn
        have hp' := Lib.hid hp
        clear hp e1 e2
        go_wp2_with (first
          | (go_at_call 112; refine hs.out.mono ?_; rintro e w2 ⟨rfl, rfl⟩)
          | (go_at_call 68; refine hn.out.mono ?_; rintro e w3 ⟨rfl, hr3, hg3⟩; have c3 := hr3.c1; have hown3 := own_kept hown hg3 hbw)
          | (go_at_call 32; refine (Bad_at w3 b false c3).mono ?_; rintro e w4 ⟨rfl, rfl⟩)
          | (at_builtin; refine wpList_append_own _ rfl _ _ 37 rfl w.heap.size 9 i0 (.string ⟨#[]⟩) 1 16 Tryz.underlying37 hi0 hz0 hz1 hz2 rfl (by decide) _ _ _ rfl (hown3.alloc _) ⟨w3.heap.size, 0, none⟩ 1 1 [.string ⟨v.toArray⟩] rfl rfl (cell_one _ _ _) (one_cell rfl) (by simp only [maxLen]; omega) (by omega) (Nat.le_trans hg.size (Nat.le_trans hg3.size (by simp))) ?_; intro v5 w5 hown5 hgr5 hat5))
        go_roundg g
        case measure => omega
        case rel =>
          refine ⟨l ++ [v], t, ?_, rd_own hr3 hown3 hbw _ hgr5, grown_own (hg.trans hg3) hown3 _ hgr5, ?_, ?_, way_next textP Hway.out H93.out hp'.out⟩
          · simpa using hown5
          · have := ((textP_iff _ _ _).1 hp'.out).2
            have := serT_ne v
            simp_all
            omega
          · have := ((textP_iff _ _ _).1 hp'.out).2
            have := serT_ne v
            simp_all
            omega

set_option maxHeartbeats 400000 in
theorem ielems_nil (w : World) (v : Value) : Calls Tryz.prog 94 #[.pointer none, v] w fun e w' => e = .returned (.slice none 0 0) ∧ w = w' := by
  go_enter Tryz.func94, Tryz.ntmps94
  go_wp2_with fail
  refine wp_scope_forward 0 rfl ?_
  go_wp2_with (go_at_call 112; refine (skip_nil w _).mono ?_; rintro e w' ⟨rfl, rfl⟩)
  refine wp_goto (And.intro rfl ?_)
  unfold After
  go_wp2_with (go_at_call 93; refine (fail_nil w).mono ?_; rintro e w' ⟨rfl, rfl⟩)
  rw [Exit.noGoto_ret]
  go_ret
  exact ⟨rfl, rfl⟩
set_option maxHeartbeats 400000 in
theorem telems_nil (w : World) (v : Value) : Calls Tryz.prog 95 #[.pointer none, v] w fun e w' => e = .returned (.slice none 0 0) ∧ w = w' := by
  go_enter Tryz.func95, Tryz.ntmps95
  go_wp2_with fail
  refine wp_scope_forward 0 rfl ?_
  go_wp2_with (go_at_call 112; refine (skip_nil w _).mono ?_; rintro e w' ⟨rfl, rfl⟩)
  refine wp_goto (And.intro rfl ?_)
  unfold After
  go_wp2_with (go_at_call 93; refine (fail_nil w).mono ?_; rintro e w' ⟨rfl, rfl⟩)
  rw [Exit.noGoto_ret]
  go_ret
  exact ⟨rfl, rfl⟩
set_option maxHeartbeats 400000 in
theorem ints_nil (w : World) : Calls Tryz.prog 69 #[.pointer none] w fun e w' => e = .returned (.slice none 0 0) ∧ w = w' := by
  go_enter Tryz.func69, Tryz.ntmps69
  go_wp2_with (go_at_call 94; refine (ielems_nil w _).mono ?_; rintro e w' ⟨rfl, rfl⟩)
  go_ret
  exact ⟨rfl, rfl⟩
set_option maxHeartbeats 400000 in
theorem texts_nil (w : World) : Calls Tryz.prog 70 #[.pointer none] w fun e w' => e = .returned (.slice none 0 0) ∧ w = w' := by
  go_enter Tryz.func70, Tryz.ntmps70
  go_wp2_with (go_at_call 95; refine (telems_nil w _).mono ?_; rintro e w' ⟨rfl, rfl⟩)
  go_ret
  exact ⟨rfl, rfl⟩

theorem list_no {α : Type} (p : List UInt8 → Option (α × List UInt8)) (st : Option (List UInt8)) (h : ∀ l, st ≠ some (91 :: l)) : st.bind (listP p) = none := by
  cases st with
  | none => rfl
  | some l =>
    simp only [Option.bind_some, listP]
    cases l with
    | nil => simp
    | cons c t =>
      have : c ≠ 91 := fun e => h t (by rw [e])
      simp [this]

/-- what the four methods of a reader do to it: the value, and what is left -/
theorem ints_k (w : World) (hb : Base w) (b : Nat) (hb6 : 6 ≤ b) (st : Option (List UInt8)) (h : Rd w b st) (hl : ∀ l, st = some l → l.length ≤ 1000000) :
    Calls Tryz.prog 69 #[.pointer (some ⟨b, 0, none⟩)] w fun e w' => ∃ v, e = .returned v ∧
      w'.ownsRow w.heap.size 3 1 v (valOf (listP intP) st).length ((valOf (listP intP) st).map (.int .i64)) ∧ Rd w' b (restOf (listP intP) st) ∧ w.grownBy w' (some b) := by
  have hk : Calls Tryz.prog 94 #[.pointer (some ⟨b, 0, none⟩), .func (.func 31) #[.pointer (some ⟨b, 0, none⟩)] #[]] w fun e w' => ∃ v, e = .returned v ∧
      w'.ownsRow w.heap.size 3 1 v (valOf (listP intP) st).length ((valOf (listP intP) st).map (.int .i64)) ∧ Rd w' b (restOf (listP intP) st) ∧ w.grownBy w' (some b) := by
    by_cases h91 : ∃ s, st = some (91 :: s)
    · obtain ⟨s, rfl⟩ := h91
      exact ielems_go w hb b hb6 s h (by have := hl _ rfl; simp at this; omega)
    · have hne : ∀ l, st ≠ some (91 :: l) := fun l e => h91 ⟨l, e⟩
      have hn := list_no intP st hne
      have e1 : valOf (listP intP) st = [] := by simp [valOf, hn, dflt']
      have e2 : restOf (listP intP) st = none := by simp [restOf, hn]
      rw [e1, e2]
      exact (ielems_no w b _ st h hne).mono fun _ _ ⟨he, hr, hg⟩ => ⟨_, he, World.ownsRow_nil _ _ _ _, hr, hg⟩
  have Hk := Lib.hid hk
  clear hk hl
  go_enter Tryz.func69, Tryz.ntmps69
  go_wp2_with (go_at_call 94; refine Hk.out.mono ?_; rintro e w' ⟨v, rfl, ho, hr, hg⟩)
  go_ret
  exact ⟨_, rfl, ho, hr, hg⟩
theorem texts_k (w : World) (hb : Base w) (b : Nat) (hb6 : 6 ≤ b) (st : Option (List UInt8)) (h : Rd w b st) (hl : ∀ l, st = some l → l.length ≤ 1000000) :
    Calls Tryz.prog 70 #[.pointer (some ⟨b, 0, none⟩)] w fun e w' => ∃ v, e = .returned v ∧
      w'.ownsRow w.heap.size 9 1 v (valOf (listP textP) st).length ((valOf (listP textP) st).map (fun l => .string ⟨l.toArray⟩)) ∧ Rd w' b (restOf (listP textP) st) ∧ w.grownBy w' (some b) := by
  have hk : Calls Tryz.prog 95 #[.pointer (some ⟨b, 0, none⟩), .func (.func 68) #[.pointer (some ⟨b, 0, none⟩)] #[]] w fun e w' => ∃ v, e = .returned v ∧
      w'.ownsRow w.heap.size 9 1 v (valOf (listP textP) st).length ((valOf (listP textP) st).map (fun l => .string ⟨l.toArray⟩)) ∧ Rd w' b (restOf (listP textP) st) ∧ w.grownBy w' (some b) := by
    by_cases h91 : ∃ s, st = some (91 :: s)
    · obtain ⟨s, rfl⟩ := h91
      exact telems_go w hb b hb6 s h (by have := hl _ rfl; simp at this; omega)
    · have hne : ∀ l, st ≠ some (91 :: l) := fun l e => h91 ⟨l, e⟩
      have hn := list_no textP st hne
      have e1 : valOf (listP textP) st = [] := by simp [valOf, hn, dflt']
      have e2 : restOf (listP textP) st = none := by simp [restOf, hn]
      rw [e1, e2]
      exact (telems_no w b _ st h hne).mono fun _ _ ⟨he, hr, hg⟩ => ⟨_, he, World.ownsRow_nil _ _ _ _, hr, hg⟩
  have Hk := Lib.hid hk
  clear hk hl
  go_enter Tryz.func70, Tryz.ntmps70
  go_wp2_with (go_at_call 95; refine Hk.out.mono ?_; rintro e w' ⟨v, rfl, ho, hr, hg⟩)
  go_ret
  exact ⟨_, rfl, ho, hr, hg⟩
end Go.Proofs.YtnkemoicgadefaaGreatDoor.Wire
namespace Go.Proofs.YtnkemoicgadefaaGreatDoor.Wire
open Go.RowKit
attribute [local go_sem] get_mk extract_mk

/-- a slice value that reads as a list of cells -/
def Sl (w : World) (v : Value) (xs : List Value) : Prop :=
  ∃ A c, v = .slice A xs.length c ∧ xs.length ≤ c ∧ c ≤ maxLen ∧ (0 < xs.length → ∃ ad, A = some ad ∧ ad.block < w.heap.size ∧ ∀ j u, xs[j]? = some u → w.cell? (ad.add j) = some u)

theorem add_block (a : Addr) (n : Nat) : (a.add n).block = a.block := by unfold Addr.add; split <;> rfl

theorem builder_new (w : World) : Lib.IsBuilder 58 5 w.heap.size w.heap.size (Lib.byteCells []) (w.alloc (.cells #[.pointer none, .slice none 0 0] 58)) :=
  .inl ⟨Nat.le_refl _, _, heap_alloc_new w _, World.ownsRow_nil _ _ _ _, by simp [Value.ownBlock]⟩
theorem builder_kept {w w' : World} {T e : TypeId} {B b : Nat} {bs : List Value} (h : Lib.IsBuilder T e B b bs w) (hg : w.grownBy w' none) : Lib.IsBuilder T e B b bs w' := by
  have one : ∀ p, Lib.BuilderAt T e B b p bs w → Lib.BuilderAt T e B b p bs w' := by
    rintro p ⟨hB, v, hb, ho, hn⟩
    refine ⟨hB, v, ?_, ho.kept hg ?_, hn⟩
    · rw [hg.block b (Array.getElem?_eq_some_iff.1 hb).1 (by simp)]
      exact hb
    · cases v.ownBlock with
      | none => exact .inl rfl
      | some k => exact .inr (by simp)
  exact h.elim (fun x => .inl (one _ x)) (fun x => .inr (one _ x))

theorem write_byte (B b : Nat) (l : List UInt8) (c : UInt8) (w : World) (h : Lib.IsBuilder 58 5 B b (Lib.byteCells l) w) (hl : l.length < 2000000) (hB : B ≤ w.heap.size) :
    Calls Tryz.prog 90 #[.pointer (some ⟨b, 0, none⟩), .int .u8 c.toNat] w fun e w' => e = .returned .nilIface ∧ Lib.IsBuilder 58 5 B b (Lib.byteCells (l ++ [c])) w' ∧ Below B w w' :=
  (Tryz.Builder_WriteByte B b _ c.toNat w h (by rw [Lib.byteCells_length]; omega) hB).mono fun _ _ ⟨he, hbd, hw⟩ => ⟨he, .inr (by rw [Lib.byteCells_append]; exact hbd), hw⟩
theorem write_str (B b : Nat) (l s : List UInt8) (w : World) (h : Lib.IsBuilder 58 5 B b (Lib.byteCells l) w) (hl : l.length + s.length < 2000000) (hB : B ≤ w.heap.size) :
    Calls Tryz.prog 24 #[.pointer (some ⟨b, 0, none⟩), .string ⟨s.toArray⟩] w fun e w' => e = .returned (.tuple #[.int .i64 s.length, .nilIface]) ∧ Lib.IsBuilder 58 5 B b (Lib.byteCells (l ++ s)) w' ∧ Below B w w' := by
  have hs : (⟨s.toArray⟩ : ByteArray).size = s.length := by show s.toArray.size = _; simp
  refine (Tryz.Builder_WriteString B b _ ⟨s.toArray⟩ w h (by rw [Lib.byteCells_length, hs]; omega) hB).mono fun _ _ ⟨he, hbd, hw⟩ => ⟨by rw [he, hs], .inr ?_, hw⟩
  rw [Lib.byteCells_append]
  rw [Lib.strCells_eq] at hbd
  simpa using hbd

def ILoop (w : World) (l : List Int) (i : Value) (wr : World) : Prop :=
  ∃ k : Nat, k ≤ l.length ∧ i = .int .i64 k ∧ Lib.IsBuilder 58 5 w.heap.size w.heap.size (Lib.byteCells (91 :: (l.take k).flatMap serI)) wr ∧ Below w.heap.size w wr ∧ w.heap.size ≤ wr.heap.size

theorem take_one {α : Type} (l : List α) (k : Nat) (x : α) (h : l[k]? = some x) : l.take (k + 1) = l.take k ++ [x] := by
  obtain ⟨hk, rfl⟩ := List.getElem?_eq_some_iff.1 h
  rw [List.take_succ_eq_append_getElem hk]
theorem flat_take_le {α : Type} (f : α → List UInt8) (l : List α) (k : Nat) : ((l.take k).flatMap f).length ≤ (l.flatMap f).length := by
  have h := List.take_append_drop k l
  have : (l.flatMap f).length = ((l.take k).flatMap f).length + ((l.drop k).flatMap f).length := by rw [← List.length_append, ← List.flatMap_append, h]
  omega

set_option maxRecDepth 100000 in
set_option maxHeartbeats 1000000 in
theorem ilist_k (A : Option Addr) (c n : Nat) (l : List Int) (w : World) (hb : Base w) (hn : n = l.length) (hi : ∀ x ∈ l, I64 x) (hs : (l.flatMap serI).length < 1000000) (hc : n ≤ c) (hm : c ≤ maxLen)
    (hA : 0 < n → ∃ ad, A = some ad ∧ ad.block < w.heap.size ∧ ∀ j x, l[j]? = some x → w.cell? (ad.add j) = some (.int .i64 x)) :
    Calls Tryz.prog 65 #[.slice A n c, .func (.func 25) #[] #[]] w fun e w' => e = .returned (.string ⟨(serL serI l).toArray⟩) ∧ w.grownBy w' none := by
  have hb' := Lib.hid hb
  unfold maxLen at hm
  have hn' := Lib.hid hn
  have hle : n ≤ l.length := by omega
  have hge : l.length ≤ n := by omega
  clear hn
  have hbn := builder_new w
  go_enter Tryz.func65, Tryz.ntmps65
  go_wp2_with (go_at_call 90; refine (write_byte _ _ [] 91 _ hbn (by simp) (by simp)).mono ?_; rintro e w1 ⟨rfl, hbd1, hw1⟩)
  have hB1 : Below w.heap.size w w1 := ((Below.refl _ w).alloc (Nat.le_refl _) _).trans hw1
  go_loopw [11] (fun i wr => ILoop w l i wr) (fun i _ => n - (intOf i).toNat)
  case atStart => exact ⟨0, by omega, rfl, hbd1, hB1, hB1.size⟩
  case round =>
    obtain ⟨k, hk, rfl, hbd, hB, hsz⟩ := hrel
    by_cases hlt : k < n
    · obtain ⟨ad, rfl, hab, hcell⟩ := hA (by omega)
      obtain ⟨x, hx⟩ : ∃ x, l[k]? = some x := ⟨_, List.getElem?_eq_getElem (by omega)⟩
      have hcx := (hB.cell (p := ad.add k) (by rw [add_block]; exact hab)).trans (hcell k x hx)
      have hix : I64 x := hi x (List.mem_of_getElem? hx)
      have hbr : Base _ := hb'.out.none_ (grown_of_below hB)
      have hx' := Lib.hid hx
      clear hcell hx
      have H := Lib.hid (wInt x hix _ hbr)
      have hfl := flat_take_le serI l k
      have hfk := Lib.hid (flat_take_le serI l (k + 1))
      have hsx : ((l.take k).flatMap serI).length + (serI x).length = ((l.take (k + 1)).flatMap serI).length := by rw [take_one l k x hx'.out]; simp
      have hlen : (91 :: (l.take k).flatMap serI).length + (serI x).length < 2000000 := by
        have := hfk.out
        simp only [List.length_cons]
        omega
      have Hlen := Lib.hid hlen
      clear hlen hsx hfl
      go_wp2_with (first
        | (go_at_call 25; refine H.out.mono ?_; rintro e w2 ⟨rfl, hg2⟩; have hbd2 := builder_kept hbd hg2; have hsz2 := hg2.size)
        | (go_at_call 24; refine (write_str _ _ _ _ _ hbd2 Hlen.out (by omega)).mono ?_; rintro e w3 ⟨rfl, hbd3, hw3⟩))
      go_roundw
      case rel =>
        refine ⟨k + 1, by omega, by go_num, ?_, (hB.trans ((below_of_grown hg2).mono hsz)).trans hw3, by have := hw3.size; omega⟩
        rw [take_one l k x hx'.out, List.flatMap_append]
        simpa using hbd3
      case measure => simp [intOf]; omega
    · have hkn : l.take k = l := List.take_of_length_le (by omega)
      rw [hkn] at hbd
      have hl1 : (91 :: l.flatMap serI).length < 2000000 := by simp only [List.length_cons]; omega
      have Hl1 := Lib.hid hl1
      clear hl1 hkn
      go_wp2_with (first
        | (go_at_call 90; refine (write_byte _ _ _ 93 _ hbd Hl1.out (by omega)).mono ?_; rintro e w2 ⟨rfl, hbd2, hw2⟩; have hsz2 := hw2.size)
        | (go_at_call 29; refine (Tryz.Builder_String_any _ _ _ _ hbd2 (by omega)).mono ?_; rintro e w3 ⟨rfl, hw3⟩))
      go_ret
      exact ⟨rfl, grown_of_below (hB.trans (hw2.trans hw3))⟩
def TLoop (w : World) (l : List (List UInt8)) (i : Value) (wr : World) : Prop :=
  ∃ k : Nat, k ≤ l.length ∧ i = .int .i64 k ∧ Lib.IsBuilder 58 5 w.heap.size w.heap.size (Lib.byteCells (91 :: (l.take k).flatMap serT)) wr ∧ Below w.heap.size w wr ∧ w.heap.size ≤ wr.heap.size


set_option maxRecDepth 100000 in
set_option maxHeartbeats 1000000 in
theorem tlist_k (A : Option Addr) (c n : Nat) (l : List (List UInt8)) (w : World) (hb : Base w) (hn : n = l.length) (hi : ∀ x ∈ l, x.length ≤ 4611686018427387904) (hs : (l.flatMap serT).length < 1000000) (hc : n ≤ c) (hm : c ≤ maxLen)
    (hA : 0 < n → ∃ ad, A = some ad ∧ ad.block < w.heap.size ∧ ∀ j x, l[j]? = some x → w.cell? (ad.add j) = some (.string ⟨x.toArray⟩)) :
    Calls Tryz.prog 66 #[.slice A n c, .func (.func 26) #[] #[]] w fun e w' => e = .returned (.string ⟨(serL serT l).toArray⟩) ∧ w.grownBy w' none := by
  have hb' := Lib.hid hb
  unfold maxLen at hm
  have hn' := Lib.hid hn
  have hle : n ≤ l.length := by omega
  have hge : l.length ≤ n := by omega
  clear hn
  have hbn := builder_new w
  go_enter Tryz.func66, Tryz.ntmps66
  go_wp2_with (go_at_call 90; refine (write_byte _ _ [] 91 _ hbn (by simp) (by simp)).mono ?_; rintro e w1 ⟨rfl, hbd1, hw1⟩)
  have hB1 : Below w.heap.size w w1 := ((Below.refl _ w).alloc (Nat.le_refl _) _).trans hw1
  go_loopw [11] (fun i wr => TLoop w l i wr) (fun i _ => n - (intOf i).toNat)
  case atStart => exact ⟨0, by omega, rfl, hbd1, hB1, hB1.size⟩
  case round =>
    obtain ⟨k, hk, rfl, hbd, hB, hsz⟩ := hrel
    by_cases hlt : k < n
    · obtain ⟨ad, rfl, hab, hcell⟩ := hA (by omega)
      obtain ⟨x, hx⟩ : ∃ x, l[k]? = some x := ⟨_, List.getElem?_eq_getElem (by omega)⟩
      have hcx := (hB.cell (p := ad.add k) (by rw [add_block]; exact hab)).trans (hcell k x hx)
      have hix : x.length ≤ 4611686018427387904 := hi x (List.mem_of_getElem? hx)
      have hbr : Base _ := hb'.out.none_ (grown_of_below hB)
      have hx' := Lib.hid hx
      clear hcell hx
      have H := Lib.hid (wText x hix _ hbr)
      have hfl := flat_take_le serT l k
      have hfk := Lib.hid (flat_take_le serT l (k + 1))
      have hsx : ((l.take k).flatMap serT).length + (serT x).length = ((l.take (k + 1)).flatMap serT).length := by rw [take_one l k x hx'.out]; simp
      have hlen : (91 :: (l.take k).flatMap serT).length + (serT x).length < 2000000 := by
        have := hfk.out
        simp only [List.length_cons]
        omega
      have Hlen := Lib.hid hlen
      clear hlen hsx hfl
      go_wp2_with (first
        | (go_at_call 26; refine H.out.mono ?_; rintro e w2 ⟨rfl, hg2⟩; have hbd2 := builder_kept hbd hg2; have hsz2 := hg2.size)
        | (go_at_call 24; refine (write_str _ _ _ _ _ hbd2 Hlen.out (by omega)).mono ?_; rintro e w3 ⟨rfl, hbd3, hw3⟩))
      go_roundw
      case rel =>
        refine ⟨k + 1, by omega, by go_num, ?_, (hB.trans ((below_of_grown hg2).mono hsz)).trans hw3, by have := hw3.size; omega⟩
        rw [take_one l k x hx'.out, List.flatMap_append]
        simpa using hbd3
      case measure => simp [intOf]; omega
    · have hkn : l.take k = l := List.take_of_length_le (by omega)
      rw [hkn] at hbd
      have hl1 : (91 :: l.flatMap serT).length < 2000000 := by simp only [List.length_cons]; omega
      have Hl1 := Lib.hid hl1
      clear hl1 hkn
      go_wp2_with (first
        | (go_at_call 90; refine (write_byte _ _ _ 93 _ hbd Hl1.out (by omega)).mono ?_; rintro e w2 ⟨rfl, hbd2, hw2⟩; have hsz2 := hw2.size)
        | (go_at_call 29; refine (Tryz.Builder_String_any _ _ _ _ hbd2 (by omega)).mono ?_; rintro e w3 ⟨rfl, hw3⟩))
      go_ret
      exact ⟨rfl, grown_of_below (hB.trans (hw2.trans hw3))⟩

set_option maxHeartbeats 400000 in
/-- wire.Ints -/
theorem wInts (A : Option Addr) (c n : Nat) (l : List Int) (w : World) (hb : Base w) (hn : n = l.length) (hi : ∀ x ∈ l, I64 x) (hs : (l.flatMap serI).length < 1000000) (hc : n ≤ c) (hm : c ≤ maxLen)
    (hA : 0 < n → ∃ ad, A = some ad ∧ ad.block < w.heap.size ∧ ∀ j x, l[j]? = some x → w.cell? (ad.add j) = some (.int .i64 x)) :
    Calls Tryz.prog 27 #[.slice A n c] w fun e w' => e = .returned (.string ⟨(serL serI l).toArray⟩) ∧ w.grownBy w' none := by
  have H := Lib.hid (ilist_k A c n l w hb hn hi hs hc hm hA)
  clear hb hn hi hs hc hm hA
  go_enter Tryz.func27, Tryz.ntmps27
  go_wp2_with (go_at_call 65; refine H.out.mono ?_; rintro e w' ⟨rfl, hg⟩)
  go_ret
  exact ⟨rfl, hg⟩
set_option maxHeartbeats 400000 in
/-- wire.Texts -/
theorem wTexts (A : Option Addr) (c n : Nat) (l : List (List UInt8)) (w : World) (hb : Base w) (hn : n = l.length) (hi : ∀ x ∈ l, x.length ≤ 4611686018427387904) (hs : (l.flatMap serT).length < 1000000) (hc : n ≤ c) (hm : c ≤ maxLen)
    (hA : 0 < n → ∃ ad, A = some ad ∧ ad.block < w.heap.size ∧ ∀ j x, l[j]? = some x → w.cell? (ad.add j) = some (.string ⟨x.toArray⟩)) :
    Calls Tryz.prog 28 #[.slice A n c] w fun e w' => e = .returned (.string ⟨(serL serT l).toArray⟩) ∧ w.grownBy w' none := by
  have H := Lib.hid (tlist_k A c n l w hb hn hi hs hc hm hA)
  clear hb hn hi hs hc hm hA
  go_enter Tryz.func28, Tryz.ntmps28
  go_wp2_with (go_at_call 66; refine H.out.mono ?_; rintro e w' ⟨rfl, hg⟩)
  go_ret
  exact ⟨rfl, hg⟩
end Go.Proofs.YtnkemoicgadefaaGreatDoor.Wire
namespace Go.Proofs.YtnkemoicgadefaaGreatDoor.Wire
open Go.RowKit
attribute [local go_sem] get_mk extract_mk

set_option maxHeartbeats 400000 in
/-- wire.New -/
theorem new_k (l : List UInt8) (w : World) : Calls Tryz.prog 30 #[.string ⟨l.toArray⟩] w fun e w' => e = .returned (.pointer (some ⟨w.heap.size, 0, none⟩)) ∧ Rd w' w.heap.size (some l) ∧ w.grownBy w' none ∧ w.heap.size < w'.heap.size := by
  go_enter Tryz.func30, Tryz.ntmps30
  go_wp2
  go_ret
  exact ⟨rfl, heap_alloc_new w _, World.grownBy_alloc _ _ _, by simp⟩

theorem Left_k (w : World) (b : Nat) (st : Option (List UInt8)) (h : Rd w b st) : Calls Tryz.prog 34 #[.pointer (some ⟨b, 0, none⟩)] w fun e w' => e = .returned (.int .i64 (st.getD []).length) ∧ w = w' := by
  cases st with
  | none => exact Left_bad w b h.c1
  | some l => exact Left_at w b l h.c0 h.c1
theorem Bad_k (w : World) (b : Nat) (st : Option (List UInt8)) (h : Rd w b st) : Calls Tryz.prog 32 #[.pointer (some ⟨b, 0, none⟩)] w fun e w' => e = .returned (.bool st.isNone) ∧ w = w' :=
  Bad_at w b _ h.c1
end Go.Proofs.YtnkemoicgadefaaGreatDoor.Wire
