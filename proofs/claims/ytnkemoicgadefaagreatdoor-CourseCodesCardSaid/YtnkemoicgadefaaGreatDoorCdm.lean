/-
  The bytes of a catalog, and what a string says.
  How long the bytes of small catalogs are.
-/
import Derived.Test.YtnkemoicgadefaaGreatDoorMem
import Derived.Test.YtnkemoicgadefaaGreatDoorWA
namespace Go.Proofs.YtnkemoicgadefaaGreatDoor
open Go.RowKit
open Wire (serI serT serL intP textP listP restOf I64 intD textD listD)
/-- what is read from a reader, if it is not bad -/
theorem val_some {α : Type} [Inhabited α] {p : Str → Option (α × Str)} {s t : Str} {v : α} (h : p s = some (v, t)) : Wire.valOf p (some s) = v ∧ restOf p (some s) = some t := by
  unfold Wire.valOf restOf
  simp [h]
theorem val_none {α : Type} [Inhabited α] {p : Str → Option (α × Str)} {s : Str} (h : p s = none) : Wire.valOf p (some s) = default ∧ restOf p (some s) = none := by
  unfold Wire.valOf restOf
  simp [h]
theorem val_bad {α : Type} [Inhabited α] (p : Str → Option (α × Str)) : Wire.valOf p none = default ∧ restOf p none = none := ⟨rfl, rfl⟩
theorem val_cases {α : Type} [Inhabited α] (p : Str → Option (α × Str)) (st : Option Str) : (Wire.valOf p st = default ∧ restOf p st = none) ∨ ∃ s t v, st = some s ∧ p s = some (v, t) ∧ Wire.valOf p st = v ∧ restOf p st = some t := by
  cases st with
  | none => exact .inl ⟨rfl, rfl⟩
  | some s =>
    cases h : p s with
    | none => exact .inl (val_none h)
    | some x =>
      obtain ⟨v, t⟩ := x
      exact .inr ⟨s, t, v, rfl, h, val_some h⟩
/-- a reader holds at most n bytes -/
def Lim (n : Nat) (st : Option Str) : Prop := ∀ l, st = some l → l.length ≤ n
theorem lim_rest {α : Type} [Inhabited α] {p : Str → Option (α × Str)} {n : Nat} {st : Option Str} (h : Lim n st) (hp : ∀ s v t, p s = some (v, t) → t.length ≤ s.length) : Lim n (restOf p st) := by
  intro l hl
  rcases val_cases p st with ⟨_, h2⟩ | ⟨s, t, v, rfl, h1, _, h2⟩
  · rw [h2] at hl
    cases hl
  · rw [h2] at hl
    injection hl with hl
    subst hl
    have := hp _ _ _ h1
    have := h s rfl
    omega
theorem int_le (s : Str) (v : Int) (t : Str) (h : intP s = some (v, t)) : t.length ≤ s.length := by
  obtain ⟨_, rfl⟩ := (intD.iff _ _ _).1 h
  simp
theorem text_le (s v t : Str) (h : textP s = some (v, t)) : t.length ≤ s.length := by
  obtain ⟨_, rfl⟩ := (textD.iff _ _ _).1 h
  simp
theorem ints_le (s : Str) (v : List Int) (t : Str) (h : listP intP s = some (v, t)) : t.length ≤ s.length := by
  obtain ⟨_, rfl⟩ := (listD intD _ _ _).1 h
  simp
theorem texts_le (s : Str) (v : List Str) (t : Str) (h : listP textP s = some (v, t)) : t.length ≤ s.length := by
  obtain ⟨_, rfl⟩ := (listD textD _ _ _).1 h
  simp
theorem serI_two (n : Int) : 2 ≤ (serI n).length := by
  have := Wire.itoa_ne_nil n
  have : 0 < (Lib.itoa n).length := List.length_pos_iff.2 this
  simp only [serI, List.length_append, List.length_cons, List.length_nil]
  omega
theorem serT_two (s : Str) : s.length + 2 ≤ (serT s).length := by
  have := Wire.itoa_ne_nil (s.length : Int)
  have : 0 < (Lib.itoa (s.length : Int)).length := List.length_pos_iff.2 this
  simp only [serT, List.length_append, List.length_cons]
  omega
theorem flat_two {α : Type} {f : α → Str} (h : ∀ v, 2 ≤ (f v).length) (l : List α) : 2 * l.length ≤ (l.flatMap f).length := by
  induction l with
  | nil => simp
  | cons v l ih =>
    have := h v
    simp only [List.flatMap_cons, List.length_append, List.length_cons]
    omega
theorem flat_mem {α : Type} {f : α → Str} {l : List α} {v : α} (h : v ∈ l) : (f v).length ≤ (l.flatMap f).length := by
  induction l with
  | nil => cases h
  | cons x l ih =>
    simp only [List.flatMap_cons, List.length_append]
    rcases List.mem_cons.1 h with rfl | h
    · omega
    · have := ih h
      omega
/-- what a number that is read is -/
theorem int_val (st : Option Str) : i64 (Wire.valOf intP st) := by
  rcases val_cases intP st with ⟨h1, _⟩ | ⟨s, t, v, rfl, h1, h2, _⟩
  · rw [h1]
    exact ⟨by decide, by decide⟩
  · rw [h2]
    exact ((intD.iff _ _ _).1 h1).1
theorem text_val {n : Nat} {st : Option Str} (h : Lim n st) : (Wire.valOf textP st).length ≤ n := by
  rcases val_cases textP st with ⟨h1, _⟩ | ⟨s, t, v, rfl, h1, h2, _⟩
  · rw [h1]
    exact Nat.zero_le _
  · rw [h2]
    obtain ⟨_, rfl⟩ := (textD.iff _ _ _).1 h1
    have := h _ rfl
    have := serT_two v
    simp only [List.length_append] at *
    omega
theorem ints_val {n : Nat} {st : Option Str} (h : Lim n st) : 2 * (Wire.valOf (listP intP) st).length ≤ n ∧ ∀ x ∈ Wire.valOf (listP intP) st, i64 x := by
  rcases val_cases (listP intP) st with ⟨h1, _⟩ | ⟨s, t, v, rfl, h1, h2, _⟩
  · rw [h1]
    exact ⟨Nat.zero_le _, fun x hx => by cases hx⟩
  · rw [h2]
    obtain ⟨hg, rfl⟩ := (listD intD _ _ _).1 h1
    have := h _ rfl
    have := flat_two serI_two v
    refine ⟨?_, hg⟩
    simp only [serL, List.length_append, List.length_cons] at *
    omega
theorem texts_val {n : Nat} {st : Option Str} (h : Lim n st) : 2 * (Wire.valOf (listP textP) st).length ≤ n ∧ ∀ x ∈ Wire.valOf (listP textP) st, x.length ≤ n := by
  rcases val_cases (listP textP) st with ⟨h1, _⟩ | ⟨s, t, v, rfl, h1, h2, _⟩
  · rw [h1]
    exact ⟨Nat.zero_le _, fun x hx => by cases hx⟩
  · rw [h2]
    obtain ⟨hg, rfl⟩ := (listD textD _ _ _).1 h1
    have := h _ rfl
    have := flat_two (fun v => Nat.le_trans (Nat.le_add_left _ _) (serT_two v)) v
    refine ⟨?_, fun x hx => ?_⟩
    · simp only [serL, List.length_append, List.length_cons] at *
      omega
    · have := flat_mem (f := serT) hx
      have := serT_two x
      simp only [serL, List.length_append, List.length_cons] at *
      omega

/-- the bytes of an offer, and of a catalog -/
def serO (o : O) : Str := serT o.code ++ (serI o.cr ++ (serI o.pl ++ (serL serI o.slots ++ serL serT o.needs)))
def serC (l : List O) : Str := serI l.length ++ l.flatMap serO
/-- what a reader holds when an offer's fields are read, one after the other -/
def rd1 (st : Option Str) : Option Str := restOf textP st
def rd2 (st : Option Str) : Option Str := restOf intP (rd1 st)
def rd3 (st : Option Str) : Option Str := restOf intP (rd2 st)
def rd4 (st : Option Str) : Option Str := restOf (listP intP) (rd3 st)
def offR (st : Option Str) : Option Str := restOf (listP textP) (rd4 st)
def offV (st : Option Str) : O := ⟨Wire.valOf textP st, Wire.valOf intP (rd1 st), Wire.valOf intP (rd2 st), Wire.valOf (listP intP) (rd3 st), Wire.valOf (listP textP) (rd4 st)⟩
theorem lim1 {n : Nat} {st : Option Str} (h : Lim n st) : Lim n (rd1 st) := lim_rest h text_le
theorem lim2 {n : Nat} {st : Option Str} (h : Lim n st) : Lim n (rd2 st) := lim_rest (lim1 h) int_le
theorem lim3 {n : Nat} {st : Option Str} (h : Lim n st) : Lim n (rd3 st) := lim_rest (lim2 h) int_le
theorem lim4 {n : Nat} {st : Option Str} (h : Lim n st) : Lim n (rd4 st) := lim_rest (lim3 h) ints_le
theorem limR {n : Nat} {st : Option Str} (h : Lim n st) : Lim n (offR st) := lim_rest (lim4 h) texts_le
theorem offR_none : offR none = none := rfl
/-- an offer whose bytes can be read again -/
structure GoodO (o : O) : Prop where
  code : I64 o.code.length
  cr : I64 o.cr
  pl : I64 o.pl
  slots : ∀ x ∈ o.slots, I64 x
  needs : ∀ x ∈ o.needs, I64 x.length
theorem off_read {o : O} (h : GoodO o) (t : Str) : offV (some (serO o ++ t)) = o ∧ offR (some (serO o ++ t)) = some t := by
  have e : serO o ++ t = serT o.code ++ (serI o.cr ++ (serI o.pl ++ (serL serI o.slots ++ (serL serT o.needs ++ t)))) := by simp [serO]
  rw [e]
  obtain ⟨a1, b1⟩ := val_some ((textD.iff _ _ _).2 ⟨h.code, rfl⟩ : textP (serT o.code ++ (serI o.cr ++ (serI o.pl ++ (serL serI o.slots ++ (serL serT o.needs ++ t))))) = some _)
  obtain ⟨a2, b2⟩ := val_some ((intD.iff _ _ _).2 ⟨h.cr, rfl⟩ : intP (serI o.cr ++ (serI o.pl ++ (serL serI o.slots ++ (serL serT o.needs ++ t)))) = some _)
  obtain ⟨a3, b3⟩ := val_some ((intD.iff _ _ _).2 ⟨h.pl, rfl⟩ : intP (serI o.pl ++ (serL serI o.slots ++ (serL serT o.needs ++ t))) = some _)
  obtain ⟨a4, b4⟩ := val_some ((listD intD _ _ _).2 ⟨h.slots, rfl⟩ : listP intP (serL serI o.slots ++ (serL serT o.needs ++ t)) = some _)
  obtain ⟨a5, b5⟩ := val_some ((listD textD _ _ _).2 ⟨h.needs, rfl⟩ : listP textP (serL serT o.needs ++ t) = some _)
  constructor
  · unfold offV rd4 rd3 rd2 rd1
    rw [a1, b1, a2, b2, a3, b3, a4, b4, a5]
  · unfold offR rd4 rd3 rd2 rd1
    rw [b1, b2, b3, b4, b5]
/-- n offers, one after the other -/
def decL : Nat → Option Str → Option (List O × Str)
  | 0, st => st.map fun s => ([], s)
  | k + 1, st => match offR st with
    | none => none
    | some t => (decL k (some t)).map fun x => (offV st :: x.1, x.2)
theorem decL_none (k : Nat) : decL k none = none := by
  cases k <;> rfl
theorem decL_succ (k : Nat) (st : Option Str) : decL (k + 1) st = (decL k (offR st)).map fun (x : List O × Str) => (offV st :: x.1, x.2) := by
  show (match offR st with | none => none | some t => (decL k (some t)).map fun (x : List O × Str) => (offV st :: x.1, x.2)) = _
  cases h : offR st with
  | none => rw [decL_none]; rfl
  | some t => rfl
/-- what a string says: nothing, or a catalog -/
def decV (s : Str) : Option (List O) := match intP s with
  | none => none
  | some (n, t) => if n < 0 then none else match decL n.toNat (some t) with
    | some (l, []) => some l
    | _ => none
theorem decL_ser {l : List O} (h : ∀ o ∈ l, GoodO o) (t : Str) : decL l.length (some (l.flatMap serO ++ t)) = some (l, t) := by
  induction l with
  | nil => rfl
  | cons o l ih =>
    have e : (o :: l).flatMap serO ++ t = serO o ++ (l.flatMap serO ++ t) := by simp
    obtain ⟨h1, h2⟩ := off_read (h o List.mem_cons_self) (l.flatMap serO ++ t)
    rw [e, List.length_cons, decL_succ, h2, ih (fun x hx => h x (List.mem_cons_of_mem _ hx)), h1]
    rfl
theorem decV_ser {l : List O} (h : ∀ o ∈ l, GoodO o) (hl : I64 l.length) : decV (serC l) = some l := by
  unfold decV serC
  rw [(intD.iff _ _ _).2 ⟨hl, rfl⟩]
  have := decL_ser h []
  rw [List.append_nil] at this
  simp [this]
end Go.Proofs.YtnkemoicgadefaaGreatDoor
namespace Go.Proofs.YtnkemoicgadefaaGreatDoor
open Go.RowKit
open Wire (serI serT serL I64)
/-- a catalog with few and short parts -/
structure Tiny (l : List O) : Prop where
  len : l.length ≤ 6
  each : ∀ o ∈ l, o.code.length ≤ 12 ∧ I64 o.cr ∧ I64 o.pl ∧ (o.slots.length ≤ 6 ∧ ∀ x ∈ o.slots, I64 x) ∧ o.needs.length ≤ 7 ∧ ∀ x ∈ o.needs, x.length ≤ 12
theorem serI_len {n : Int} (h : I64 n) : (serI n).length ≤ 21 := by
  have := Wire.itoa_len h
  simp only [serI, List.length_append, List.length_cons, List.length_nil]
  omega
theorem serT_len {s : Str} (h : s.length ≤ 12) : (serT s).length ≤ 15 := by
  have h1 : ¬ (s.length : Int) < 0 := by omega
  have h2 := Wire.dec_length s.length 1 (by omega)
  have h3 : (Lib.itoa (s.length : Int)).length ≤ 2 := by
    rw [Wire.itoa_pos' h1]
    simpa using h2
  simp only [serT, List.length_append, List.length_cons]
  omega
theorem flat_le {α : Type} {f : α → Str} {k : Nat} {l : List α} (h : ∀ x ∈ l, (f x).length ≤ k) : (l.flatMap f).length ≤ l.length * k := by
  induction l with
  | nil => simp
  | cons x l ih =>
    have h1 := h x List.mem_cons_self
    have h2 := ih (fun y hy => h y (List.mem_cons_of_mem _ hy))
    simp only [List.flatMap_cons, List.length_append, List.length_cons, Nat.add_mul, Nat.one_mul]
    omega
theorem tiny_ser {l : List O} (h : Tiny l) : (serC l).length ≤ 1800 ∧ (∀ o ∈ l, GoodO o) ∧ I64 l.length := by
  have hl : I64 l.length := by have := h.len; exact ⟨by omega, by omega⟩
  have one : ∀ o ∈ l, (serO o).length ≤ 292 := fun o ho => by
    obtain ⟨h1, h2, h3, ⟨h4, h5⟩, h6, h7⟩ := h.each o ho
    have a1 := serT_len h1
    have a2 := serI_len h2
    have a3 := serI_len h3
    have a4 : (o.slots.flatMap serI).length ≤ o.slots.length * 21 := flat_le (fun x hx => serI_len (h5 x hx))
    have a5 : (o.needs.flatMap serT).length ≤ o.needs.length * 15 := flat_le (fun x hx => serT_len (h7 x hx))
    simp only [serO, serL, List.length_append, List.length_cons, List.length_nil]
    omega
  refine ⟨?_, fun o ho => ?_, hl⟩
  · have b1 := serI_len hl
    have b2 : (l.flatMap serO).length ≤ l.length * 292 := flat_le one
    have b3 := h.len
    simp only [serC, List.length_append]
    omega
  · obtain ⟨h1, h2, h3, ⟨h4, h5⟩, h6, h7⟩ := h.each o ho
    exact ⟨⟨by omega, by omega⟩, h2, h3, h5, fun x hx => by have := h7 x hx; exact ⟨by omega, by omega⟩⟩
end Go.Proofs.YtnkemoicgadefaaGreatDoor
