/-
  Prove, Grow and Around, the program's and the reference's, whatever they are given.
-/
import Derived.Test.YtljjmoeplfcblaaRAround
import Derived.Test.YtljjmoeplfcblaaRAroundR
import Derived.Test.YtljjmoeplfcblaaExtends
import Derived.Test.YtljjmoeplfcblaaGrows
import Derived.Test.YtljjmoeplfcblaaRPut
namespace Go.Proofs.Ytljjmoeplfcblaa
open Go.RowKit Go.Shelf
theorem strs_nil (w : World) : Strs w none 0 0 [] := ⟨rfl, Nat.le_refl _, by decide, fun s hs => (by cases hs), fun h => (by omega)⟩
/-- what Prove returns -/
def provL (n : Nat) (l : List Str) (i j : Int) : List Str := if 0 ≤ i ∧ i ≤ j ∧ j ≤ n then proofL l i.toNat j.toNat else []
/-- what Grow returns -/
def growL (n : Nat) (l : List Str) (m : Int) : List Str := if 0 ≤ m ∧ m ≤ n then proofL l m.toNat m.toNat else []
/-- a list of strings, and whether it is one -/
def TwoP (w : World) (L : List Str) (b : Bool) (e : Ending) (w' : World) : Prop :=
  ∃ A n c, e = .returned (.tuple #[.slice A n c, .bool b]) ∧ Strs w' A n c L ∧ (A = none → c = 0) ∧ w.grownBy w' none
theorem two_own {w w' : World} {L : List Str} {v : Value} {b : Nat} (o : w'.ownsRow b 9 1 v L.length (L.map fun s => .string ⟨s.toArray⟩)) (g : w.grownBy w' none) (hl : ∀ s ∈ L, s.length ≤ 4611686018427387904) : TwoP w L true (.returned (.tuple #[v, .bool true])) w' := by
  obtain ⟨A, c, rfl, hs, hA⟩ := own_strs' o hl
  exact ⟨A, _, c, rfl, hs, hA, g⟩
theorem two_no {w w' : World} (g : w.grownBy w' none) : TwoP w [] false (.returned (.tuple #[.slice none 0 0, .bool false])) w' := ⟨none, 0, 0, rfl, strs_nil _, fun _ => rfl, g⟩
/-- digest.Prove -/
theorem prove_a (A : Option Addr) (n c : Nat) (l : List Str) (hn : n ≤ 1000) (i j : Int) (w : World) (hl : Strs w A n c l) :
    Calls Try.prog 29 #[.slice A n c, .int .i64 i, .int .i64 j] w (TwoP w (provL n l i j) (decide (0 ≤ i ∧ i ≤ j ∧ j ≤ n))) := by
  unfold provL
  by_cases h : 0 ≤ i ∧ i ≤ j ∧ j ≤ n
  · rw [if_pos h, decide_eq_true h]
    obtain ⟨i, rfl⟩ := Int.eq_ofNat_of_zero_le h.1
    obtain ⟨j, rfl⟩ := Int.eq_ofNat_of_zero_le (show 0 ≤ j by omega)
    refine (prove_k A n c l hn i j (by omega) (by omega) w hl).mono ?_
    rintro e w' ⟨v, rfl, o, g⟩
    exact two_own o g (fun s hs => Nat.le_trans (pl_8 l i j s hs) (by decide))
  · rw [if_neg h, decide_eq_false h]
    refine (prove_no A n c i j h (by omega) w).mono ?_
    rintro e w' ⟨rfl, g⟩
    exact two_no g
/-- the reference's Prove -/
theorem prove_ra (A : Option Addr) (n c : Nat) (l : List Str) (hn : n ≤ 1000) (hsh : ∀ x ∈ l, x.length ≤ 1152921504606846976) (i j : Int) (w : World) (hl : Strs w A n c l) :
    Calls Try.prog 30 #[.slice A n c, .int .i64 i, .int .i64 j] w (TwoP w (provL n l i j) (decide (0 ≤ i ∧ i ≤ j ∧ j ≤ n))) := by
  unfold provL
  by_cases h : 0 ≤ i ∧ i ≤ j ∧ j ≤ n
  · rw [if_pos h, decide_eq_true h]
    obtain ⟨i, rfl⟩ := Int.eq_ofNat_of_zero_le h.1
    obtain ⟨j, rfl⟩ := Int.eq_ofNat_of_zero_le (show 0 ≤ j by omega)
    refine (prove_r A n c l hn i j (by omega) (by omega) w hl hsh).mono ?_
    rintro e w' ⟨v, rfl, o, g⟩
    exact two_own o g (fun s hs => Nat.le_trans (pl_8 l i j s hs) (by decide))
  · rw [if_neg h, decide_eq_false h]
    refine (prove_rno A n c i j h (by omega) w).mono ?_
    rintro e w' ⟨rfl, g⟩
    exact two_no g
/-- digest.Grow -/
theorem grow_a (A : Option Addr) (n c : Nat) (l : List Str) (hn : n ≤ 1000) (m : Int) (w : World) (hl : Strs w A n c l) :
    Calls Try.prog 31 #[.slice A n c, .int .i64 m] w (TwoP w (growL n l m) (decide (0 ≤ m ∧ m ≤ n))) := by
  unfold growL
  by_cases h : 0 ≤ m ∧ m ≤ n
  · rw [if_pos h, decide_eq_true h]
    obtain ⟨m, rfl⟩ := Int.eq_ofNat_of_zero_le h.1
    refine (grow_k A n c l hn m (by omega) w hl).mono ?_
    rintro e w' ⟨v, rfl, o, g⟩
    exact two_own o g (fun s hs => Nat.le_trans (pl_8 l m m s hs) (by decide))
  · rw [if_neg h, decide_eq_false h]
    refine (grow_no A n c m h (by omega) w).mono ?_
    rintro e w' ⟨rfl, g⟩
    exact two_no g
/-- the reference's Grow -/
theorem grow_ra (A : Option Addr) (n c : Nat) (l : List Str) (hn : n ≤ 1000) (hsh : ∀ x ∈ l, x.length ≤ 1152921504606846976) (m : Int) (w : World) (hl : Strs w A n c l) :
    Calls Try.prog 32 #[.slice A n c, .int .i64 m] w (TwoP w (growL n l m) (decide (0 ≤ m ∧ m ≤ n))) := by
  unfold growL
  by_cases h : 0 ≤ m ∧ m ≤ n
  · rw [if_pos h, decide_eq_true h]
    obtain ⟨m, rfl⟩ := Int.eq_ofNat_of_zero_le h.1
    refine (grow_r A n c l hn m (by omega) w hl hsh).mono ?_
    rintro e w' ⟨v, rfl, o, g⟩
    exact two_own o g (fun s hs => Nat.le_trans (pl_8 l m m s hs) (by decide))
  · rw [if_neg h, decide_eq_false h]
    refine (grow_rno A n c m h (by omega) w).mono ?_
    rintro e w' ⟨rfl, g⟩
    exact two_no g
/-- an index, strings, a proof, and whether they are ones -/
def ArP (w : World) (I : Nat) (T P : List Str) (b : Bool) (e : Ending) (w' : World) : Prop :=
  ∃ A1 n1 c1 A2 n2 c2, e = .returned (.tuple #[.int .i64 I, .slice A1 n1 c1, .slice A2 n2 c2, .bool b]) ∧ Strs w' A1 n1 c1 T ∧ Strs w' A2 n2 c2 P ∧ (A1 = none → c1 = 0) ∧ (A2 = none → c2 = 0) ∧ w.grownBy w' none
def arT (l : List Str) (a b : Str) : List Str := (l.drop (arI l a)).take (arJ l a b - arI l a)
def arP (l : List Str) (a b : Str) : List Str := proofL l (arI l a) (arJ l a b)
/-- digest.Around -/
theorem around_a (A : Option Addr) (n c : Nat) (l : List Str) (a b : Str) (hn : n ≤ 1000) (hA : A = none → c = 0) (w : World) (hl : Strs w A n c l) :
    Calls Try.prog 26 #[.slice A n c, .string ⟨a.toArray⟩, .string ⟨b.toArray⟩] w (ArP w (if sortedB l then arI l a else 0) (if sortedB l then arT l a b else []) (if sortedB l then arP l a b else []) (sortedB l)) := by
  cases hs : sortedB l with
  | true =>
    refine (around_g A n c l a b hn hA w hl hs).mono ?_
    rintro e w' ⟨v1, v2, rfl, o1, o2, g⟩
    obtain ⟨A1, c1, rfl, s1, h1⟩ := own_strs' o1 (fun s hs => hl.sl s (List.mem_of_mem_drop (List.mem_of_mem_take hs)))
    obtain ⟨A2, c2, rfl, s2, h2⟩ := own_strs' o2 (fun s hs => Nat.le_trans (pl_8 l _ _ s hs) (by decide))
    exact ⟨A1, _, c1, A2, _, c2, rfl, s1, s2, h1, h2, g⟩
  | false =>
    refine (around_no A n c l a b w hl hs).mono ?_
    rintro e w' ⟨rfl, g⟩
    exact ⟨none, 0, 0, none, 0, 0, rfl, strs_nil _, strs_nil _, fun _ => rfl, fun _ => rfl, g⟩
/-- the reference's Around -/
theorem around_ra (A : Option Addr) (n c : Nat) (l : List Str) (a b : Str) (hn : n ≤ 1000) (hA : A = none → c = 0) (hsh : ∀ x ∈ l, x.length ≤ 1152921504606846976) (w : World) (hl : Strs w A n c l) :
    Calls Try.prog 27 #[.slice A n c, .string ⟨a.toArray⟩, .string ⟨b.toArray⟩] w (ArP w (if sortedB l then arI l a else 0) (if sortedB l then arT l a b else []) (if sortedB l then arP l a b else []) (sortedB l)) := by
  cases hs : sortedB l with
  | true =>
    refine (around_r A n c l a b hn hA hsh w hl hs).mono ?_
    rintro e w' ⟨v1, v2, rfl, o1, o2, g⟩
    obtain ⟨A1, c1, rfl, s1, h1⟩ := own_strs' o1 (fun s hs => hl.sl s (List.mem_of_mem_drop (List.mem_of_mem_take hs)))
    obtain ⟨A2, c2, rfl, s2, h2⟩ := own_strs' o2 (fun s hs => Nat.le_trans (pl_8 l _ _ s hs) (by decide))
    exact ⟨A1, _, c1, A2, _, c2, rfl, s1, s2, h1, h2, g⟩
  | false =>
    refine (around_rno A n c l a b w hl hs).mono ?_
    rintro e w' ⟨rfl, g⟩
    exact ⟨none, 0, 0, none, 0, 0, rfl, strs_nil _, strs_nil _, fun _ => rfl, fun _ => rfl, g⟩
end Go.Proofs.Ytljjmoeplfcblaa
