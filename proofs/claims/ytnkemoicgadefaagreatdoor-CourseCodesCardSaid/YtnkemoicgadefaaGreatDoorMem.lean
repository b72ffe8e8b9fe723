/-
  Worlds, rows, slices of numbers, of strings and of offers.
-/
import Derived.Test.YtnkemoicgadefaaGreatDoorMath
import Derived.Test.YtnkemoicgadefaaGreatDoorProg
import Derived.WalkKit
import Derived.WalkSpells
import Derived.WalkLawsBesides
import Derived.Lib.Hide
import Derived.Laws.BytesString
import Derived.Laws.Tables
import Derived.Laws.Rows
import Derived.Maps.RangeWalk
import Derived.Maps.AppendAt
import Derived.Maps.Range
import Derived.OwnWalk
import Derived.Deep.AppendLies
import Derived.Outline
import Derived.Deep.CutBlock
import Derived.Laws.OwnMore
import Derived.Laws.MakeOwn
import Derived.RangeFuncRecord
namespace Go.Proofs.YtnkemoicgadefaaGreatDoor
open Go.RowKit
def i64 (z : Int) : Prop := -9223372036854775808 ≤ z ∧ z ≤ 9223372036854775807
theorem grown_drewN (w : World) (k : Nat) (row : Option Nat) : w.grownBy (w.drewN k) row := ⟨rfl, rfl, rfl, Nat.le_refl _, fun _ _ _ => rfl⟩
theorem grown_al {a w : World} {o : Obj} (h : a.grownBy w none) : a.grownBy (w.alloc o) none := h.trans (World.grownBy_alloc w o none)
theorem grown_dr {a w : World} (h : a.grownBy w none) : a.grownBy w.drew none := ⟨h.os, h.tape, h.output, h.size, h.block⟩
theorem grown_dn {a w : World} {k : Nat} (h : a.grownBy w none) : a.grownBy (w.drewN k) none := h.trans (grown_drewN _ _ _)
theorem grown_refl (w : World) : w.grownBy w none := ⟨rfl, rfl, rfl, Nat.le_refl _, fun _ _ _ => rfl⟩
theorem get_mk (l : Str) (i : Nat) (h : i < (⟨l.toArray⟩ : ByteArray).size) : (⟨l.toArray⟩ : ByteArray)[i]'h = l[i]'(by simpa [ByteArray.size] using h) := rfl
theorem extract_mk (l : Str) (i j : Nat) : (⟨l.toArray⟩ : ByteArray).extract i j = ⟨((l.take j).drop i).toArray⟩ := by
  apply ByteArray.ext
  simp [List.drop_take]
attribute [local go_sem] get_mk extract_mk
theorem ret_int {k : IntKind} {a b : Int} (h : a = b) : Ending.returned (.int k a) = .returned (.int k b) := by rw [h]
theorem ret_bool {a b : Bool} (h : a = b) : Ending.returned (.bool a) = .returned (.bool b) := by rw [h]
theorem ret_str {a b : ByteArray} (h : a = b) : Ending.returned (.string a) = .returned (.string b) := by rw [h]
theorem gcell {w w' : World} {a : Addr} {v : Value} (h : w.grownBy w' none) (c : w.cell? a = some v) : w'.cell? a = some v := h.cell c (by simp)
theorem cell_at {w : World} {b i : Nat} {cs : Array Value} {t : TypeId} (h : b = w.heap.size) : (w.alloc (.cells cs t)).cell? ⟨b, i, none⟩ = cs[i]? := by
  subst h; exact World.cell?_alloc_new ..
theorem grown_setCell (w : World) (b i : Nat) (v : Value) : w.grownBy (w.setCell ⟨b, i, none⟩ v) (some b) :=
  ⟨rfl, rfl, rfl, by simp [World.setCell], fun k _ hne => Below.heap_setCell w _ v k (by rintro rfl; exact hne rfl)⟩
theorem grown_set {a x : World} {row : Option Nat} {o i : Nat} {v : Value} (h : a.grownBy x row) (ho : a.heap.size ≤ o ∨ row = some o) : a.grownBy (x.setCell ⟨o, i, none⟩ v) row :=
  h.andThen (grown_setCell x o i v) (by rintro j ⟨⟩; exact ho)
theorem add_at (a : Addr) (i : Nat) (hi : 0 < i) : a.add i = ⟨a.block, a.off + i, none⟩ := by
  unfold Addr.add; split
  · omega
  · rfl
theorem add_block (a : Addr) (n : Nat) : (a.add n).block = a.block := by unfold Addr.add; split <;> rfl
theorem add_zero (g j : Nat) : (⟨g, 0, none⟩ : Addr).add j = ⟨g, j, none⟩ := by unfold Addr.add; split <;> simp_all
theorem add_add (a : Addr) (i j : Nat) : (a.add i).add j = a.add (i + j) := by
  unfold Addr.add; repeat' split
  all_goals (first | omega | (simp; done) | (simp; omega) | skip)
def Row (w : World) (B : Nat) (t : TypeId) (vs : Array Value) : Prop := w.heap[B]? = some (.cells vs t (0, 0))
theorem Row.c {w : World} {B : Nat} {t : TypeId} {vs : Array Value} (h : Row w B t vs) (i : Nat) {v : Value} (e : vs[i]? = some v) : w.cell? ⟨B, i, none⟩ = some v := by unfold Row at h; simp [World.cell?, h, e]
theorem Row.fz {w : World} {B : Nat} {t : TypeId} {vs : Array Value} (h : Row w B t vs) (i : Nat) : w.frozen? ⟨B, i, none⟩ = false := by unfold Row at h; simp [World.frozen?, h]
theorem Row.lt {w : World} {B : Nat} {t : TypeId} {vs : Array Value} (h : Row w B t vs) : B < w.heap.size := by
  rcases Nat.lt_or_ge B w.heap.size with hlt | hge
  · exact hlt
  · unfold Row at h; rw [Array.getElem?_eq_none hge] at h; cases h
theorem Row.kept {w w' : World} {B : Nat} {t : TypeId} {vs : Array Value} (h : Row w B t vs) (hg : w.grownBy w' none) : Row w' B t vs := (hg.block B h.lt (by simp)).trans h
theorem Row.keptR {w w' : World} {B : Nat} {t : TypeId} {vs : Array Value} {r : Option Nat} (h : Row w B t vs) (hg : w.grownBy w' r) (hr : some B ≠ r) : Row w' B t vs := (hg.block B h.lt hr).trans h
theorem Row.new (w : World) (t : TypeId) (vs : Array Value) : Row (w.alloc (.cells vs t)) w.heap.size t vs := World.alloc_heap_new w _
theorem Row.far {w : World} {b o i : Nat} {v : Value} {t : TypeId} {vs : Array Value} (h : Row w b t vs) (hne : b ≠ o) : Row (w.setCell ⟨o, i, none⟩ v) b t vs :=
  ((grown_setCell w o i v).block b h.lt (by simpa using hne)).trans h
theorem row_of (w : World) (t : TypeId) (vs : Array Value) : ∃ w1, w1 = w.alloc (.cells vs t) ∧ Row w1 w.heap.size t vs ∧ w.grownBy w1 none := ⟨_, rfl, Row.new w t vs, World.grownBy_alloc _ _ none⟩
theorem Row.set {w : World} {B : Nat} {t : TypeId} {vs : Array Value} (h : Row w B t vs) (i : Nat) (v : Value) : Row (w.setCell ⟨B, i, none⟩ v) B t (vs.setIfInBounds i v) := by
  unfold Row at h ⊢
  simp [World.setCell, Array.getElem?_modify, h]
/-- block b holds no cells: a map, or what a range has still to give -/
def noCells : Obj → Bool
  | .cells _ _ _ => false
  | _ => true
def MapAt (w : World) (b : Nat) : Prop := ∃ o, w.heap[b]? = some o ∧ noCells o = true
theorem MapAt.ne {w : World} {b : Nat} (h : MapAt w b) {a : Addr} {v : Value} (c : w.cell? a = some v) : a.block ≠ b := fun e => by
  obtain ⟨o, hb, ho⟩ := h
  unfold World.cell? at c
  rw [e, hb] at c
  cases o <;> simp [noCells] at c ho
theorem gcellm {w w' : World} {b : Nat} {a : Addr} {v : Value} (hm : MapAt w b) (h : w.grownBy w' (some b)) (c : w.cell? a = some v) : w'.cell? a = some v := h.cell c (by have := hm.ne c; simpa using this)
theorem Row.keptm {w w' : World} {B b : Nat} {t : TypeId} {vs : Array Value} (h : Row w B t vs) (hm : MapAt w b) (hg : w.grownBy w' (some b)) : Row w' B t vs := h.keptR hg (by
  intro e
  injection e with e
  obtain ⟨o, hb, ho⟩ := hm
  unfold Row at h
  rw [e, hb] at h
  injection h with h
  rw [h] at ho
  cases ho)
/-- the slice A, n, c of elements of sz cells holds the values vs -/
structure Vals (w : World) (A : Option Addr) (n c sz : Nat) (vs : List Value) : Prop where
  len : n * sz = vs.length
  le : n ≤ c
  cap : c ≤ 9223372036854775807
  nil : A = none → c = 0
  one : ∀ v ∈ vs, v.oneCell' = true
  cell : 0 < n → ∃ ad, A = some ad ∧ ad.block < w.heap.size ∧ ∀ j v, vs[j]? = some v → w.cell? (ad.add j) = some v
theorem Vals.keptR {w w' : World} {A : Option Addr} {n c sz : Nat} {vs : List Value} {r : Option Nat} (h : Vals w A n c sz vs) (g : w.grownBy w' r) (hr : ∀ ad, A = some ad → 0 < n → some ad.block ≠ r) : Vals w' A n c sz vs :=
  ⟨h.len, h.le, h.cap, h.nil, h.one, fun hn => by
    obtain ⟨ad, e, hb, hc⟩ := h.cell hn
    exact ⟨ad, e, Nat.lt_of_lt_of_le hb g.size, fun j v hj => g.cell (hc j v hj) (by rw [add_block]; exact hr ad e hn)⟩⟩
theorem Vals.kept {w w' : World} {A : Option Addr} {n c sz : Nat} {vs : List Value} (h : Vals w A n c sz vs) (g : w.grownBy w' none) : Vals w' A n c sz vs := h.keptR g (by simp)
theorem Vals.keptm {w w' : World} {A : Option Addr} {n c sz b : Nat} {vs : List Value} (h : Vals w A n c sz vs) (hs : 0 < sz) (hm : MapAt w b) (g : w.grownBy w' (some b)) : Vals w' A n c sz vs := h.keptR g (fun ad e hn => by
  obtain ⟨ad', e', _, hc⟩ := h.cell hn
  rw [e] at e'
  injection e' with e'
  subst e'
  have hp : 0 < vs.length := by rw [← h.len]; exact Nat.mul_pos hn hs
  have := hm.ne (hc 0 vs[0] (List.getElem?_eq_getElem hp))
  rw [add_block] at this
  simpa using this)
theorem Vals.nil_ (w : World) (sz : Nat) : Vals w none 0 0 sz [] := ⟨by simp, Nat.le_refl _, by omega, fun _ => rfl, (fun _ h => by cases h), fun h => by omega⟩
theorem Vals.at {w : World} {A : Option Addr} {n c : Nat} {vs : List Value} (h : Vals w A n c 1 vs) (j : Nat) (hj : j < n) : ∃ (ad : Addr) (v : Value), A = some ad ∧ vs[j]? = some v ∧ ad.block < w.heap.size ∧ w.cell? (ad.add j) = some v := by
  obtain ⟨ad, e, hb, hc⟩ := h.cell (by omega)
  have hl := h.len
  obtain ⟨v, hv⟩ : ∃ v, vs[j]? = some v := ⟨_, List.getElem?_eq_getElem (by omega)⟩
  exact ⟨ad, v, e, hv, hb, hc j v hv⟩
theorem own_vals {w : World} {b e sz n : Nat} {v : Value} {vs : List Value} (h : w.ownsRow b e sz v n vs) (h1 : ∀ v ∈ vs, v.oneCell' = true) : ∃ A c, v = .slice A n c ∧ Vals w A n c sz vs ∧ ∀ ad, A = some ad → b ≤ ad.block := by
  rcases h.2 with ⟨rfl, rfl⟩ | ⟨g, cap, cur, rfl, hb, hg, h2, h3, h4, h5⟩
  · have hl := h.1
    exact ⟨none, 0, rfl, ⟨hl.symm, Nat.le_refl _, by omega, fun _ => rfl, h1, fun h => by omega⟩, (fun _ h => by cases h)⟩
  · refine ⟨_, cap, rfl, ⟨h.1.symm, h2, by unfold maxLen at h3; omega, (fun h => by cases h), h1, fun _ => ⟨_, rfl, (Array.getElem?_eq_some_iff.1 hg).1, fun j u hj => ?_⟩⟩, fun ad e => by injection e with e; subst e; exact hb⟩
    rw [add_zero]
    rw [← h5, List.getElem?_take] at hj
    split at hj
    · simpa [World.cell?, hg] using hj
    · cases hj
theorem info_parts {P : Program} {e : TypeId} {z : Value} {s b : Nat} (h : (P.info? e).map (fun i => (i.zero, i.size, i.bytes)) = some (some z, s, b)) : ∃ i, P.info? e = some i ∧ i.zero = some z ∧ i.size = s ∧ i.bytes = b := by
  cases hp : P.info? e with
  | none => rw [hp] at h; cases h
  | some i =>
    rw [hp] at h
    simp only [Option.map_some, Option.some.injEq, Prod.mk.injEq] at h
    exact ⟨i, rfl, h.1, h.2.1, h.2.2⟩
/-- an element's type: its slice's, its zero value, its cells, its bytes -/
structure Elt (T e sz by_ : Nat) (z : Value) : Prop where
  sl : Tryz.prog.underlying T = some (.slice e)
  info : (Tryz.prog.info? e).map (fun i => (i.zero, i.size, i.bytes)) = some (some z, sz, by_)
  zc : z.cells.size = sz
  pos : 0 < sz
  small : by_ ≤ 1000
theorem elt3 : Elt 22 3 1 8 (.int .i64 0) := ⟨Tryz.underlying22, by kernel_rfl, rfl, by decide, by decide⟩
theorem elt9 : Elt 37 9 1 16 (.string ⟨#[]⟩) := ⟨Tryz.underlying37, by kernel_rfl, rfl, by decide, by decide⟩
theorem elt35 : Elt 23 41 5 80 (.agg #[.string ⟨#[]⟩, .int .i64 0, .int .i64 0, .slice none 0 0, .slice none 0 0]) := ⟨Tryz.underlying23, by kernel_rfl, rfl, by decide, by decide⟩
/-- append of a slice to a row of the call's own -/
theorem wp_append_vals {T e sz by_ : Nat} {z : Value} (E : Elt T e sz by_ z) {o : Oper} {a : Act} {K' : Act → World → Prop} {Q : Exit → Act → World → Prop} (w : World) (s x : Operand)
    (ho : o.op = .call { callee := .builtin .append, args := #[s, x], argTypes := #[T, T] }) (base : Nat) (v : Value) (k : Nat) (D : List Value) (hs : a.eval s = v)
    (hown : w.ownsRow base e sz v k D) (A : Option Addr) (m c : Nat) (l : List Value) (hx : a.eval x = .slice A m c) (hl : Vals w A m c sz l)
    (hb : k + m ≤ 1000000) (hbase : base ≤ w.heap.size)
    (h : ∀ v' w', w'.ownsRow base e sz v' (k + m) (D ++ l) → w.grownBy w' v.ownBlock → (v'.ownBlock = v.ownBlock ∨ v'.ownBlock = some w.heap.size) → (v' = .slice none 0 0 ↔ v = .slice none 0 0 ∧ m = 0) → K' (a.put o.dst v') w') :
    Oper.wp Tryz.prog o a w K' Q := by
  obtain ⟨i0, hi0, hz0, hz1, hz2⟩ := info_parts E.info
  have hsm := E.small
  cases A with
  | none =>
    have hc := hl.nil rfl
    have h1 := hl.len
    have h2 := hl.le
    subst hc
    obtain rfl : m = 0 := by omega
    obtain rfl : l = [] := List.eq_nil_of_length_eq_zero (by rw [← h1]; simp)
    rw [List.append_nil] at h
    have hrun := run_append_owned_none (P := Tryz.prog) (w := w) base T o.type e i0 sz E.sl hi0 v k _ hown
    unfold Oper.wp
    simp [execOp, ho, resolve, invoke, builtin, hs, hx, hrun, Result.andThen]
    exact h v w hown (World.grownBy.refl _ _) (.inl rfl) (by simp)
  | some ad =>
    have hcells : ∀ j u, l[j]? = some u → w.cell? (ad.add j) = some u := fun j u hu => by
      have hj := (List.getElem?_eq_some_iff.1 hu).1
      have hl2 := hl.len
      have hm : 0 < m := by
        rcases Nat.eq_zero_or_pos m with e | e
        · subst e; simp at hl2; omega
        · exact e
      obtain ⟨ad', e', _, hc⟩ := hl.cell hm
      obtain rfl := Option.some.inj e'
      exact hc j u hu
    obtain ⟨v', w', hr, h2, h3, h4, h5⟩ := run_append_own_at (P := Tryz.prog) w base T o.type e i0 z sz by_ E.sl hi0 hz0 hz1 hz2 E.zc E.pos v k _ hown ad m c l (hl.len.symm) hcells (fun u hu => hl.one u hu) (by simp only [maxLen]; omega) (by
      have : (k + m) * by_ ≤ 1000000 * 1000 := Nat.mul_le_mul hb hsm
      omega) hbase
    unfold Oper.wp execOp
    simp only [ho, resolve, invoke, builtin, Sem.run_bind, Sem.run_pure, Result.andThen_ok, List.map_toArray, List.map_cons, List.map_nil, hs, hx, hr]
    exact h v' w' h2 h3 h5 h4
theorem wpList_append_vals {T e sz by_ : Nat} {z : Value} (E : Elt T e sz by_ z) {w : World} {ops : Array Oper} {rest : List Oper} {o : Oper} {a : Act} {Q : Exit → Act → World → Prop} (hgd : o.guard = none) (s x : Operand)
    (ho : o.op = .call { callee := .builtin .append, args := #[s, x], argTypes := #[T, T] }) (base : Nat) (v : Value) (k : Nat) (D : List Value) (hs : a.eval s = v)
    (hown : w.ownsRow base e sz v k D) (A : Option Addr) (m c : Nat) (l : List Value) (hx : a.eval x = .slice A m c) (hl : Vals w A m c sz l)
    (hb : k + m ≤ 1000000) (hbase : base ≤ w.heap.size)
    (h : ∀ v' w', w'.ownsRow base e sz v' (k + m) (D ++ l) → w.grownBy w' v.ownBlock → (v'.ownBlock = v.ownBlock ∨ v'.ownBlock = some w.heap.size) → (v' = .slice none 0 0 ↔ v = .slice none 0 0 ∧ m = 0) → wpList Tryz.prog ops Q rest (a.put o.dst v') w') :
    wpList Tryz.prog ops Q (o :: rest) a w :=
  wpList_plain hgd fun _ hK => wp_append_vals E w s x ho base v k D hs hown A m c l hx hl hb hbase fun v' w' h1 h2 h3 h4 => hK _ _ (h v' w' h1 h2 h3 h4)
/-- the slice A, n, c holds the numbers l -/
structure Ints (w : World) (A : Option Addr) (n c : Nat) (l : List Int) : Prop where
  v : Vals w A n c 1 (l.map (Value.int .i64))
  ok : ∀ x ∈ l, i64 x
theorem Ints.kept {w w' : World} {A : Option Addr} {n c : Nat} {l : List Int} (h : Ints w A n c l) (g : w.grownBy w' none) : Ints w' A n c l := ⟨h.v.kept g, h.ok⟩
theorem Ints.keptm {w w' : World} {A : Option Addr} {n c b : Nat} {l : List Int} (h : Ints w A n c l) (hm : MapAt w b) (g : w.grownBy w' (some b)) : Ints w' A n c l := ⟨h.v.keptm (by decide) hm g, h.ok⟩
theorem Ints.len {w : World} {A : Option Addr} {n c : Nat} {l : List Int} (h : Ints w A n c l) : n = l.length := by have := h.v.len; simpa using this
theorem Ints.nil_ (w : World) : Ints w none 0 0 [] := ⟨Vals.nil_ w 1, (fun _ h => by cases h)⟩
theorem Ints.at {w : World} {A : Option Addr} {n c : Nat} {l : List Int} (h : Ints w A n c l) (j : Nat) (hj : j < n) : ∃ (ad : Addr) (x : Int), l[j]? = some x ∧ i64 x ∧ A = some ad ∧ ad.block < w.heap.size ∧ w.cell? (ad.add j) = some (.int .i64 x) := by
  obtain ⟨ad, v, e, hv, hb, hc⟩ := h.v.at j hj
  rw [List.getElem?_map] at hv
  obtain ⟨x, hx, rfl⟩ := Option.map_eq_some_iff.1 hv
  exact ⟨ad, x, hx, h.ok x (List.mem_of_getElem? hx), e, hb, hc⟩
/-- the slice A, n, c holds the strings l -/
structure Strs (w : World) (A : Option Addr) (n c : Nat) (l : List Str) : Prop where
  v : Vals w A n c 1 (l.map fun s => Value.string ⟨s.toArray⟩)
  ok : ∀ x ∈ l, x.length ≤ 1152921504606846976
theorem Strs.kept {w w' : World} {A : Option Addr} {n c : Nat} {l : List Str} (h : Strs w A n c l) (g : w.grownBy w' none) : Strs w' A n c l := ⟨h.v.kept g, h.ok⟩
theorem Strs.keptm {w w' : World} {A : Option Addr} {n c b : Nat} {l : List Str} (h : Strs w A n c l) (hm : MapAt w b) (g : w.grownBy w' (some b)) : Strs w' A n c l := ⟨h.v.keptm (by decide) hm g, h.ok⟩
theorem Strs.len {w : World} {A : Option Addr} {n c : Nat} {l : List Str} (h : Strs w A n c l) : n = l.length := by have := h.v.len; simpa using this
theorem Strs.nil_ (w : World) : Strs w none 0 0 [] := ⟨Vals.nil_ w 1, (fun _ h => by cases h)⟩
theorem Strs.at {w : World} {A : Option Addr} {n c : Nat} {l : List Str} (h : Strs w A n c l) (j : Nat) (hj : j < n) : ∃ (ad : Addr) (x : Str), l[j]? = some x ∧ x.length ≤ 1152921504606846976 ∧ A = some ad ∧ ad.block < w.heap.size ∧ w.cell? (ad.add j) = some (.string ⟨x.toArray⟩) := by
  obtain ⟨ad, v, e, hv, hb, hc⟩ := h.v.at j hj
  rw [List.getElem?_map] at hv
  obtain ⟨x, hx, rfl⟩ := Option.map_eq_some_iff.1 hv
  exact ⟨ad, x, hx, h.ok x (List.mem_of_getElem? hx), e, hb, hc⟩
def OwnI (w : World) (base : Nat) (v : Value) (D : List Int) : Prop := w.ownsRow base 3 1 v D.length (D.map (Value.int .i64))
def OwnS (w : World) (base : Nat) (v : Value) (D : List Str) : Prop := w.ownsRow base 9 1 v D.length (D.map fun s => Value.string ⟨s.toArray⟩)
theorem OwnI.ints {w : World} {b : Nat} {v : Value} {D : List Int} (h : OwnI w b v D) (hl : ∀ x ∈ D, i64 x) : ∃ A c, v = .slice A D.length c ∧ Ints w A D.length c D ∧ ∀ ad, A = some ad → b ≤ ad.block := by
  obtain ⟨A, c, e, h1, h2⟩ := own_vals h (fun v hv => by obtain ⟨x, _, rfl⟩ := List.mem_map.1 hv; rfl)
  exact ⟨A, c, e, ⟨h1, hl⟩, h2⟩
theorem OwnS.strs {w : World} {b : Nat} {v : Value} {D : List Str} (h : OwnS w b v D) (hl : ∀ x ∈ D, x.length ≤ 1152921504606846976) : ∃ A c, v = .slice A D.length c ∧ Strs w A D.length c D ∧ ∀ ad, A = some ad → b ≤ ad.block := by
  obtain ⟨A, c, e, h1, h2⟩ := own_vals h (fun v hv => by obtain ⟨x, _, rfl⟩ := List.mem_map.1 hv; rfl)
  exact ⟨A, c, e, ⟨h1, hl⟩, h2⟩
/-- an offer in memory: its numbers, and where its lists lie -/
structure V where
  code : Str
  cr : Int
  pl : Int
  sA : Option Addr
  sn : Nat
  sc : Nat
  nA : Option Addr
  nn : Nat
  nc : Nat
def V.cells (v : V) : Array Value := #[.string ⟨v.code.toArray⟩, .int .i64 v.cr, .int .i64 v.pl, .slice v.sA v.sn v.sc, .slice v.nA v.nn v.nc]
structure VIs (w : World) (v : V) (o : O) : Prop where
  code : v.code = o.code
  cr : v.cr = o.cr
  pl : v.pl = o.pl
  ok : o.code.length ≤ 1152921504606846976 ∧ i64 o.cr ∧ i64 o.pl
  slots : Ints w v.sA v.sn v.sc o.slots
  needs : Strs w v.nA v.nn v.nc o.needs
  few : o.slots.length ≤ 1000 ∧ o.needs.length ≤ 1000
theorem VIs.kept {w w' : World} {v : V} {o : O} (h : VIs w v o) (g : w.grownBy w' none) : VIs w' v o := ⟨h.code, h.cr, h.pl, h.ok, h.slots.kept g, h.needs.kept g, h.few⟩
theorem VIs.keptm {w w' : World} {b : Nat} {v : V} {o : O} (h : VIs w v o) (hm : MapAt w b) (g : w.grownBy w' (some b)) : VIs w' v o := ⟨h.code, h.cr, h.pl, h.ok, h.slots.keptm hm g, h.needs.keptm hm g, h.few⟩
/-- the cells of offers -/
def vc (l : List V) : List Value := l.flatMap fun v => v.cells.toList
theorem vc_len : ∀ l : List V, (vc l).length = l.length * 5
  | [] => rfl
  | x :: t => by
    have := vc_len t
    simp only [vc, List.flatMap_cons, List.length_append, List.length_cons] at this ⊢
    rw [this, show x.cells.toList.length = 5 from rfl]
    omega
theorem vc_app (a b : List V) : vc (a ++ b) = vc a ++ vc b := by simp [vc]
theorem vc_at : ∀ (l : List V) (j : Nat) (x : V), l[j]? = some x → ∀ (i : Nat) (v : Value), x.cells[i]? = some v → (vc l)[j * 5 + i]? = some v
  | [], j, x, h, i, v, _ => by simp at h
  | y :: t, 0, x, h, i, v, hv => by
    obtain rfl : y = x := by simpa using h
    have hi : i < 5 := (Array.getElem?_eq_some_iff.1 hv).1
    simp only [vc, List.flatMap_cons]
    rw [List.getElem?_append_left (by simpa [V.cells] using hi), ← hv]
    simp
  | y :: t, j + 1, x, h, i, v, hv => by
    have ih := vc_at t j x (by simpa using h) i v hv
    have e : vc (y :: t) = y.cells.toList ++ vc t := rfl
    rw [e, List.getElem?_append_right (by rw [show y.cells.toList.length = 5 from rfl]; omega)]
    rw [← ih]
    congr 1
    rw [show y.cells.toList.length = 5 from rfl]
    omega
theorem vc_one {l : List V} {u : Value} (h : u ∈ vc l) : u.oneCell' = true := by
  obtain ⟨y, _, hy⟩ := List.mem_flatMap.1 h
  simp [V.cells] at hy
  rcases hy with rfl | rfl | rfl | rfl | rfl <;> rfl
/-- the slice A, n, c holds the offers l, which lie in memory as vs says -/
structure Offs (w : World) (A : Option Addr) (n c : Nat) (vs : List V) (l : List O) : Prop where
  v : Vals w A n c 5 (vc vs)
  len : n = l.length
  vlen : vs.length = l.length
  is : ∀ (j : Nat) (v : V) (o : O), vs[j]? = some v → l[j]? = some o → VIs w v o
theorem Offs.kept {w w' : World} {A : Option Addr} {n c : Nat} {vs : List V} {l : List O} (h : Offs w A n c vs l) (g : w.grownBy w' none) : Offs w' A n c vs l := ⟨h.v.kept g, h.len, h.vlen, fun j v o h1 h2 => (h.is j v o h1 h2).kept g⟩
theorem Offs.keptm {w w' : World} {b : Nat} {A : Option Addr} {n c : Nat} {vs : List V} {l : List O} (h : Offs w A n c vs l) (hm : MapAt w b) (g : w.grownBy w' (some b)) : Offs w' A n c vs l := ⟨h.v.keptm (by decide) hm g, h.len, h.vlen, fun j v o h1 h2 => (h.is j v o h1 h2).keptm hm g⟩
theorem Offs.nil_ (w : World) : Offs w none 0 0 [] [] := ⟨Vals.nil_ w 5, rfl, rfl, (fun _ _ _ h => by simp at h)⟩
/-- the offer at j, and its cells -/
theorem Offs.at {w : World} {A : Option Addr} {n c : Nat} {vs : List V} {l : List O} (h : Offs w A n c vs l) (j : Nat) (hj : j < n) :
    ∃ (ad : Addr) (v : V) (o : O), l[j]? = some o ∧ vs[j]? = some v ∧ A = some ad ∧ ad.block < w.heap.size ∧ VIs w v o ∧ w.cell? (ad.add (j * 5)) = some (.string ⟨v.code.toArray⟩) ∧ w.cell? ⟨(ad.add (j * 5)).block, (ad.add (j * 5)).off + 1, none⟩ = some (.int .i64 v.cr) ∧
      w.cell? ⟨(ad.add (j * 5)).block, (ad.add (j * 5)).off + 2, none⟩ = some (.int .i64 v.pl) ∧ w.cell? ⟨(ad.add (j * 5)).block, (ad.add (j * 5)).off + 3, none⟩ = some (.slice v.sA v.sn v.sc) ∧ w.cell? ⟨(ad.add (j * 5)).block, (ad.add (j * 5)).off + 4, none⟩ = some (.slice v.nA v.nn v.nc) := by
  obtain ⟨ad, e, hb, hc⟩ := h.v.cell (by omega)
  have hl := h.len
  have hv := h.vlen
  obtain ⟨o, ho⟩ : ∃ o, l[j]? = some o := ⟨_, List.getElem?_eq_getElem (by omega)⟩
  obtain ⟨v, hvj⟩ : ∃ v, vs[j]? = some v := ⟨_, List.getElem?_eq_getElem (by omega)⟩
  have hx := fun i u hu => hc (j * 5 + i) u (vc_at vs j v hvj i u hu)
  have x0 := hx 0 _ rfl
  have x1 := hx 1 _ rfl
  have x2 := hx 2 _ rfl
  have x3 := hx 3 _ rfl
  have x4 := hx 4 _ rfl
  rw [← add_add, add_at _ 1 (by omega)] at x1
  rw [← add_add, add_at _ 2 (by omega)] at x2
  rw [← add_add, add_at _ 3 (by omega)] at x3
  rw [← add_add, add_at _ 4 (by omega)] at x4
  rw [Nat.add_zero] at x0
  exact ⟨ad, v, o, ho, hvj, e, hb, h.is j v o hvj ho, x0, x1, x2, x3, x4⟩
end Go.Proofs.YtnkemoicgadefaaGreatDoor
