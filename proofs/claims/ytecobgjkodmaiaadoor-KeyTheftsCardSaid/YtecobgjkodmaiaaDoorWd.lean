/-
  The world that every call of this seat begins in; keys and rings in memory; the library's contracts in these words.
-/
import Derived.Test.YtecobgjkodmaiaaDoorShelf
import Derived.Test.YtecobgjkodmaiaaDoorDec
import Derived.Test.YtecobgjkodmaiaaDoorDRef
import Derived.Laws.Tables
import Derived.Laws.Rows
import Derived.Maps.RangeWalk
import Derived.Maps.AppendAt
import Derived.Maps.Range
import Derived.OwnWalk
import Derived.Deep.AppendLies
import Derived.Deep.CutBlock
import Derived.RangeFuncRecord
namespace Go.Proofs.YtecobgjkodmaiaaDoor
open Go.RowKit
theorem grown_dn {a w : World} {k : Nat} (h : a.grownBy w none) : a.grownBy (w.drewN k) none := h.trans (grown_drewN _ _ _)
theorem gcell {w w' : World} {a : Addr} {v : Value} (h : w.grownBy w' none) (c : w.cell? a = some v) : w'.cell? a = some v := h.cell c (by simp)
theorem cell_at {w : World} {b i : Nat} {cs : Array Value} {t : TypeId} (h : b = w.heap.size) : (w.alloc (.cells cs t)).cell? ⟨b, i, none⟩ = cs[i]? := by
  subst h; exact World.cell?_alloc_new ..
theorem grown_refl (w : World) : w.grownBy w none := ⟨rfl, rfl, rfl, Nat.le_refl _, fun _ _ _ => rfl⟩
theorem grown_setCell (w : World) (b i : Nat) (v : Value) : w.grownBy (w.setCell ⟨b, i, none⟩ v) (some b) :=
  ⟨rfl, rfl, rfl, by simp [World.setCell], fun k _ hne => Below.heap_setCell w _ v k (by rintro rfl; exact hne rfl)⟩
theorem grown_set {a x : World} {row : Option Nat} {o i : Nat} {v : Value} (h : a.grownBy x row) (ho : a.heap.size ≤ o ∨ row = some o) : a.grownBy (x.setCell ⟨o, i, none⟩ v) row :=
  h.andThen (grown_setCell x o i v) (by rintro j ⟨⟩; exact ho)
theorem add_at (a : Addr) (i : Nat) (hi : 0 < i) : a.add i = ⟨a.block, a.off + i, none⟩ := by
  unfold Addr.add; split
  · omega
  · rfl
theorem add_block (a : Addr) (n : Nat) : (a.add n).block = a.block := by unfold Addr.add; split <;> rfl
theorem add_zero (g j : Nat) : (⟨g, 0, none⟩ : Addr).add j = ⟨g, j, none⟩ := by unfold Addr.add; split <;> simp_all
def Row (w : World) (B : Nat) (t : TypeId) (vs : Array Value) : Prop := w.heap[B]? = some (.cells vs t (0, 0))
theorem Row.c {w : World} {B : Nat} {t : TypeId} {vs : Array Value} (h : Row w B t vs) (i : Nat) {v : Value} (e : vs[i]? = some v) : w.cell? ⟨B, i, none⟩ = some v := by unfold Row at h; simp [World.cell?, h, e]
theorem Row.fz {w : World} {B : Nat} {t : TypeId} {vs : Array Value} (h : Row w B t vs) (i : Nat) : w.frozen? ⟨B, i, none⟩ = false := by unfold Row at h; simp [World.frozen?, h]
theorem Row.lt {w : World} {B : Nat} {t : TypeId} {vs : Array Value} (h : Row w B t vs) : B < w.heap.size := by
  rcases Nat.lt_or_ge B w.heap.size with hlt | hge
  · exact hlt
  · unfold Row at h; rw [Array.getElem?_eq_none hge] at h; cases h
theorem Row.kept {w w' : World} {B : Nat} {t : TypeId} {vs : Array Value} (h : Row w B t vs) (hg : w.grownBy w' none) : Row w' B t vs := (hg.block B h.lt (by simp)).trans h
theorem Row.new (w : World) (t : TypeId) (vs : Array Value) : Row (w.alloc (.cells vs t)) w.heap.size t vs := World.alloc_heap_new w _
theorem Row.far {w : World} {b o i : Nat} {v : Value} {t : TypeId} {vs : Array Value} (h : Row w b t vs) (hne : b ≠ o) : Row (w.setCell ⟨o, i, none⟩ v) b t vs :=
  ((grown_setCell w o i v).block b h.lt (by simpa using hne)).trans h
theorem row_of (w : World) (t : TypeId) (vs : Array Value) : ∃ w1, w1 = w.alloc (.cells vs t) ∧ Row w1 w.heap.size t vs ∧ w.grownBy w1 none := ⟨_, rfl, Row.new w t vs, World.grownBy_alloc _ _ none⟩
theorem Row.set {w : World} {B : Nat} {t : TypeId} {vs : Array Value} (h : Row w B t vs) (i : Nat) (v : Value) : Row (w.setCell ⟨B, i, none⟩ v) B t (vs.setIfInBounds i v) := by
  unfold Row at h ⊢
  simp [World.setCell, Array.getElem?_modify, h]

/-- what the package-level variables hold that the library reads -/
structure Base (w : World) : Prop where
  tab : Lib.TabIs Tryd.prog w "internal/strconv.uint64pow10" .u64 Lib.pow10Tab
  size : 3 ≤ w.heap.size
theorem gTab : Tryd.prog.globalNamed "internal/strconv.uint64pow10" = some 0 := by kernel_rfl
theorem Base.grown {w w' : World} {row : Option Nat} (h : Base w) (hg : w.grownBy w' row) (hr : ∀ b, row = some b → 3 ≤ b) : Base w' := by
  have hs := h.size
  have hb : ∀ i, i < 3 → w'.heap[i]? = w.heap[i]? := fun i hi => hg.block i (by omega) (fun e => by have := hr i e.symm; omega)
  refine ⟨?_, Nat.le_trans h.size hg.size⟩
  have ht := h.tab
  unfold Lib.TabIs World.var? at ht ⊢
  rw [gTab] at ht ⊢
  simp only [Option.bind_some] at ht ⊢
  rw [hb 0 (by omega)]
  exact ht
theorem Base.none_ {w w' : World} (h : Base w) (hg : w.grownBy w' none) : Base w' := h.grown hg (by simp)
theorem grown_grow (w : World) (os : Array Obj) (row : Option Nat) : w.grownBy (Go.Sort.grow w os) row :=
  ⟨rfl, rfl, rfl, by simp, fun i hi _ => Go.Sort.heap_grow_old w os hi⟩
/-- strconv.Itoa -/
theorem itoa_k (n : Int) (h : i64 n) (w : World) (hb : Base w) :
    Calls Tryd.prog 55 #[.int .i64 n] w fun e w' => e = .returned (.string ⟨(Lib.itoa n).toArray⟩) ∧ w.grownBy w' none :=
  (Tryd.strconv_Itoa n h.1 (by have := h.2; omega) w hb.tab).mono fun _ _ ⟨he, k, os, hw⟩ => ⟨he, by rw [hw]; exact (grown_drewN w k none).trans (grown_grow _ os none)⟩
/-- a key -/
structure K where
  id : Int
  sec : Str
  frm : Int
  stl : Int
deriving DecidableEq
def K.cells (k : K) : Array Value := #[.int .i64 k.id, .string ⟨k.sec.toArray⟩, .int .i64 k.frm, .int .i64 k.stl]
def K.val (k : K) : Value := .agg #[.int .i64 k.id, .string ⟨k.sec.toArray⟩, .int .i64 k.frm, .int .i64 k.stl]
/-- numbers of Go, and a string that memory can hold -/
def K.ok (k : K) : Prop := i64 k.id ∧ i64 k.frm ∧ i64 k.stl ∧ k.sec.length ≤ 1152921504606846976
/-- the slice A, n, c holds the keys l -/
structure Keys (w : World) (A : Option Addr) (n c : Nat) (l : List K) : Prop where
  len : n = l.length
  le : n ≤ c
  cap : c ≤ 9223372036854775807
  nil : A = none → c = 0
  ok : ∀ x ∈ l, x.ok
  cell : 0 < n → ∃ ad, A = some ad ∧ ad.block < w.heap.size ∧ ∀ (j : Nat) (x : K), l[j]? = some x → ∀ (i : Nat) (v : Value), x.cells[i]? = some v → w.cell? ((ad.add (j * 4)).add i) = some v
theorem Keys.kept {w w' : World} {A : Option Addr} {n c : Nat} {l : List K} (h : Keys w A n c l) (g : w.grownBy w' none) : Keys w' A n c l :=
  ⟨h.len, h.le, h.cap, h.nil, h.ok, fun hn => by
    obtain ⟨ad, e, hb, hc⟩ := h.cell hn
    exact ⟨ad, e, Nat.lt_of_lt_of_le hb g.size, fun j x hj i v hv => gcell g (hc j x hj i v hv)⟩⟩
/-- the cells of the key at j -/
theorem Keys.at {w : World} {A : Option Addr} {n c : Nat} {l : List K} (h : Keys w A n c l) (j : Nat) (hj : j < n) :
    ∃ (ad : Addr) (x : K), l[j]? = some x ∧ A = some ad ∧ ad.block < w.heap.size ∧ x.ok ∧ w.cell? (ad.add (j * 4)) = some (.int .i64 x.id) ∧ w.cell? ⟨(ad.add (j * 4)).block, (ad.add (j * 4)).off + 1, none⟩ = some (.string ⟨x.sec.toArray⟩) ∧
      w.cell? ⟨(ad.add (j * 4)).block, (ad.add (j * 4)).off + 2, none⟩ = some (.int .i64 x.frm) ∧ w.cell? ⟨(ad.add (j * 4)).block, (ad.add (j * 4)).off + 3, none⟩ = some (.int .i64 x.stl) := by
  obtain ⟨ad, e, hb, hc⟩ := h.cell (by omega)
  have hl := h.len
  obtain ⟨x, hg⟩ : ∃ x, l[j]? = some x := ⟨_, List.getElem?_eq_getElem (by omega)⟩
  have hx := hc j _ hg
  have x0 := hx 0 _ rfl
  have x1 := hx 1 _ rfl
  have x2 := hx 2 _ rfl
  have x3 := hx 3 _ rfl
  rw [add_at _ 1 (by omega)] at x1
  rw [add_at _ 2 (by omega)] at x2
  rw [add_at _ 3 (by omega)] at x3
  rw [show (ad.add (j * 4)).add 0 = ad.add (j * 4) by simp [Addr.add]] at x0
  exact ⟨ad, x, hg, e, hb, h.ok x (List.mem_of_getElem? hg), x0, x1, x2, x3⟩
/-- a ring -/
def ring (s : Int) (A : Option Addr) (n c : Nat) : Value := .agg #[.int .i64 s, .slice A n c]

def rightD (d : Int) : Bool := decide (0 ≤ d) && decide (d ≤ 100000)
def canS (k : K) (day : Int) : Bool := (day != 0) && rightD day && decide (k.frm ≤ day)
def stolenB (k : K) (day : Int) : Bool := (k.stl != 0) && decide (k.stl ≤ day)
def K0 : K := ⟨0, [], 0, 0⟩
def chkN (b k : K) : Int :=
  if k.id < 1 ∨ k.sec = [] ∨ 40 < k.sec.length then 3
  else if k.id ≤ b.id then 7
  else if rightD k.frm = false ∨ (k.stl ≠ 0 ∧ canS k k.stl = false) then 23
  else if k.frm < b.frm then 7 else 0
def chkL : K → List K → Int
  | _, [] => 0
  | b, k :: l => if chkN b k = 0 then chkL k l else chkN b k
def chkR (s : Int) (l : List K) : Int := if s < 1 ∨ 8 < s then 1 else if 20 < l.length then 2 else chkL K0 l
/-- date.Right -/
theorem day_k (d : Int) (hd : i64 d) (w : World) : Calls Tryd.prog 48 #[.int .i64 d] w fun e w' => e = .returned (.bool (rightD d)) ∧ w' = w := by
  obtain ⟨h1, h2⟩ := hd
  by_cases c1 : 0 ≤ d
  · by_cases c2 : d ≤ 100000
    · go_enter Tryd.func48, Tryd.ntmps48
      go_wp2_with fail
      go_ret
      exact ⟨by simp [rightD, c1, c2], rfl⟩
    · go_enter Tryd.func48, Tryd.ntmps48
      go_wp2_with fail
      go_ret
      exact ⟨by simp [rightD, c1, c2], rfl⟩
  · go_enter Tryd.func48, Tryd.ntmps48
    go_wp2_with fail
    go_ret
    exact ⟨by have : decide (0 ≤ d) = false := by simpa using c1
              rw [rightD, this]; rfl, rfl⟩
theorem day_r (d : Int) (hd : i64 d) (w : World) : Calls Tryd.prog 39 #[.int .i64 d] w fun e w' => e = .returned (.bool (rightD d)) ∧ w' = w := by
  obtain ⟨h1, h2⟩ := hd
  by_cases c1 : 0 ≤ d
  · by_cases c2 : d ≤ 100000
    · go_enter Tryd.func39, Tryd.ntmps39
      go_wp2_with fail
      go_ret
      exact ⟨by simp [rightD, c1, c2], rfl⟩
    · go_enter Tryd.func39, Tryd.ntmps39
      go_wp2_with fail
      go_ret
      exact ⟨by simp [rightD, c1, c2], rfl⟩
  · go_enter Tryd.func39, Tryd.ntmps39
    go_wp2_with fail
    go_ret
    exact ⟨by have : decide (0 ≤ d) = false := by simpa using c1
              rw [rightD, this]; rfl, rfl⟩
end Go.Proofs.YtecobgjkodmaiaaDoor
