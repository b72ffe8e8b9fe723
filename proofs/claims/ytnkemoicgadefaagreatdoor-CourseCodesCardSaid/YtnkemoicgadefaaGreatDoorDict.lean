/-
  Maps of the call's own, as lists of keys and values; what a range over one has still to give.
-/
import Derived.Test.YtnkemoicgadefaaGreatDoorMem
import Derived.Maps.RangeRun
import Derived.MapKept
namespace Go.Proofs.YtnkemoicgadefaaGreatDoor
open Go.RowKit
open Go.ChangeMaps (setBlock)
/-- a kind of keys: how they lie in memory -/
structure KeyT {κ : Type} [DecidableEq κ] (K : TypeId) (d : TypeDesc) (enc : κ → Value) : Prop where
  und : Tryz.prog.underlying K = some d
  key : ∀ a, MapKept.IsKey d (enc a)
  same : ∀ a b, Instr.sameNow d (enc a) (enc b) = some (decide (a = b))
  bits : ∀ a, Instr.sameBits 10000 (enc a) (enc a) = true
def encS (s : Str) : Value := .string ⟨s.toArray⟩
def encI (z : Int) : Value := .int .i64 z
theorem keyS : KeyT 9 .string encS := ⟨Tryz.underlying9, fun a => by simp [MapKept.IsKey, encS], fun a b => by
  have : ((⟨a.toArray⟩ : ByteArray) == ⟨b.toArray⟩) = decide (a = b) := by
    show (a.toArray == b.toArray) = decide (a = b)
    rw [Bool.eq_iff_iff, beq_iff_eq, decide_eq_true_eq]
    exact ⟨fun h => List.toArray_inj h, fun h => by rw [h]⟩
  simp only [Instr.sameNow, encS, this], fun a => by
  show (a.toArray == a.toArray) = true
  rw [beq_iff_eq]⟩
theorem keyI : KeyT 3 (.int .i64) encI := ⟨Tryz.underlying3, fun a => by simp [MapKept.IsKey, encI], fun a b => by
  simp only [Instr.sameNow, encI, if_true, Option.some.injEq]
  rw [Bool.eq_iff_iff]
  simp, fun a => by simp [Instr.sameBits, encI]⟩
section
variable {κ : Type} [DecidableEq κ] {K E T : TypeId} {d : TypeDesc} {enc : κ → Value}
def encP (enc : κ → Value) (p : κ × Value) : Value × Value := (enc p.1, p.2)
/-- block b is a map with the entries L, in the order in which they came -/
structure Ent (enc : κ → Value) (w : World) (b : Nat) (L : List (κ × Value)) (es : Array MapEntry) (k : Nat) : Prop where
  at_ : w.heap[b]? = some (.map es k)
  is : es.toList.map (fun e => (e.key, e.val)) = L.map (encP enc)
  old : ∀ e ∈ es.toList, e.born < k
  once : (es.toList.map (·.born)).Nodup
def Dict (enc : κ → Value) (w : World) (b : Nat) (L : List (κ × Value)) : Prop := ∃ es k, Ent enc w b L es k
omit [DecidableEq κ] in
theorem Dict.map {w : World} {b : Nat} {L : List (κ × Value)} (h : Dict enc w b L) : MapAt w b := by
  obtain ⟨es, k, h⟩ := h
  exact ⟨_, h.at_, rfl⟩
omit [DecidableEq κ] in
theorem Dict.lt {w : World} {b : Nat} {L : List (κ × Value)} (h : Dict enc w b L) : b < w.heap.size := by
  obtain ⟨es, k, h⟩ := h
  exact (Array.getElem?_eq_some_iff.1 h.at_).1
omit [DecidableEq κ] in
theorem Dict.keptR {w w' : World} {b : Nat} {L : List (κ × Value)} {r : Option Nat} (h : Dict enc w b L) (g : w.grownBy w' r) (hr : some b ≠ r) : Dict enc w' b L := by
  have hl := h.lt
  obtain ⟨es, k, h⟩ := h
  exact ⟨es, k, (g.block b hl hr).trans h.at_, h.is, h.old, h.once⟩
omit [DecidableEq κ] in
theorem Dict.kept {w w' : World} {b : Nat} {L : List (κ × Value)} (h : Dict enc w b L) (g : w.grownBy w' none) : Dict enc w' b L := h.keptR g (by simp)
omit [DecidableEq κ] in
theorem Dict.made (w : World) : Dict enc (w.alloc (.map #[] 0)) w.heap.size ([] : List (κ × Value)) := ⟨#[], 0, World.alloc_heap_new w _, rfl, (fun _ h => by simp at h), by simp⟩
def lk {κ α : Type} [DecidableEq κ] : List (κ × α) → κ → Option α
  | [], _ => none
  | (a, v) :: t, k => if k = a then some v else lk t k
theorem lk_lookup {α : Type} : ∀ (m : List (Str × α)) (k : Str), m.lookup k = lk m k
  | [], _ => rfl
  | (a, v) :: t, k => by
    unfold lk
    rw [List.lookup]
    by_cases e : k = a
    · subst e; simp
    · have : (k == a) = false := by simpa using e
      rw [if_neg e, this]
      exact lk_lookup t k
theorem lk_map {κ α β : Type} [DecidableEq κ] (g : α → β) : ∀ (z : List (κ × α)) (k : κ), lk (z.map fun p => (p.1, g p.2)) k = (lk z k).map g
  | [], _ => rfl
  | (a, v) :: z, k => by
    simp only [List.map_cons, lk]
    split
    · rfl
    · exact lk_map g z k
theorem mem_of_lk {κ α : Type} [DecidableEq κ] : ∀ {z : List (κ × α)} {k : κ} {v : α}, lk z k = some v → (k, v) ∈ z
  | (a, u) :: z, k, v, h => by
    unfold lk at h
    by_cases e : k = a
    · rw [if_pos e] at h
      injection h with h
      rw [e, h]
      simp
    · rw [if_neg e] at h
      exact List.mem_cons_of_mem _ (mem_of_lk h)
/-- where a key stands, and its value -/
def fi : List (κ × Value) → κ → Option (Nat × Value)
  | [], _ => none
  | (a, v) :: t, k => if k = a then some (0, v) else (fi t k).map fun p => (p.1 + 1, p.2)
theorem fi_look : ∀ (L : List (κ × Value)) (k : κ), (fi L k).map (·.2) = lk L k
  | [], _ => rfl
  | (a, v) :: t, k => by
    unfold fi lk
    by_cases e : k = a
    · rw [if_pos e, if_pos e]; rfl
    · rw [if_neg e, if_neg e, ← fi_look t k, Option.map_map]
      rfl
theorem find_fi (C : KeyT K d enc) (k : κ) : ∀ (es : List MapEntry) (L : List (κ × Value)) (i : Nat), es.map (fun e => (e.key, e.val)) = L.map (encP enc) → Instr.findNow d (enc k) es i = some ((fi L k).map fun p => (i + p.1, p.2))
  | [], [], _, _ => rfl
  | [], _ :: _, _, h => by simp at h
  | _ :: _, [], _, h => by simp at h
  | e :: es, (a, v) :: L, i, h => by
    simp only [List.map_cons, List.cons.injEq] at h
    obtain ⟨h1, h2⟩ := h
    have hk : e.key = enc a := congrArg Prod.fst h1
    have hv : e.val = v := congrArg Prod.snd h1
    unfold Instr.findNow fi
    rw [hk, C.same, hv]
    by_cases c : k = a
    · rw [if_pos c, decide_eq_true c]
      rfl
    · rw [if_neg c, decide_eq_false c]
      show Instr.findNow d (enc k) es (i + 1) = _
      rw [find_fi C k es L (i + 1) h2, Option.map_map]
      congr 1
      cases fi L k with
      | none => rfl
      | some p =>
        simp only [Option.map_some, Function.comp]
        congr 2
        omega
/-- m[k] -/
theorem Dict.look (C : KeyT K d enc) (hT : Tryz.prog.underlying T = some (.map K E)) {w : World} {b : Nat} {L : List (κ × Value)} (h : Dict enc w b L) {z : Value} (hz : (zeroValue E).run Tryz.prog w = .ok z w) (k : κ) (ok : Bool) :
    (Instr.lookup T (.map (some b)) (enc k) ok).run Tryz.prog w = .ok (if ok then .tuple #[(lk L k).getD z, .bool (lk L k).isSome] else (lk L k).getD z) w := by
  obtain ⟨es, c, h⟩ := h
  have hf := find_fi C k es.toList L 0 h.is
  have hc := MapKept.run_checkKey (P := Tryz.prog) (w := w) C.und (C.key k) es.isEmpty 9999
  have hfk := MapKept.run_findKey (P := Tryz.prog) (w := w) C.und hf
  rw [← fi_look L k]
  unfold Instr.lookup
  cases hfi : fi L k with
  | none =>
    rw [hfi] at hfk
    cases ok <;> simp [run_underlying hT, MapKept.run_getObj_map h.at_, hc, hfk, hz, Result.andThen]
  | some p =>
    rw [hfi] at hfk
    cases ok <;> simp [run_underlying hT, MapKept.run_getObj_map h.at_, hc, hfk, Result.andThen]
theorem makeMap_k (hT : Tryz.prog.underlying T = some (.map K E)) (n : Int) (w : World) : (Instr.makeMap T (some (.int .i64 n))).run Tryz.prog w = .ok (.map (some w.heap.size)) (w.alloc (.map #[] 0)) := by
  simp [Instr.makeMap, run_underlying hT, asInt]
  rfl
theorem look_nil (C : KeyT K d enc) (hT : Tryz.prog.underlying T = some (.map K E)) {w : World} {z : Value} (hz : (zeroValue E).run Tryz.prog w = .ok z w) (k : κ) :
    (Instr.lookup T (.map none) (enc k) false).run Tryz.prog w = .ok z w := by
  have hc := MapKept.run_checkKey (P := Tryz.prog) (w := w) C.und (C.key k) true 9999
  have hfk := MapKept.run_findKey (P := Tryz.prog) (w := w) (k := enc k) (l := []) C.und (a := none) rfl
  unfold Instr.lookup
  simp [run_underlying hT, hc, hfk, hz, Result.andThen]
/-- the entries behind m[k] = v -/
def putL : List (κ × Value) → κ → Value → List (κ × Value)
  | [], k, v => [(k, v)]
  | (a, u) :: t, k, v => if k = a then (a, v) :: t else (a, u) :: putL t k v
theorem putL_look : ∀ (L : List (κ × Value)) (k : κ) (v : Value) (s : κ), lk (putL L k v) s = if s = k then some v else lk L s
  | [], k, v, s => rfl
  | (a, u) :: t, k, v, s => by
    unfold putL
    by_cases c : k = a
    · subst c
      rw [if_pos rfl]
      unfold lk
      by_cases e : s = k
      · rw [if_pos e, if_pos e]
      · rw [if_neg e, if_neg e, if_neg e]
    · rw [if_neg c]
      unfold lk
      by_cases e : s = a
      · subst e
        rw [if_pos rfl, if_pos rfl, if_neg (fun h : s = k => c h.symm)]
      · rw [if_neg e, if_neg e]
        exact putL_look t k v s
theorem putL_none : ∀ (L : List (κ × Value)) (k : κ) (v : Value), fi L k = none → putL L k v = L ++ [(k, v)]
  | [], _, _, _ => rfl
  | (a, u) :: t, k, v, h => by
    unfold fi at h
    unfold putL
    by_cases c : k = a
    · rw [if_pos c] at h; cases h
    · rw [if_neg c] at h ⊢
      rw [putL_none t k v (by simpa using h)]
      rfl
theorem putL_some : ∀ (L : List (κ × Value)) (k : κ) (v u : Value) (i : Nat), fi L k = some (i, u) → L[i]? = some (k, u) ∧ putL L k v = L.set i (k, v)
  | [], _, _, _, _, h => by cases h
  | (a, x) :: t, k, v, u, i, h => by
    unfold fi at h
    unfold putL
    by_cases c : k = a
    · rw [if_pos c] at h ⊢
      injection h with h
      injection h with h1 h2
      subst h1 h2 c
      exact ⟨rfl, rfl⟩
    · rw [if_neg c] at h ⊢
      obtain ⟨⟨j, y⟩, hp, e⟩ := Option.map_eq_some_iff.1 h
      simp only [Prod.mk.injEq] at e
      obtain ⟨e1, e2⟩ := e
      subst e1 e2
      obtain ⟨h1, h2⟩ := putL_some t k v y j hp
      exact ⟨by simpa using h1, by rw [h2]; rfl⟩
/-- m[k] = v -/
theorem Dict.put (C : KeyT K d enc) (hT : Tryz.prog.underlying T = some (.map K E)) {w : World} {b : Nat} {L : List (κ × Value)} (h : Dict enc w b L) (k : κ) (v : Value) :
    ∃ w', (Instr.mapUpdate T (.map (some b)) (enc k) v).run Tryz.prog w = .ok () w' ∧ Dict enc w' b (putL L k v) ∧ w.grownBy w' (some b) ∧ w'.heap.size = w.heap.size := by
  obtain ⟨es, c, h⟩ := h
  have hf := find_fi C k es.toList L 0 h.is
  have hc := MapKept.run_checkKey (P := Tryz.prog) (w := w) C.und (C.key k) false 9999
  have hfk := MapKept.run_findKey (P := Tryz.prog) (w := w) C.und hf
  have hg : ∀ o : Obj, w.grownBy { w with heap := w.heap.setIfInBounds b o } (some b) := fun o => ⟨rfl, rfl, rfl, by simp, fun i hi hne => (MapKept.heap_set h.at_).2 i (by rintro rfl; exact hne rfl)⟩
  unfold Instr.mapUpdate
  cases hfi : fi L k with
  | none =>
    rw [hfi] at hfk
    refine ⟨{ w with heap := w.heap.setIfInBounds b (.map (es.push { key := enc k, val := v, born := c }) (c + 1)) }, by simp [run_underlying hT, MapKept.run_getObj_map h.at_, hc, hfk, MapKept.run_setObj_map _ h.at_, Result.andThen], ?_, hg _, by simp⟩
    refine ⟨_, _, (MapKept.heap_set h.at_).1, ?_, ?_, ?_⟩
    · rw [putL_none L k v hfi]
      simp [h.is, encP]
    · intro e he
      simp only [Array.toList_push, List.mem_append, List.mem_singleton] at he
      rcases he with he | rfl
      · have := h.old e he; omega
      · exact Nat.lt_succ_self _
    · simp only [Array.toList_push, List.map_append, List.map_cons, List.map_nil]
      rw [List.nodup_append]
      refine ⟨h.once, by simp, fun a ha b hb e => ?_⟩
      obtain ⟨x, hx, rfl⟩ := List.mem_map.1 ha
      have := h.old x hx
      simp at hb
      omega
  | some p =>
    obtain ⟨i, u⟩ := p
    rw [hfi] at hfk
    obtain ⟨h1, h2⟩ := putL_some L k v u i hfi
    have hkey : ((es[i]?).map (·.key)).getD (enc k) = enc k := by
      have := congrArg (fun z => z[i]?) h.is
      simp only [List.getElem?_map, h1, Option.map_some] at this
      rw [Array.getElem?_toList] at this
      cases he : es[i]? with
      | none => rfl
      | some e =>
        rw [he] at this
        simp only [Option.map_some, Option.some.injEq, Prod.mk.injEq, encP] at this
        simp [this.1]
    simp only [Option.map_some, Nat.zero_add] at hfk
    refine ⟨{ w with heap := w.heap.setIfInBounds b (.map (es.modify i fun e => { e with key := enc k, val := v }) c) }, by simp [run_underlying hT, MapKept.run_getObj_map h.at_, hc, hfk, hkey, Instr.keyThatStays, C.bits, MapKept.run_setObj_map _ h.at_, Result.andThen], ?_, hg _, by simp⟩
    refine ⟨_, _, (MapKept.heap_set h.at_).1, ?_, ?_, ?_⟩
    · rw [h2]
      apply List.ext_getElem?
      intro j
      have hj := congrArg (fun z => z[j]?) h.is
      simp only [List.getElem?_map, Array.getElem?_toList, Array.getElem?_modify, List.getElem?_set] at hj ⊢
      by_cases e : i = j
      · subst e
        have hlt : i < L.length := (List.getElem?_eq_some_iff.1 h1).1
        rw [h1] at hj
        rw [if_pos rfl, if_pos rfl, if_pos hlt]
        cases he : es[i]? with
        | none => rw [he] at hj; cases hj
        | some x => simp [encP]
      · rw [if_neg e, if_neg e]
        exact hj
    · intro e he
      obtain ⟨j, hj⟩ := List.getElem?_of_mem he
      rw [Array.getElem?_toList, Array.getElem?_modify] at hj
      split at hj
      · obtain ⟨x, hx, rfl⟩ := Option.map_eq_some_iff.1 hj
        exact h.old x (by simpa using Array.mem_of_getElem? hx)
      · exact h.old e (by simpa using Array.mem_of_getElem? hj)
    · have : (es.modify i fun e => { e with key := enc k, val := v }).toList.map (·.born) = es.toList.map (·.born) := by
        apply List.ext_getElem?
        intro j
        simp only [List.getElem?_map, Array.getElem?_toList, Array.getElem?_modify]
        split
        · cases es[j]? <;> rfl
        · rfl
      rw [this]
      exact h.once
/-- a range in block r over the map in block b, whose entries are L; left is what it has still to give -/
def Rng (enc : κ → Value) (w : World) (b r : Nat) (L left : List (κ × Value)) : Prop := ∃ es k since seen last, Ent enc w b L es k ∧ w.heap[r]? = some (.mapIter (some b) since seen last) ∧ (∀ e ∈ es.toList, e.born < since) ∧ since ≤ last ∧ since ≤ k ∧
  (leftOf es seen).toList.map (fun e => (e.key, e.val)) = left.map (encP enc)
omit [DecidableEq κ] in
theorem Rng.dict {w : World} {b r : Nat} {L left : List (κ × Value)} (h : Rng enc w b r L left) : Dict enc w b L := by
  obtain ⟨es, k, _, _, _, h, _⟩ := h
  exact ⟨es, k, h⟩
omit [DecidableEq κ] in
theorem Rng.lt {w : World} {b r : Nat} {L left : List (κ × Value)} (h : Rng enc w b r L left) : r < w.heap.size := by
  obtain ⟨es, k, _, _, _, _, h, _⟩ := h
  exact (Array.getElem?_eq_some_iff.1 h).1
omit [DecidableEq κ] in
theorem Rng.keptR {w w' : World} {b r : Nat} {L left : List (κ × Value)} {x : Option Nat} (h : Rng enc w b r L left) (g : w.grownBy w' x) (hb : some b ≠ x) (hr : some r ≠ x) : Rng enc w' b r L left := by
  have h1 := h.dict.lt
  have h2 := h.lt
  obtain ⟨es, k, since, seen, last, he, hi, ho, hs, hsk, hl⟩ := h
  exact ⟨es, k, since, seen, last, ⟨(g.block b h1 hb).trans he.at_, he.is, he.old, he.once⟩, (g.block r h2 hr).trans hi, ho, hs, hsk, hl⟩
omit [DecidableEq κ] in
theorem Rng.kept {w w' : World} {b r : Nat} {L left : List (κ × Value)} (h : Rng enc w b r L left) (g : w.grownBy w' none) : Rng enc w' b r L left := h.keptR g (by simp) (by simp)
omit [DecidableEq κ] in
theorem Rng.ne {w : World} {b r : Nat} {L left : List (κ × Value)} (h : Rng enc w b r L left) : r ≠ b := by
  obtain ⟨es, k, since, seen, last, he, hi, _⟩ := h
  intro e
  rw [e, he.at_] at hi
  cases hi
omit [DecidableEq κ] in
theorem Rng.iter {w : World} {b r : Nat} {L left : List (κ × Value)} (h : Rng enc w b r L left) : MapAt w r := by
  obtain ⟨es, k, since, seen, last, he, hi, _⟩ := h
  exact ⟨_, hi, rfl⟩
omit [DecidableEq κ] in
theorem Rng.off {κ' : Type} {enc' : κ' → Value} {w : World} {b r x : Nat} {L left : List (κ × Value)} {M : List (κ' × Value)} (h : Rng enc w b r L left) (hm : Dict enc' w x M) : r ≠ x := by
  obtain ⟨es, k, since, seen, last, he, hi, _⟩ := h
  obtain ⟨es', k', hx⟩ := hm
  intro e
  rw [e, hx.at_] at hi
  cases hi
omit [DecidableEq κ] in
/-- range m -/
theorem Dict.range (hT : Tryz.prog.underlying T = some (.map K E)) {w : World} {b : Nat} {L : List (κ × Value)} (h : Dict enc w b L) :
    ∃ w', (Instr.range T (.map (some b))).run Tryz.prog w = .ok (.pointer (some ⟨w.heap.size, 0, none⟩)) w' ∧ Rng enc w' b w.heap.size L L ∧ w.grownBy w' none ∧ w'.heap.size = w.heap.size + 1 := by
  have hlt := h.lt
  obtain ⟨es, k, h⟩ := h
  have hg := World.grownBy_alloc w (.mapIter (some b) k #[] k) none
  refine ⟨_, run_range_map w T K E b es k hT h.at_, ⟨es, k, k, #[], k, ⟨(hg.block b hlt (by simp)).trans h.at_, h.is, h.old, h.once⟩, World.alloc_heap_new w _, h.old, Nat.le_refl _, Nat.le_refl _, ?_⟩, hg, by simp⟩
  have : leftOf es #[] = es := by unfold leftOf; exact Array.filter_eq_self.2 (fun x _ => by simp)
  rw [this]
  exact h.is
theorem filter_ne {l : List MapEntry} {pre post : List MapEntry} {e : MapEntry} (hl : l = pre ++ e :: post) (hn : (l.map (·.born)).Nodup) : l.filter (fun x => !(x.born == e.born)) = pre ++ post := by
  subst hl
  rw [List.map_append, List.map_cons, List.nodup_append, List.nodup_cons] at hn
  obtain ⟨_, ⟨h2, _⟩, h3⟩ := hn
  rw [List.filter_append, List.filter_cons]
  have e1 : (!(e.born == e.born)) = false := by simp
  rw [e1, if_neg (by decide)]
  rw [List.filter_eq_self.2 (fun x hx => ?_), List.filter_eq_self.2 (fun x hx => ?_)]
  · have : x.born ≠ e.born := fun h => h2 (by rw [← h]; exact List.mem_map.2 ⟨x, hx, rfl⟩)
    simpa using this
  · have : x.born ≠ e.born := h3 _ (List.mem_map.2 ⟨x, hx, rfl⟩) _ (by simp)
    simpa using this
omit [DecidableEq κ] in
/-- the step of a range -/
theorem Rng.next {w : World} {b r : Nat} {L left : List (κ × Value)} (h : Rng enc w b r L left) (ty : TypeId) :
    (left = [] ∧ (Instr.next (.pointer (some ⟨r, 0, none⟩)) false ty).run Tryz.prog w = .ok (.tuple #[.bool false]) w) ∨
    ∃ (pre post : List (κ × Value)) (p : κ × Value) (w' : World), left = pre ++ p :: post ∧ (Instr.next (.pointer (some ⟨r, 0, none⟩)) false ty).run Tryz.prog w = .ok (.tuple #[.bool true, enc p.1, p.2]) w' ∧
      Rng enc w' b r L (pre ++ post) ∧ w.grownBy w' (some r) ∧ w'.heap.size = w.heap.size ∧ (Instr.entry (.pointer (some ⟨r, 0, none⟩))).run Tryz.prog w' = .ok (.tuple #[enc p.1, p.2]) w' := by
  have hrb := h.ne
  obtain ⟨es, k, since, seen, last, he, hi, ho, hs, hsk, hl⟩ := h
  rcases run_next_at (P := Tryz.prog) w ty r b since last seen es k hi he.at_ ho hs with ⟨h0, hrun⟩ | ⟨e, hem, w1, hw1, hrun⟩
  · refine .inl ⟨?_, hrun⟩
    have : (leftOf es seen).toList = [] := List.eq_nil_of_length_eq_zero (by simpa using h0)
    rw [this] at hl
    cases left with
    | nil => rfl
    | cons _ _ => simp at hl
  · right
    obtain ⟨i, hii⟩ := List.getElem?_of_mem hem
    obtain ⟨hilt, hie⟩ := List.getElem?_eq_some_iff.1 hii
    have hsp : (leftOf es seen).toList = (leftOf es seen).toList.take i ++ e :: (leftOf es seen).toList.drop (i + 1) := by
      rw [← hie, ← List.drop_eq_getElem_cons hilt, List.take_append_drop]
    have hll : i < left.length := by
      have := congrArg List.length hl
      simp only [List.length_map] at this
      omega
    have hlsp : left = left.take i ++ left[i] :: left.drop (i + 1) := by rw [← List.drop_eq_getElem_cons hll, List.take_append_drop]
    have hat : (e.key, e.val) = encP enc left[i] := by
      have := congrArg (fun z => z[i]?) hl
      simpa [hii, List.getElem?_eq_getElem hll] using this
    have hek : e.key = enc left[i].1 := congrArg Prod.fst hat
    have hev : e.val = left[i].2 := congrArg Prod.snd hat
    have hg1 : w.grownBy w1 none := by
      rcases hw1 with rfl | rfl
      · exact grown_refl _
      · exact grown_dr (grown_refl _)
    have hr1 : w1.heap[r]? = some (.mapIter (some b) since seen last) := (hg1.block r (Array.getElem?_eq_some_iff.1 hi).1 (by simp)).trans hi
    have hb1 : w1.heap[b]? = some (.map es k) := (hg1.block b (Array.getElem?_eq_some_iff.1 he.at_).1 (by simp)).trans he.at_
    have hrlt : r < w1.heap.size := (Array.getElem?_eq_some_iff.1 hr1).1
    have hset : ∀ o, (setBlock w1 r o).heap[r]? = some o := fun o => by simp [setBlock, hrlt]
    have hoth : ∀ o i, i ≠ r → (setBlock w1 r o).heap[i]? = w1.heap[i]? := fun o i hne => by simp [setBlock, Ne.symm hne]
    have hgs : ∀ o, w.grownBy (setBlock w1 r o) (some r) := fun o => ⟨hg1.os, hg1.tape, hg1.output, by simp [setBlock]; exact hg1.size, fun i hi2 hne => by
      rw [hoth o i (by rintro rfl; exact hne rfl)]
      exact hg1.block i hi2 (by simp)⟩
    have hsz : w1.heap.size = w.heap.size := by rcases hw1 with rfl | rfl <;> rfl
    have hbs : ∀ o, (setBlock w1 r o).heap[b]? = some (.map es k) := fun o => by rw [hoth o b (Ne.symm hrb)]; exact hb1
    rw [hek, hev] at hrun
    have hme := mem_left hem
    refine ⟨left.take i, left.drop (i + 1), left[i], _, hlsp, hrun, ⟨es, k, since, seen.push e.born, k, ⟨hbs _, he.is, he.old, he.once⟩, hset _, ho, hsk, hsk, ?_⟩, hgs _, by simp [setBlock, hsz], ?_⟩
    · have hf : (leftOf es (seen.push e.born)).toList = (leftOf es seen).toList.filter (fun x => !(x.born == e.born)) := by
        unfold leftOf
        rw [Array.toList_filter, Array.toList_filter, List.filter_filter]
        congr 1
        funext x
        rw [contains_push]
        cases seen.contains x.born <;> cases x.born == e.born <;> rfl
      have hnd : ((leftOf es seen).toList.map (·.born)).Nodup := by
        unfold leftOf
        rw [Array.toList_filter]
        exact he.once.sublist (List.filter_sublist.map _)
      rw [hf, filter_ne hsp hnd, List.map_append, List.map_append]
      have h3 := congrArg (List.take i) hl
      have h4 := congrArg (List.drop (i + 1)) hl
      rw [← List.map_take, ← List.map_take] at h3
      rw [← List.map_drop, ← List.map_drop] at h4
      rw [h3, h4]
    · have := run_entry_at (P := Tryz.prog) _ r b since seen es k e (hset (.mapIter (some b) since (seen.push e.born) k)) (hbs _) hme.1 he.once
      rw [hek, hev] at this
      exact this
end
end Go.Proofs.YtnkemoicgadefaaGreatDoor
