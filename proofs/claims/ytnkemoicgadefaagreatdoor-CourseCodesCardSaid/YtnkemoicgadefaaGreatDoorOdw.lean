/-
  Odd catalogs: words.
-/
import Derived.Test.YtnkemoicgadefaaGreatDoorMwd
namespace Go.Proofs.YtnkemoicgadefaaGreatDoor
open Go.RowKit
attribute [local go_sem] get_mk extract_mk
/-- a block of an offer's lists -/
def has (u : V) (k : Nat) : Prop := (Value.slice u.sA u.sn u.sc).ownBlock = some k ∨ (Value.slice u.nA u.nn u.nc).ownBlock = some k
/-- the lists of offers lie apart -/
structure Sep (vs : List V) : Prop where
  one : ∀ (i j : Nat) (u v : V) (k : Nat), vs[i]? = some u → vs[j]? = some v → has u k → has v k → i = j
  two : ∀ (i : Nat) (u : V) (k : Nat), vs[i]? = some u → (Value.slice u.sA u.sn u.sc).ownBlock = some k → (Value.slice u.nA u.nn u.nc).ownBlock ≠ some k
theorem sep_nil : Sep [] := ⟨(fun _ _ _ _ _ h => by simp at h), (fun _ _ _ h => by simp at h)⟩
theorem own_has {w : World} {b : Nat} {u : V} {o : O} {k : Nat} (hi : OwnI w b (.slice u.sA u.sn u.sc) o.slots) (hs : OwnS w b (.slice u.nA u.nn u.nc) o.needs) (h : has u k) : b ≤ k ∧ k < w.heap.size := by
  rcases h with h | h
  · exact World.ownsRow.lt hi k h
  · exact World.ownsRow.lt hs k h
theorem get_snoc {α : Type} {l : List α} {x y : α} {i : Nat} (h : (l ++ [x])[i]? = some y) : (i < l.length ∧ l[i]? = some y) ∨ (i = l.length ∧ y = x) := by
  by_cases hi : i < l.length
  · rw [List.getElem?_append_left hi] at h
    exact .inl ⟨hi, h⟩
  · have h1 := (List.getElem?_eq_some_iff.1 h).1
    simp at h1
    have h2 : i = l.length := by omega
    subst h2
    rw [List.getElem?_append_right (by omega)] at h
    simp at h
    exact .inr ⟨rfl, h.symm⟩
theorem Sep.snoc {w w2 : World} {b b2 : Nat} {v : Value} {vs : List V} {l : List O} {u : V} {o : O} (h : Sep vs) (hO : OutIs w b v vs l) (hi : OwnI w2 b2 (.slice u.sA u.sn u.sc) o.slots) (hs : OwnS w2 b2 (.slice u.nA u.nn u.nc) o.needs) (hb : w.heap.size ≤ b2)
    (hd : ∀ k, (Value.slice u.sA u.sn u.sc).ownBlock = some k → (Value.slice u.nA u.nn u.nc).ownBlock ≠ some k) : Sep (vs ++ [u]) := by
  have old : ∀ i x k, i < vs.length → vs[i]? = some x → has x k → k < w.heap.size := fun i x k hi hx hk => by
    obtain ⟨y, hy⟩ : ∃ y, l[i]? = some y := ⟨_, List.getElem?_eq_getElem (by rw [← hO.vlen]; exact hi)⟩
    obtain ⟨_, h2, h3⟩ := hO.is i x y hx hy
    exact (own_has h2 h3 hk).2
  refine ⟨fun i j x y k hx hy hk1 hk2 => ?_, fun i x k hx h1 => ?_⟩
  · rcases get_snoc hx with ⟨hi1, hx2⟩ | ⟨rfl, rfl⟩ <;> rcases get_snoc hy with ⟨hj1, hy2⟩ | ⟨rfl, rfl⟩
    · exact h.one i j x y k hx2 hy2 hk1 hk2
    · have := old i x k hi1 hx2 hk1
      have := (own_has hi hs hk2).1
      omega
    · have := old j y k hj1 hy2 hk2
      have := (own_has hi hs hk1).1
      omega
    · rfl
  · rcases get_snoc hx with ⟨hi1, hx2⟩ | ⟨rfl, rfl⟩
    · exact h.two i x k hx2 h1
    · exact hd k h1
theorem vc_set : ∀ (vs : List V) (j : Nat) (u u' : V) (f : Nat) (x : Value), vs[j]? = some u → f < 5 → u'.cells.toList = u.cells.toList.set f x → (vc vs).set (j * 5 + f) x = vc (vs.set j u')
  | [], j, _, _, _, _, h, _, _ => by simp at h
  | y :: t, 0, u, u', f, x, h, hf, hc => by
    obtain rfl : y = u := by simpa using h
    have e : vc (y :: t) = y.cells.toList ++ vc t := rfl
    rw [e, Nat.zero_mul, Nat.zero_add, List.set_append_left _ _ (by rw [show y.cells.toList.length = 5 from rfl]; exact hf), ← hc]
    rfl
  | y :: t, j + 1, u, u', f, x, h, hf, hc => by
    have e : vc (y :: t) = y.cells.toList ++ vc t := rfl
    have hl : y.cells.toList.length = 5 := rfl
    rw [e, List.set_append_right _ _ (by rw [hl]; omega), hl, show (j + 1) * 5 + f - 5 = j * 5 + f by omega, vc_set t j u u' f x (by simpa using h) hf hc]
    rfl
theorem own_set {w : World} {b g cap m : Nat} {vs : List V} (h : w.ownsRow b 41 5 (.slice (some ⟨g, 0, none⟩) m cap) m (vc vs)) {j f : Nat} {u u' : V} {x : Value} (hj : vs[j]? = some u) (hf : f < 5) (hc : u'.cells.toList = u.cells.toList.set f x) :
    (w.setCell ⟨g, j * 5 + f, none⟩ x).ownsRow b 41 5 (.slice (some ⟨g, 0, none⟩) m cap) m (vc (vs.set j u')) := by
  have hv := vc_set vs j u u' f x hj hf hc
  unfold World.ownsRow at h ⊢
  rcases h with ⟨h1, h2⟩
  refine ⟨by rw [← hv, List.length_set]; exact h1, ?_⟩
  rcases h2 with ⟨h2, _⟩ | ⟨g', cap', cur, e, h3, h4, h5, h6, h7, h8⟩
  · cases h2
  · injection e with e1 e2 e3
    injection e1 with e1
    injection e1 with e1 _ _
    subst e1 e3
    refine .inr ⟨g, cap, cur.setIfInBounds (j * 5 + f) x, rfl, h3, ?_, h5, h6, by simpa using h7, ?_⟩
    · have hr : Row w g 41 cur := h4
      exact hr.set (j * 5 + f) x
    · rw [← hv, ← h8, Array.toList_setIfInBounds, List.take_set]
structure Small (t : Nat) (l : List O) : Prop where
  few : l.length ≤ 61
  each : ∀ o ∈ l, o.slots.length ≤ t ∧ o.needs.length ≤ t
theorem Small.up {t s : Nat} {l : List O} (h : Small t l) (hs : t ≤ s) : Small s l := ⟨h.few, fun o ho => by have := h.each o ho; omega⟩
theorem Small.set {t : Nat} {l : List O} (h : Small t l) (j : Nat) (o : O) (h1 : o.slots.length ≤ t + 1) (h2 : o.needs.length ≤ t + 1) : Small (t + 1) (l.set j o) :=
  ⟨by rw [List.length_set]; exact h.few, fun x hx => by
    rcases List.mem_or_eq_of_mem_set hx with hx | rfl
    · have := h.each x hx; omega
    · exact ⟨h1, h2⟩⟩
theorem Small.snoc {t : Nat} {l : List O} (h : Small t l) (hl : l.length < 61) (o : O) (h1 : o.slots.length ≤ t) (h2 : o.needs.length ≤ t) : Small t (l ++ [o]) :=
  ⟨by simp; omega, fun x hx => by
    rcases List.mem_append.1 hx with hx | hx
    · exact h.each x hx
    · rw [List.mem_singleton.1 hx]; exact ⟨h1, h2⟩⟩
theorem Small.take {t : Nat} {l : List O} (h : Small t l) (k : Nat) : Small t (l.take k) := ⟨by have := h.few; rw [List.length_take]; omega, fun o ho => h.each o (List.mem_of_mem_take ho)⟩
theorem Small.all {t : Nat} {l : List O} (h : Small t l) : (allN l).length ≤ 61 * t := by
  have key : ∀ l : List O, (∀ o ∈ l, o.needs.length ≤ t) → (allN l).length ≤ l.length * t := by
    intro l
    induction l with
    | nil => intro _; simp [allN]
    | cons x r ih =>
      intro h
      have h1 := h x (by simp)
      have h2 := ih (fun o ho => h o (by simp [ho]))
      simp only [allN, List.flatMap_cons, List.length_append, List.length_cons] at h2 ⊢
      have h3 : (r.length + 1) * t = r.length * t + t := Nat.succ_mul _ _
      omega
  have h1 := key l (fun o ho => (h.each o ho).2)
  have h2 : l.length * t ≤ 61 * t := Nat.mul_le_mul_right _ h.few
  omega
theorem made_small {m : Nat} {l : List O} (h : MadeL m l) : Small 5 l := ⟨by have := made_len h; omega, fun o ho => by have := made_few h o ho; omega⟩
theorem codes_len (s : Str) (h : s ∈ codesL) : s.length ≤ 1152921504606846976 := by
  have h2 : ∀ z ∈ codesL, z.length ≤ 9 := by decide
  have := h2 s h
  omega
theorem strs_cell {w : World} {b n c i : Nat} {l : List Str} {s : Str} (h : Strs w (some ⟨b, 0, none⟩) n c l) (hs : l[i]? = some s) : w.cell? ⟨b, i, none⟩ = some (.string ⟨s.toArray⟩) := by
  have hi := (List.getElem?_eq_some_iff.1 hs).1
  obtain ⟨ad, x, h1, _, h2, _, h3⟩ := h.at i (by rw [h.len]; exact hi)
  injection h2 with h2
  subst h2
  rw [hs] at h1
  injection h1 with h1
  subst h1
  rwa [add_zero] at h3
variable {w wa w1 : World} {b g cap j f : Nat} {vs : List V} {L : List O} {u u' : V} {o o' : O} {x : Value} {r : Option Nat}
theorem grow_r {a b : World} (r : Option Nat) (h : a.grownBy b none) : a.grownBy b r := ⟨h.os, h.tape, h.output, h.size, fun k h1 _ => h.block k h1 (by simp)⟩
/-- one offer is changed, and its list may have grown -/
theorem odd_done (hO : OutIs w b (.slice (some ⟨g, 0, none⟩) L.length cap) vs L) (hS : Sep vs) (hj : vs[j]? = some u) (hg : w.grownBy w1 r) (hr : ∀ k, r = some k → has u k) (hf : f < 5) (hc : u'.cells.toList = u.cells.toList.set f x)
    (hu : VIs (w1.setCell ⟨g, j * 5 + f, none⟩ x) u' o') : Offs (w1.setCell ⟨g, j * 5 + f, none⟩ x) (some ⟨g, 0, none⟩) L.length cap (vs.set j u') (L.set j o') := by
  have gl := grown_setCell w1 g (j * 5 + f) x
  have hgr : ∀ k, r = some k → k ≠ g := fun k hk e => by
    have h1 := hO.dis j u hj g rfl
    subst e
    rcases hr k hk with h | h
    · exact h1.1 h
    · exact h1.2 h
  have own1 : w1.ownsRow b 41 5 (.slice (some ⟨g, 0, none⟩) L.length cap) L.length (vc vs) := World.ownsRow.kept hO.own hg (.inr (fun e => hgr g e.symm rfl))
  have own2 := own_set own1 hj hf hc
  refine ⟨vals_own own2 rfl (fun _ hv => vc_one hv), by rw [List.length_set], by rw [List.length_set, List.length_set]; exact hO.vlen, fun i v y hv hy => ?_⟩
  by_cases hij : j = i
  · subst hij
    rw [List.getElem?_set] at hv hy
    simp only [if_true] at hv hy
    split at hv
    · split at hy
      · injection hv with hv
        injection hy with hy
        subst hv hy
        exact hu
      · cases hy
    · cases hv
  · rw [List.getElem?_set_ne hij] at hv hy
    obtain ⟨h1, h2, h3⟩ := hO.is i v y hv hy
    have hd := hO.dis i v hv g rfl
    have key : ∀ {e sz n : Nat} {x : Value} {xs : List Value}, w.ownsRow b e sz x n xs → (∀ k, x.ownBlock = some k → has v k) → x.ownBlock ≠ some g → (w1.setCell ⟨g, j * 5 + f, none⟩ _).ownsRow b e sz x n xs := fun {_ _ _ z _} hx hh hne => by
      refine World.ownsRow.kept (World.ownsRow.kept hx hg ?_) gl (.inr hne)
      cases hzb : z.ownBlock with
      | none => exact .inl rfl
      | some k =>
        refine .inr (fun e => hij ?_)
        exact hS.one j i u v k hj hv (hr k e.symm) (hh k hzb)
    have i2 : OwnI _ b _ _ := key h2 (fun k hk => .inl hk) hd.1
    have i3 : OwnS _ b _ _ := key h3 (fun k hk => .inr hk) hd.2
    exact own_vis h1 i2 i3
/-- its lists stay -/
theorem odd_mine (hO : OutIs w b (.slice (some ⟨g, 0, none⟩) L.length cap) vs L) (hj : vs[j]? = some u) (ho : L[j]? = some o) (hg : w.grownBy w1 none) (i : Nat) (x : Value) : VIs (w1.setCell ⟨g, i, none⟩ x) u o := by
  obtain ⟨h1, h2, h3⟩ := hO.is j u o hj ho
  have hd := hO.dis j u hj g rfl
  have gl := grown_setCell w1 g i x
  have i2 : OwnI _ b _ _ := World.ownsRow.kept (own_keep h2 hg (fun _ e => by cases e)) gl (.inr hd.1)
  have i3 : OwnS _ b _ _ := World.ownsRow.kept (own_keep h3 hg (fun _ e => by cases e)) gl (.inr hd.2)
  exact own_vis h1 i2 i3
/-- a number is put behind the slots -/
theorem odd_slots (hO : OutIs w b (.slice (some ⟨g, 0, none⟩) L.length cap) vs L) (hS : Sep vs) (hj : vs[j]? = some u) (ho : L[j]? = some o) (ga : w.grownBy wa none) {z : Int} (hz : i64 z) {A2 : Option Addr} {n2 c2 b0 k : Nat}
    (hown : w1.ownsRow b0 3 1 (.slice A2 n2 c2) k (o.slots.map (Value.int .i64) ++ [.int .i64 z])) (hg : wa.grownBy w1 (Value.slice u.sA u.sn u.sc).ownBlock)
    (hb : (Value.slice A2 n2 c2).ownBlock = (Value.slice u.sA u.sn u.sc).ownBlock ∨ (Value.slice A2 n2 c2).ownBlock = some wa.heap.size) (h9 : o.slots.length ≤ 999) (i : Nat) (x : Value) :
    VIs (w1.setCell ⟨g, i, none⟩ x) ⟨u.code, u.cr, u.pl, A2, n2, c2, u.nA, u.nn, u.nc⟩ ⟨o.code, o.cr, o.pl, o.slots ++ [z], o.needs⟩ := by
  obtain ⟨h1, h2, h3⟩ := hO.is j u o hj ho
  have hd := hO.dis j u hj g rfl
  have gl := grown_setCell w1 g i x
  have hgs : g < w.heap.size := (World.ownsRow.lt hO.own g rfl).2
  have hne : (Value.slice A2 n2 c2).ownBlock ≠ some g := fun e => by
    rcases hb with hb | hb
    · exact hd.1 (hb ▸ e)
    · rw [hb] at e
      injection e with e
      have := ga.size
      omega
  have i2 := World.ownsRow.kept hown gl (.inr hne)
  have i3 : OwnS (w1.setCell ⟨g, i, none⟩ x) b (.slice u.nA u.nn u.nc) o.needs := World.ownsRow.kept (World.ownsRow.kept (own_keep h3 ga (fun _ e => by cases e)) hg (by
    cases hnb : (Value.slice u.nA u.nn u.nc).ownBlock with
    | none => exact .inl rfl
    | some k => exact .inr (fun e => hS.two j u k hj e.symm hnb))) gl (.inr hd.2)
  have hk : n2 = k ∧ k = o.slots.length + 1 := by
    have hl := i2.1
    simp at hl
    rcases i2.2 with ⟨e, e2⟩ | ⟨_, _, _, e, _⟩
    · injection e with _ e3 _; omega
    · injection e with _ e3 _; exact ⟨e3, by omega⟩
  have hA : ∀ y ∈ o.slots ++ [z], i64 y := fun y hy => by
    rcases List.mem_append.1 hy with hy | hy
    · exact h1.slots.ok y hy
    · rw [List.mem_singleton.1 hy]; exact hz
  exact ⟨h1.code, h1.cr, h1.pl, h1.ok, ⟨by
      have := vals_own i2 hk.1 (fun v hv => by
        rcases List.mem_append.1 hv with hv | hv
        · obtain ⟨x, _, rfl⟩ := List.mem_map.1 hv; rfl
        · rw [List.mem_singleton.1 hv]; rfl)
      simpa using this, hA⟩, ⟨vals_own i3 h1.needs.len (fun v hv => by obtain ⟨x, _, rfl⟩ := List.mem_map.1 hv; rfl), h1.needs.ok⟩, by have := h1.few; simp; omega⟩
/-- a string is put behind the needs -/
theorem odd_needs (hO : OutIs w b (.slice (some ⟨g, 0, none⟩) L.length cap) vs L) (hS : Sep vs) (hj : vs[j]? = some u) (ho : L[j]? = some o) (ga : w.grownBy wa none) {z : Str} (hz : z.length ≤ 1152921504606846976) {A2 : Option Addr} {n2 c2 b0 k : Nat}
    (hown : w1.ownsRow b0 9 1 (.slice A2 n2 c2) k (o.needs.map (fun s => Value.string ⟨s.toArray⟩) ++ [.string ⟨z.toArray⟩])) (hg : wa.grownBy w1 (Value.slice u.nA u.nn u.nc).ownBlock)
    (hb : (Value.slice A2 n2 c2).ownBlock = (Value.slice u.nA u.nn u.nc).ownBlock ∨ (Value.slice A2 n2 c2).ownBlock = some wa.heap.size) (h9 : o.needs.length ≤ 999) (i : Nat) (x : Value) :
    VIs (w1.setCell ⟨g, i, none⟩ x) ⟨u.code, u.cr, u.pl, u.sA, u.sn, u.sc, A2, n2, c2⟩ ⟨o.code, o.cr, o.pl, o.slots, o.needs ++ [z]⟩ := by
  obtain ⟨h1, h2, h3⟩ := hO.is j u o hj ho
  have hd := hO.dis j u hj g rfl
  have gl := grown_setCell w1 g i x
  have hgs : g < w.heap.size := (World.ownsRow.lt hO.own g rfl).2
  have hne : (Value.slice A2 n2 c2).ownBlock ≠ some g := fun e => by
    rcases hb with hb | hb
    · exact hd.2 (hb ▸ e)
    · rw [hb] at e
      injection e with e
      have := ga.size
      omega
  have i2 := World.ownsRow.kept hown gl (.inr hne)
  have i3 : OwnI (w1.setCell ⟨g, i, none⟩ x) b (.slice u.sA u.sn u.sc) o.slots := World.ownsRow.kept (World.ownsRow.kept (own_keep h2 ga (fun _ e => by cases e)) hg (by
    cases hnb : (Value.slice u.sA u.sn u.sc).ownBlock with
    | none => exact .inl rfl
    | some k => exact .inr (fun e => hS.two j u k hj hnb e.symm))) gl (.inr hd.1)
  have hk : n2 = k ∧ k = o.needs.length + 1 := by
    have hl := i2.1
    simp at hl
    rcases i2.2 with ⟨e, e2⟩ | ⟨_, _, _, e, _⟩
    · injection e with _ e3 _; omega
    · injection e with _ e3 _; exact ⟨e3, by omega⟩
  have hA : ∀ y ∈ o.needs ++ [z], y.length ≤ 1152921504606846976 := fun y hy => by
    rcases List.mem_append.1 hy with hy | hy
    · exact h1.needs.ok y hy
    · rw [List.mem_singleton.1 hy]; exact hz
  exact ⟨h1.code, h1.cr, h1.pl, h1.ok, ⟨vals_own i3 h1.slots.len (fun v hv => by obtain ⟨x, _, rfl⟩ := List.mem_map.1 hv; rfl), h1.slots.ok⟩, ⟨by
      have := vals_own i2 hk.1 (fun v hv => by
        rcases List.mem_append.1 hv with hv | hv
        · obtain ⟨x, _, rfl⟩ := List.mem_map.1 hv; rfl
        · rw [List.mem_singleton.1 hv]; rfl)
      simpa using this, hA⟩, by have := h1.few; simp; omega⟩
/-- a fresh list in the needs' place -/
theorem odd_fresh (hO : OutIs w b (.slice (some ⟨g, 0, none⟩) L.length cap) vs L) (hj : vs[j]? = some u) (ho : L[j]? = some o) (hg : w.grownBy w1 none) {A2 : Option Addr} {n2 c2 : Nat} {N : List Str} (hs : Strs w1 A2 n2 c2 N) (hA : ∀ ad, A2 = some ad → w.heap.size ≤ ad.block) (h9 : N.length ≤ 1000) (i : Nat) (x : Value) :
    VIs (w1.setCell ⟨g, i, none⟩ x) ⟨u.code, u.cr, u.pl, u.sA, u.sn, u.sc, A2, n2, c2⟩ ⟨o.code, o.cr, o.pl, o.slots, N⟩ := by
  have h1 := odd_mine hO hj ho hg i x
  have hgs : g < w.heap.size := (World.ownsRow.lt hO.own g rfl).2
  exact ⟨h1.code, h1.cr, h1.pl, h1.ok, h1.slots, ⟨hs.v.keptR (grown_setCell w1 g i x) (fun ad e _ e2 => by injection e2 with e2; have := hA ad e; omega), hs.ok⟩, ⟨h1.few.1, h9⟩⟩
theorem row_eq {w : World} {b : Nat} {t : TypeId} {a c : Array Value} (h : Row w b t a) (k : Row w b t c) : a = c := by
  unfold Row at h k
  rw [h] at k
  injection k with k
  injection k
theorem own_put {w : World} {b g cap m j : Nat} {us : List V} {u : V} (h : w.ownsRow b 41 5 (.slice (some ⟨g, 0, none⟩) m cap) m (vc us)) (hj : us[j]? = some u) (v : V) :
    (((((w.setCell ⟨g, j * 5, none⟩ (.string ⟨v.code.toArray⟩)).setCell ⟨g, j * 5 + 1, none⟩ (.int .i64 v.cr)).setCell ⟨g, j * 5 + 2, none⟩ (.int .i64 v.pl)).setCell ⟨g, j * 5 + 3, none⟩ (.slice v.sA v.sn v.sc)).setCell ⟨g, j * 5 + 4, none⟩ (.slice v.nA v.nn v.nc)).ownsRow b 41 5 (.slice (some ⟨g, 0, none⟩) m cap) m (vc (us.set j v)) := by
  have hl := (List.getElem?_eq_some_iff.1 hj).1
  have self : ∀ (l : List V) (x : V), j < l.length → (l.set j x)[j]? = some x := fun l x hx => by rw [List.getElem?_set_self hx]
  have h0 := own_set (u' := ⟨v.code, u.cr, u.pl, u.sA, u.sn, u.sc, u.nA, u.nn, u.nc⟩) (f := 0) (x := .string ⟨v.code.toArray⟩) h hj (by omega) rfl
  have h1 := own_set (u' := ⟨v.code, v.cr, u.pl, u.sA, u.sn, u.sc, u.nA, u.nn, u.nc⟩) (f := 1) (x := .int .i64 v.cr) h0 (self _ _ hl) (by omega) rfl
  have h2 := own_set (u' := ⟨v.code, v.cr, v.pl, u.sA, u.sn, u.sc, u.nA, u.nn, u.nc⟩) (f := 2) (x := .int .i64 v.pl) h1 (self _ _ (by simpa using hl)) (by omega) rfl
  have h3 := own_set (u' := ⟨v.code, v.cr, v.pl, v.sA, v.sn, v.sc, u.nA, u.nn, u.nc⟩) (f := 3) (x := .slice v.sA v.sn v.sc) h2 (self _ _ (by simpa using hl)) (by omega) rfl
  have h4 := own_set (u' := v) (f := 4) (x := .slice v.nA v.nn v.nc) h3 (self _ _ (by simpa using hl)) (by omega) rfl
  simp only [List.set_set] at h4
  exact h4
theorem grown_put5 (w : World) (g j : Nat) (v : V) : w.grownBy (((((w.setCell ⟨g, j * 5, none⟩ (.string ⟨v.code.toArray⟩)).setCell ⟨g, j * 5 + 1, none⟩ (.int .i64 v.cr)).setCell ⟨g, j * 5 + 2, none⟩ (.int .i64 v.pl)).setCell ⟨g, j * 5 + 3, none⟩ (.slice v.sA v.sn v.sc)).setCell ⟨g, j * 5 + 4, none⟩ (.slice v.nA v.nn v.nc)) (some g) :=
  ((((grown_setCell w g (j * 5) _).trans (grown_setCell _ g (j * 5 + 1) _)).trans (grown_setCell _ g (j * 5 + 2) _)).trans (grown_setCell _ g (j * 5 + 3) _)).trans (grown_setCell _ g (j * 5 + 4) _)
/-- offers in another order -/
theorem off_mixed {W : World} {us : List V} {M : List O} (hO : OutIs w b (.slice (some ⟨g, 0, none⟩) L.length cap) vs L) (hg : w.grownBy W (some g)) (own2 : W.ownsRow b 41 5 (.slice (some ⟨g, 0, none⟩) L.length cap) L.length (vc us)) (h1 : L.length = M.length) (h2 : us.length = M.length)
    (his : ∀ (i : Nat) (u : V) (o : O), us[i]? = some u → M[i]? = some o → ∃ k : Nat, vs[k]? = some u ∧ L[k]? = some o) : Offs W (some ⟨g, 0, none⟩) L.length cap us M :=
  ⟨vals_own own2 rfl (fun _ hv => vc_one hv), h1, h2, fun i u o hu ho => by
    obtain ⟨k, hk1, hk2⟩ := his i u o hu ho
    obtain ⟨h1, h2, h3⟩ := hO.is k u o hk1 hk2
    have hd := hO.dis k u hk1 g rfl
    have i2 : OwnI W b _ _ := World.ownsRow.kept h2 hg (.inr hd.1)
    have i3 : OwnS W b _ _ := World.ownsRow.kept h3 hg (.inr hd.2)
    exact own_vis h1 i2 i3⟩
theorem swap_is {j e : Nat} {u2 : V} {o2 : O} (hu : vs[j]? = some u) (ho : L[j]? = some o) (hu2 : vs[e]? = some u2) (ho2 : L[e]? = some o2) : ∀ (i : Nat) (x : V) (y : O), ((vs.set j u2).set e u)[i]? = some x → ((L.set j o2).set e o)[i]? = some y → ∃ k : Nat, vs[k]? = some x ∧ L[k]? = some y := by
  intro i x y hx hy
  rw [List.getElem?_set] at hx hy
  by_cases he : e = i
  · subst he
    simp only [if_true] at hx hy
    split at hx
    · split at hy
      · injection hx with hx
        injection hy with hy
        subst hx hy
        exact ⟨j, hu, ho⟩
      · cases hy
    · cases hx
  · rw [if_neg he] at hx hy
    rw [List.getElem?_set] at hx hy
    by_cases hj : j = i
    · subst hj
      simp only [if_true] at hx hy
      split at hx
      · split at hy
        · injection hx with hx
          injection hy with hy
          subst hx hy
          exact ⟨e, hu2, ho2⟩
        · cases hy
      · cases hx
    · rw [if_neg hj] at hx hy
      exact ⟨i, hx, hy⟩
theorem swap_self {j e : Nat} {u2 : V} (hu2 : vs[e]? = some u2) : (vs.set j u2)[e]? = some u2 := by
  rw [List.getElem?_set]
  split
  · split
    · rfl
    · rename_i h1 h2
      subst h1
      have := (List.getElem?_eq_some_iff.1 hu2).1
      omega
  · exact hu2
theorem Small.swap {t : Nat} {l : List O} (h : Small t l) {j e : Nat} {a c : O} (ha : a ∈ l) (hc : c ∈ l) : Small t ((l.set j a).set e c) :=
  ⟨by rw [List.length_set, List.length_set]; exact h.few, fun x hx => by
    rcases List.mem_or_eq_of_mem_set hx with hx | rfl
    · rcases List.mem_or_eq_of_mem_set hx with hx | rfl
      · exact h.each x hx
      · exact h.each x ha
    · exact h.each x hc⟩
end Go.Proofs.YtnkemoicgadefaaGreatDoor
