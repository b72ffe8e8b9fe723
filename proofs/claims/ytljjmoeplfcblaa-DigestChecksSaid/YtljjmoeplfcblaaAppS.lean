/-
  The append of the strings of a slice to a row of the call's own, whether the slice is nil or not.
-/
import Derived.Test.YtljjmoeplfcblaaDivide
namespace Go.Proofs.Ytljjmoeplfcblaa
open Go.RowKit Go.Shelf
attribute [local go_sem] get_mk extract_mk
theorem own_some {w : World} {base e size n : Nat} {v : Value} {xs : List Value} (h : w.ownsRow base e size v n xs) : v = .slice none 0 0 ∨ ∃ g c, v = .slice (some ⟨g, 0, none⟩) n c := by
  rcases h.2 with ⟨e, _⟩ | ⟨g, cap, _, e, _⟩
  · exact .inl e
  · exact .inr ⟨g, cap, e⟩
theorem wp_append_strs {o : Oper} {a : Act} {K : Act → World → Prop} {Q : Exit → Act → World → Prop} (w : World) (s x : Operand)
    (ho : o.op = .call { callee := .builtin .append, args := #[s, x], argTypes := #[29, 29] }) (base : Nat) (v : Value) (D : List Str) (hs : a.eval s = v)
    (hown : w.ownsRow base 9 1 v D.length (D.map fun s => .string ⟨s.toArray⟩)) (A : Option Addr) (m c : Nat) (l : List Str) (hx : a.eval x = .slice A m c) (hl : Strs w A m c l) (hA : A = none → c = 0)
    (hb : D.length + m ≤ 1099511627776) (hbase : base ≤ w.heap.size)
    (h : ∀ v' w', w'.ownsRow base 9 1 v' (D ++ l).length ((D ++ l).map fun s => .string ⟨s.toArray⟩) → w.grownBy w' v.ownBlock → (v'.ownBlock = v.ownBlock ∨ v'.ownBlock = some w.heap.size) → (v = .slice none 0 0 ∨ ∃ g c, v' = .slice (some ⟨g, 0, none⟩) (D ++ l).length c) → K (a.put o.dst v') w') :
    Oper.wp Try.prog o a w K Q := by
  obtain ⟨i0, hi0, hz0, hz1, hz2⟩ := info_parts info9
  cases A with
  | none =>
    have hc := hA rfl
    have h1 := hl.len
    have h2 := hl.le
    subst hc
    obtain rfl : m = 0 := by omega
    obtain rfl : l = [] := List.eq_nil_of_length_eq_zero h1.symm
    rw [List.append_nil] at h
    have hrun := run_append_owned_none (P := Try.prog) (w := w) base 29 o.type 9 i0 1 Try.underlying29 hi0 v D.length _ hown
    unfold Oper.wp
    simp [execOp, ho, resolve, invoke, builtin, hs, hx, hrun, Result.andThen]
    exact h v w hown (World.grownBy.refl _ _) (.inl rfl) (own_some hown)
  | some ad =>
    have hnews : ∀ j u, (l.map fun s => Value.string ⟨s.toArray⟩)[j]? = some u → w.cell? (ad.add j) = some u := fun j u hu => by
      rw [List.getElem?_map, Option.map_eq_some_iff] at hu
      obtain ⟨s, hs, rfl⟩ := hu
      have hlt := (List.getElem?_eq_some_iff.1 hs).1
      obtain ⟨ad', e, _, hc⟩ := hl.cell (by have := hl.len; omega)
      injection e with e
      subst e
      exact hc j s hs
    have hone : ∀ u ∈ (l.map fun s => Value.string ⟨s.toArray⟩), u.oneCell' = true := fun u hu => by
      obtain ⟨s, _, rfl⟩ := List.mem_map.1 hu
      rfl
    obtain ⟨v', w', hr, h2, h3, h4, h5⟩ := run_append_own_at (P := Try.prog) w base 29 o.type 9 i0 _ 1 16 Try.underlying29 hi0 hz0 hz1 hz2 rfl (by omega) v D.length _ hown ad m c (l.map fun s => .string ⟨s.toArray⟩) (by rw [List.length_map, ← hl.len, Nat.mul_one]) hnews hone (by simp only [maxLen]; omega) (by omega) hbase
    unfold Oper.wp execOp
    simp only [ho, resolve, invoke, builtin, Sem.run_bind, Sem.run_pure, Result.andThen_ok, List.map_toArray, List.map_cons, List.map_nil, hs, hx, hr]
    have e : D.length + m = (D ++ l).length := by rw [List.length_append, ← hl.len]
    rw [e, ← List.map_append] at h2
    refine h v' w' h2 h3 h5 ?_
    rcases own_some h2 with e | e
    · exact .inl (h4.1 e).1
    · exact .inr e
/-- for the walk of a plain region -/
theorem wpList_append_strs {w : World} {ops : Array Oper} {rest : List Oper} {o : Oper} {a : Act} {Q : Exit → Act → World → Prop} (hgd : o.guard = none) (s x : Operand)
    (ho : o.op = .call { callee := .builtin .append, args := #[s, x], argTypes := #[29, 29] }) (base : Nat) (v : Value) (D : List Str) (hs : a.eval s = v)
    (hown : w.ownsRow base 9 1 v D.length (D.map fun s => .string ⟨s.toArray⟩)) (A : Option Addr) (m c : Nat) (l : List Str) (hx : a.eval x = .slice A m c) (hl : Strs w A m c l) (hA : A = none → c = 0)
    (hb : D.length + m ≤ 1099511627776) (hbase : base ≤ w.heap.size)
    (h : ∀ v' w', w'.ownsRow base 9 1 v' (D ++ l).length ((D ++ l).map fun s => .string ⟨s.toArray⟩) → w.grownBy w' v.ownBlock → (v'.ownBlock = v.ownBlock ∨ v'.ownBlock = some w.heap.size) → (v = .slice none 0 0 ∨ ∃ g c, v' = .slice (some ⟨g, 0, none⟩) (D ++ l).length c) → wpList Try.prog ops Q rest (a.put o.dst v') w') :
    wpList Try.prog ops Q (o :: rest) a w :=
  wpList_plain hgd fun _ hK => wp_append_strs w s x ho base v D hs hown A m c l hx hl hA hb hbase fun v' w' h1 h2 h3 h4 => hK _ _ (h v' w' h1 h2 h3 h4)
/-- for a step of a region that draws its order -/
theorem step_append_strs {w : World} {ops : Array Oper} {o : Oper} {a : Act} {K : Act → World → Prop} {Q : Exit → Act → World → Prop} {E : Prop} (hgd : o.guard = none) (s x : Operand)
    (ho : o.op = .call { callee := .builtin .append, args := #[s, x], argTypes := #[29, 29] }) (base : Nat) (v : Value) (D : List Str) (hs : a.eval s = v)
    (hown : w.ownsRow base 9 1 v D.length (D.map fun s => .string ⟨s.toArray⟩)) (A : Option Addr) (m c : Nat) (l : List Str) (hx : a.eval x = .slice A m c) (hl : Strs w A m c l) (hA : A = none → c = 0)
    (hb : D.length + m ≤ 1099511627776) (hbase : base ≤ w.heap.size)
    (h : ∀ v' w', w'.ownsRow base 9 1 v' (D ++ l).length ((D ++ l).map fun s => .string ⟨s.toArray⟩) → w.grownBy w' v.ownBlock → (v'.ownBlock = v.ownBlock ∨ v'.ownBlock = some w.heap.size) → (v = .slice none 0 0 ∨ ∃ g c, v' = .slice (some ⟨g, 0, none⟩) (D ++ l).length c) → K (a.put o.dst v') w') :
    if Region.wanted o (yielded ops a.tmps) = true then Oper.wp Try.prog o a w K Q else E := by
  have hw : Region.wanted o (yielded ops a.tmps) = true := by simp [Region.wanted, hgd]
  rw [if_pos hw]
  exact wp_append_strs w s x ho base v D hs hown A m c l hx hl hA hb hbase h
/-- a slice of strings that fills a row of the call's own from its beginning -/
def Row (w : World) (base g n c : Nat) (l : List Str) : Prop := n = l.length ∧ w.ownsRow base 9 1 (.slice (some ⟨g, 0, none⟩) n c) n (l.map fun s => .string ⟨s.toArray⟩)
theorem Row.strs {w : World} {base g n c : Nat} {l : List Str} (h : Row w base g n c l) (hl : ∀ s ∈ l, s.length ≤ 4611686018427387904) : Strs w (some ⟨g, 0, none⟩) n c l := by
  obtain ⟨e, ho⟩ := h
  subst e
  obtain ⟨A, c', e, hs⟩ := own_strs ho hl
  injection e with e1 _ e3
  subst e1 e3
  exact hs
theorem Row.kept {w w' : World} {base g n c : Nat} {l : List Str} {row : Option Nat} (h : Row w base g n c l) (hg : w.grownBy w' row) (hne : some g ≠ row) : Row w' base g n c l := ⟨h.1, h.2.kept hg (.inr hne)⟩
theorem Row.lt {w : World} {base g n c : Nat} {l : List Str} (h : Row w base g n c l) : base ≤ g ∧ g < w.heap.size := h.2.lt g rfl
theorem Row.le {w : World} {base g n c : Nat} {l : List Str} (h : Row w base g n c l) : n ≤ c ∧ c ≤ maxLen := by
  rcases h.2.2 with ⟨e, _⟩ | ⟨g', cap', cur, ev, hb, hg, h1, h2, h3, h4⟩
  · cases e
  · injection ev with e1 _ e3
    subst e3
    exact ⟨h1, h2⟩
/-- append([]string{}, x...) -/
theorem wpList_append_fresh {w : World} {ops : Array Oper} {rest : List Oper} {o : Oper} {a : Act} {Q : Exit → Act → World → Prop} (hgd : o.guard = none) (s x : Operand)
    (ho : o.op = .call { callee := .builtin .append, args := #[s, x], argTypes := #[29, 29] }) (base : Nat) (hs : a.eval s = .slice (some ⟨base, 0, none⟩) 0 0)
    (A : Option Addr) (m c : Nat) (l : List Str) (hx : a.eval x = .slice A m c) (W : World) (hW : w = W.alloc (.cells #[] 9)) (hB : base = W.heap.size) (hl : Strs W A m c l) (hA : A = none → c = 0) (hb : m ≤ 1099511627776)
    (h : ∀ g c' w', Row w' base g m c' l → W.grownBy w' none → wpList Try.prog ops Q rest (a.put o.dst (.slice (some ⟨g, 0, none⟩) m c')) w') :
    wpList Try.prog ops Q (o :: rest) a w := by
  subst hW hB
  have hmade := World.ownsRow_made (base := W.heap.size) (e := 9) (size := 1) W #[] 0 (Nat.le_refl _) (by decide) rfl
  refine wpList_append_strs hgd s x ho W.heap.size _ [] hs hmade A m c l hx (hl.kept (World.grownBy_alloc W _ none)) hA (by simpa using hb) (by simp) ?_
  intro v' w' h1 h2 _ h4
  rw [List.nil_append, ← hl.len] at h1 h4
  rcases h4 with e | ⟨g, c', rfl⟩
  · cases e
  · exact h g c' w' ⟨hl.len, h1⟩ ((World.grownBy_alloc W (.cells #[] 9) none).andThen h2 (fun r e => .inl (Nat.le_of_eq (by simpa [Value.ownBlock] using e))))
/-- the beginning of a row of one's own, with the capacity of the row, is a row of one's own -/
theorem own_take {w : World} {base e g n cap k : Nat} {xs : List Value} (h : w.ownsRow base e 1 (.slice (some ⟨g, 0, none⟩) n cap) n xs) (hk : k ≤ n) : w.ownsRow base e 1 (.slice (some ⟨g, 0, none⟩) k cap) k (xs.take k) := by
  have hx := h.1
  rcases h.2 with ⟨e, _⟩ | ⟨g', cap', cur, ev, hb, hg, h1, h2, h3, h4⟩
  · cases e
  · injection ev with e1 _ e3
    injection e1 with e1
    injection e1 with e1
    subst e1 e3
    refine ⟨by rw [List.length_take]; omega, .inr ⟨g, cap, cur, rfl, hb, hg, by omega, h2, h3, ?_⟩⟩
    rw [← h4, List.take_take]
    congr 1
    omega
end Go.Proofs.Ytljjmoeplfcblaa
