/-
  Rows of keys of a call's own: slices.Clone, the reference's Copy.
-/
import Derived.Test.YtecobgjkodmaiaaDoorWd
import Derived.Deep.RegionHeld3
import Derived.Laws.MakeOwn
import Derived.Laws.OwnMore
namespace Go.Proofs.YtecobgjkodmaiaaDoor
open Go.RowKit
attribute [local go_sem] get_mk extract_mk
theorem info_parts {P : Program} {e : TypeId} {z : Value} {s b : Nat} (h : (P.info? e).map (fun i => (i.zero, i.size, i.bytes)) = some (some z, s, b)) : ∃ i, P.info? e = some i ∧ i.zero = some z ∧ i.size = s ∧ i.bytes = b := by
  cases hp : P.info? e with
  | none => rw [hp] at h; cases h
  | some i =>
    rw [hp] at h
    simp only [Option.map_some, Option.some.injEq, Prod.mk.injEq] at h
    exact ⟨i, rfl, h.1, h.2.1, h.2.2⟩
theorem info28 : (Tryd.prog.info? 28).map (fun i => (i.zero, i.size, i.bytes)) = some (some (.agg #[.int .i64 0, .string ⟨#[]⟩, .int .i64 0, .int .i64 0]), 4, 40) := by kernel_rfl
/-- the cells of keys -/
def kc (l : List K) : List Value := l.flatMap fun k => [.int .i64 k.id, .string ⟨k.sec.toArray⟩, .int .i64 k.frm, .int .i64 k.stl]
theorem kc_len : ∀ l : List K, (kc l).length = l.length * 4
  | [] => rfl
  | x :: t => by
    have := kc_len t
    simp only [kc, List.flatMap_cons, List.length_append, List.length_cons, List.length_nil] at this ⊢
    omega
theorem kc_app (a b : List K) : kc (a ++ b) = kc a ++ kc b := by simp [kc]
theorem kc_at : ∀ (l : List K) (j : Nat) (x : K), l[j]? = some x → ∀ (i : Nat) (v : Value), x.cells[i]? = some v → (kc l)[j * 4 + i]? = some v
  | [], j, x, h, i, v, _ => by simp at h
  | y :: t, 0, x, h, i, v, hv => by
    obtain rfl : y = x := by simpa using h
    have hi : i < 4 := by
      rcases Nat.lt_or_ge i 4 with h | h
      · exact h
      · rw [Array.getElem?_eq_none (by simpa [K.cells] using h)] at hv; cases hv
    simp only [kc, List.flatMap_cons]
    rw [List.getElem?_append_left (by simpa using hi), ← hv]
    simp [K.cells]
  | y :: t, j + 1, x, h, i, v, hv => by
    have ih := kc_at t j x (by simpa using h) i v hv
    have e : kc (y :: t) = [.int .i64 y.id, .string ⟨y.sec.toArray⟩, .int .i64 y.frm, .int .i64 y.stl] ++ kc t := rfl
    rw [e, List.getElem?_append_right (by simp; omega)]
    rw [← ih]
    congr 1
    simp
    omega
theorem kc_of {l : List K} {j : Nat} {u : Value} (h : (kc l)[j]? = some u) : ∃ (x : K) (i : Nat), l[j / 4]? = some x ∧ i < 4 ∧ j = j / 4 * 4 + i ∧ x.cells[i]? = some u := by
  have hlt := (List.getElem?_eq_some_iff.1 h).1
  rw [kc_len] at hlt
  obtain ⟨x, hx⟩ : ∃ x, l[j / 4]? = some x := ⟨_, List.getElem?_eq_getElem (by omega)⟩
  refine ⟨x, j % 4, hx, by omega, by omega, ?_⟩
  have h4 : j % 4 < x.cells.size := by simp only [K.cells]; show j % 4 < 4; omega
  have := kc_at l (j / 4) x hx (j % 4) _ (Array.getElem?_eq_getElem h4)
  rw [show j / 4 * 4 + j % 4 = j by omega, h] at this
  rw [Array.getElem?_eq_getElem h4, ← this]
theorem kc_one {l : List K} {u : Value} (h : u ∈ kc l) : u.oneCell' = true := by
  obtain ⟨y, _, hy⟩ := List.mem_flatMap.1 h
  simp at hy
  rcases hy with rfl | rfl | rfl | rfl <;> rfl
/-- the slice v owns a row of keys -/
def OwnK (w : World) (base : Nat) (v : Value) (l : List K) : Prop := w.ownsRow base 28 4 v l.length (kc l)
theorem OwnK.nil (w : World) (base : Nat) : OwnK w base (.slice none 0 0) [] := World.ownsRow_nil w base 28 4
theorem OwnK.kept {w w' : World} {b : Nat} {v : Value} {l : List K} {row : Option Nat} (h : OwnK w b v l) (hg : w.grownBy w' row) (hne : v.ownBlock = none ∨ v.ownBlock ≠ row) : OwnK w' b v l := World.ownsRow.kept h hg hne
theorem OwnK.kept0 {w w' : World} {b : Nat} {v : Value} {l : List K} (h : OwnK w b v l) (hg : w.grownBy w' none) : OwnK w' b v l := h.kept hg (by cases v.ownBlock with
  | none => exact .inl rfl
  | some k => exact .inr (by simp))
theorem OwnK.lt {w : World} {b : Nat} {v : Value} {l : List K} (h : OwnK w b v l) : ∀ k, v.ownBlock = some k → b ≤ k ∧ k < w.heap.size := World.ownsRow.lt h
theorem OwnK.slice {w : World} {b : Nat} {v : Value} {l : List K} (h : OwnK w b v l) : v = .slice none 0 0 ∧ l = [] ∨ ∃ g c, v = .slice (some ⟨g, 0, none⟩) l.length c := by
  rcases h.2 with ⟨e, h0⟩ | ⟨g, cap, _, e, _⟩
  · exact .inl ⟨e, List.eq_nil_of_length_eq_zero h0⟩
  · exact .inr ⟨g, cap, e⟩
/-- an own row is a slice of keys -/
theorem OwnK.keys {w : World} {b : Nat} {v : Value} {l : List K} (h : OwnK w b v l) (hl : ∀ x ∈ l, x.ok) : ∃ A c, v = .slice A l.length c ∧ Keys w A l.length c l := by
  rcases h.2 with ⟨rfl, h0⟩ | ⟨g, cap, cur, rfl, hb, hg, h1, h2, h3, h4⟩
  · rw [h0]
    exact ⟨none, 0, rfl, by omega, by omega, by omega, fun _ => rfl, hl, fun h => by omega⟩
  · refine ⟨_, cap, rfl, rfl, h1, by unfold maxLen at h2; omega, (fun h => by cases h), hl, fun _ => ⟨_, rfl, (Array.getElem?_eq_some_iff.1 hg).1, fun j x hj i v hv => ?_⟩⟩
    have e : ((⟨g, 0, none⟩ : Addr).add (j * 4)).add i = ⟨g, j * 4 + i, none⟩ := by rw [add_zero, show (⟨g, j * 4, none⟩ : Addr).add i = ⟨g, j * 4 + i, none⟩ by unfold Addr.add; split <;> simp_all]
    rw [e]
    have := kc_at l j x hj i v hv
    rw [← h4, List.getElem?_take] at this
    split at this
    · simpa [World.cell?, hg] using this
    · cases this
theorem Keys.cells {w : World} {ad : Addr} {n c : Nat} {l : List K} (h : Keys w (some ad) n c l) : ∀ j u, (kc l)[j]? = some u → w.cell? (ad.add j) = some u := fun j u hu => by
  have hlt := (List.getElem?_eq_some_iff.1 hu).1
  rw [kc_len] at hlt
  obtain ⟨x, i, hx, hi, hj, hv⟩ := kc_of hu
  obtain ⟨ad', e, _, hc⟩ := h.cell (by have := h.len; omega)
  injection e with e
  subst e
  have := hc _ x hx i u hv
  rw [hj]
  rw [show ad.add (j / 4 * 4 + i) = (ad.add (j / 4 * 4)).add i by unfold Addr.add; repeat' split; all_goals (first | omega | (simp; done) | (simp; omega) | skip)]
  exact this
/-- append of the keys of a slice to an own row that is not nil -/
theorem wp_append_keys {o : Oper} {a : Act} {K' : Act → World → Prop} {Q : Exit → Act → World → Prop} (w : World) (s x : Operand)
    (ho : o.op = .call { callee := .builtin .append, args := #[s, x], argTypes := #[32, 32] }) (base : Nat) (v : Value) (D : List K) (hs : a.eval s = v)
    (hown : OwnK w base v D) (A : Option Addr) (m c : Nat) (l : List K) (hx : a.eval x = .slice A m c) (hl : Keys w A m c l)
    (hb : D.length + m ≤ 1000000) (hbase : base ≤ w.heap.size)
    (h : ∀ v' w', OwnK w' base v' (D ++ l) → w.grownBy w' v.ownBlock → (v'.ownBlock = v.ownBlock ∨ v'.ownBlock = some w.heap.size) → (v = .slice none 0 0 ∨ ∃ g c, v' = .slice (some ⟨g, 0, none⟩) (D ++ l).length c) → K' (a.put o.dst v') w') :
    Oper.wp Tryd.prog o a w K' Q := by
  obtain ⟨i0, hi0, hz0, hz1, hz2⟩ := info_parts info28
  cases A with
  | none =>
    have hc := hl.nil rfl
    have h1 := hl.len
    have h2 := hl.le
    subst hc
    obtain rfl : m = 0 := by omega
    obtain rfl : l = [] := List.eq_nil_of_length_eq_zero h1.symm
    rw [List.append_nil] at h
    have hrun := run_append_owned_none (P := Tryd.prog) (w := w) base 32 o.type 28 i0 4 Tryd.underlying32 hi0 v D.length _ hown
    unfold Oper.wp
    simp [execOp, ho, resolve, invoke, builtin, hs, hx, hrun, Result.andThen]
    exact h v w hown (World.grownBy.refl _ _) (.inl rfl) (by rcases hown.slice with ⟨e, _⟩ | e; exact .inl e; exact .inr e)
  | some ad =>
    obtain ⟨v', w', hr, h2, h3, h4, h5⟩ := run_append_own_at (P := Tryd.prog) w base 32 o.type 28 i0 _ 4 40 Tryd.underlying32 hi0 hz0 hz1 hz2 rfl (by omega) v D.length _ hown ad m c (kc l) (by rw [kc_len, ← hl.len]) hl.cells (fun u hu => kc_one hu) (by simp only [maxLen]; omega) (by omega) hbase
    unfold Oper.wp execOp
    simp only [ho, resolve, invoke, builtin, Sem.run_bind, Sem.run_pure, Result.andThen_ok, List.map_toArray, List.map_cons, List.map_nil, hs, hx, hr]
    have e : D.length + m = (D ++ l).length := by rw [List.length_append, ← hl.len]
    rw [e, ← kc_app] at h2
    refine h v' w' h2 h3 h5 ?_
    rcases OwnK.slice (l := D ++ l) h2 with ⟨e, _⟩ | e
    · exact .inl (h4.1 e).1
    · exact .inr e
theorem wpList_append_keys {w : World} {ops : Array Oper} {rest : List Oper} {o : Oper} {a : Act} {Q : Exit → Act → World → Prop} (hgd : o.guard = none) (s x : Operand)
    (ho : o.op = .call { callee := .builtin .append, args := #[s, x], argTypes := #[32, 32] }) (base : Nat) (v : Value) (D : List K) (hs : a.eval s = v)
    (hown : OwnK w base v D) (A : Option Addr) (m c : Nat) (l : List K) (hx : a.eval x = .slice A m c) (hl : Keys w A m c l)
    (hb : D.length + m ≤ 1000000) (hbase : base ≤ w.heap.size)
    (h : ∀ v' w', OwnK w' base v' (D ++ l) → w.grownBy w' v.ownBlock → (v'.ownBlock = v.ownBlock ∨ v'.ownBlock = some w.heap.size) → (v = .slice none 0 0 ∨ ∃ g c, v' = .slice (some ⟨g, 0, none⟩) (D ++ l).length c) → wpList Tryd.prog ops Q rest (a.put o.dst v') w') :
    wpList Tryd.prog ops Q (o :: rest) a w :=
  wpList_plain hgd fun _ hK => wp_append_keys w s x ho base v D hs hown A m c l hx hl hb hbase fun v' w' h1 h2 h3 h4 => hK _ _ (h v' w' h1 h2 h3 h4)
theorem step_append_keys {w : World} {ops : Array Oper} {o : Oper} {a : Act} {K' : Act → World → Prop} {Q : Exit → Act → World → Prop} {E : Prop} (hgd : o.guard = none) (s x : Operand)
    (ho : o.op = .call { callee := .builtin .append, args := #[s, x], argTypes := #[32, 32] }) (base : Nat) (v : Value) (D : List K) (hs : a.eval s = v)
    (hown : OwnK w base v D) (A : Option Addr) (m c : Nat) (l : List K) (hx : a.eval x = .slice A m c) (hl : Keys w A m c l)
    (hb : D.length + m ≤ 1000000) (hbase : base ≤ w.heap.size)
    (h : ∀ v' w', OwnK w' base v' (D ++ l) → w.grownBy w' v.ownBlock → (v'.ownBlock = v.ownBlock ∨ v'.ownBlock = some w.heap.size) → (v = .slice none 0 0 ∨ ∃ g c, v' = .slice (some ⟨g, 0, none⟩) (D ++ l).length c) → K' (a.put o.dst v') w') :
    if Region.wanted o (yielded ops a.tmps) = true then Oper.wp Tryd.prog o a w K' Q else E := by
  have hw : Region.wanted o (yielded ops a.tmps) = true := by simp [Region.wanted, hgd]
  rw [if_pos hw]
  exact wp_append_keys w s x ho base v D hs hown A m c l hx hl hb hbase h
/-- an empty row, made -/
theorem OwnK.made (W : World) : OwnK (W.alloc (.cells #[] 28)) W.heap.size (.slice (some ⟨W.heap.size, 0, none⟩) 0 0) [] := World.ownsRow_made (base := W.heap.size) (e := 28) (size := 4) W #[] 0 (Nat.le_refl _) (by decide) rfl
/-- a row of one key, made -/
theorem Keys.one {W : World} {B : Nat} {x : K} (h : Row W B 28 x.cells) (hx : x.ok) : Keys W (some ⟨B, 0, none⟩) 1 1 [x] :=
  ⟨rfl, Nat.le_refl _, by omega, (fun h => by cases h), (fun y hy => (List.mem_singleton.1 hy).symm ▸ hx), fun _ => ⟨_, rfl, h.lt, fun j y hj i v hv => by
    match j, hj with
    | 0, hj =>
      obtain rfl : x = y := by simpa using hj
      rw [add_zero, add_zero]
      have := h.c i hv
      simpa using this
    | j + 1, hj => simp at hj⟩⟩
set_option maxRecDepth 100000 in
/-- slices.Clone -/
theorem clone_k (A : Option Addr) (n c : Nat) (l : List K) (w : World) (hk : Keys w A n c l) (hn : n ≤ 1000) :
    Calls Tryd.prog 49 #[.slice A n c] w fun e w' => ∃ v, e = .returned v ∧ OwnK w' w.heap.size v l ∧ w.grownBy w' none := by
  cases A with
  | none =>
    have h1 := hk.nil rfl
    have h2 := hk.le
    have h3 := hk.len
    subst h1
    obtain rfl : n = 0 := by omega
    obtain rfl : l = [] := List.eq_nil_of_length_eq_zero h3.symm
    clear h2 h3 hk
    have hq : ∀ w, (binOp BinOp.eql 32 (Value.slice none 0 0) (Value.slice none 0 0)).run Tryd.prog w = .ok (.bool true) w := fun _ => by kernel_rfl
    go_enter Tryd.func49, Tryd.ntmps49
    go_wp2_with fail
    go_ret
    exact ⟨_, rfl, OwnK.nil _ _, grown_refl _⟩
  | some ad =>
    have HK := Lib.hid hk
    clear hk
    have hq : ∀ w, (binOp BinOp.eql 32 (Value.slice (some ad) n c) (Value.slice none 0 0)).run Tryd.prog w = .ok (.bool false) w := fun _ => by kernel_rfl
    go_enter Tryd.func49, Tryd.ntmps49
    go_wp2_with (at_builtin; refine wpList_append_keys rfl _ _ rfl w.heap.size _ [] rfl (OwnK.made w) (some ad) n c l rfl (HK.out.kept (World.grownBy_alloc w _ none)) (by simpa using Nat.le_trans hn (by decide)) (by simp) ?_; intro v' w1 ho hg hb hv)
    go_ret
    exact ⟨_, rfl, by simpa using ho, (World.grownBy_alloc w _ none).andThen hg (fun r e => .inl (by have e : some w.heap.size = some r := e; injection e with e; omega))⟩
end Go.Proofs.YtecobgjkodmaiaaDoor
