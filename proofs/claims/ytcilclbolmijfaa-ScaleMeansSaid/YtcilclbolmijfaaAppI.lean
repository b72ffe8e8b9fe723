/-
  The append of a number to a row of the call's own; two such rows side by side.
-/
import Derived.Test.YtcilclbolmijfaaRow
import Derived.OwnWalk
import Derived.Deep.AppendLies
namespace Go.Proofs.Ytcilclbolmijfaa
open Go.RowKit
theorem info3 : (Try.prog.info? 3).map (fun i => (i.zero, i.size, i.bytes)) = some (some (.int .i64 0), 1, 8) := by kernel_rfl
theorem info_parts {P : Program} {e : TypeId} {z : Value} {s b : Nat} (h : (P.info? e).map (fun i => (i.zero, i.size, i.bytes)) = some (some z, s, b)) : ∃ i, P.info? e = some i ∧ i.zero = some z ∧ i.size = s ∧ i.bytes = b := by
  cases hp : P.info? e with
  | none => rw [hp] at h; cases h
  | some i =>
    rw [hp] at h
    simp only [Option.map_some, Option.some.injEq, Prod.mk.injEq] at h
    exact ⟨i, rfl, h.1, h.2.1, h.2.2⟩
/-- the slice v owns a row of numbers -/
def OwnI (w : World) (base : Nat) (v : Value) (D : List Int) : Prop := w.ownsRow base 3 1 v D.length (D.map (Value.int .i64))
theorem OwnI.nil (w : World) (base : Nat) : OwnI w base (.slice none 0 0) [] := World.ownsRow_nil w base 3 1
theorem OwnI.nums {w : World} {b : Nat} {v : Value} {D : List Int} (h : OwnI w b v D) (hl : ∀ z ∈ D, i64 z) : ∃ A c, v = .slice A D.length c ∧ Nums w A D := by
  unfold OwnI at h
  rcases h.2 with ⟨rfl, h0⟩ | ⟨g, cap, cur, rfl, hb, hg, h1, h2, h3, h4⟩
  · rw [h0]
    exact ⟨none, 0, rfl, hl, fun h => by omega⟩
  · refine ⟨_, cap, rfl, hl, fun _ => ⟨_, rfl, (Array.getElem?_eq_some_iff.1 hg).1, fun j s hj => ?_⟩⟩
    have e : (⟨g, 0, none⟩ : Addr).add j = ⟨g, j, none⟩ := by unfold Addr.add; split <;> simp_all
    rw [e]
    have : (D.map (Value.int .i64))[j]? = some (.int .i64 s) := by simp [hj]
    rw [← h4, List.getElem?_take] at this
    split at this
    · simpa [World.cell?, hg] using this
    · cases this
theorem wpList_push {w : World} {ops : Array Oper} {rest : List Oper} {o : Oper} {a : Act} {Q : Exit → Act → World → Prop} (hgd : o.guard = none) (s x : Operand)
    (ho : o.op = .call { callee := .builtin .append, args := #[s, x], argTypes := #[22, 22] }) (base : Nat) (v : Value) (D : List Int) (hs : a.eval s = v) (hown : OwnI w base v D)
    (g c : Nat) (z : Int) (hx : a.eval x = .slice (some ⟨g, 0, none⟩) 1 c) (hc : w.cell? ⟨g, 0, none⟩ = some (.int .i64 z)) (hb : D.length ≤ 1000) (hbase : base ≤ w.heap.size)
    (h : ∀ v' w', OwnI w' base v' (D ++ [z]) → w.grownBy w' v.ownBlock → (v'.ownBlock = v.ownBlock ∨ v'.ownBlock = some w.heap.size) → wpList Try.prog ops Q rest (a.put o.dst v') w') :
    wpList Try.prog ops Q (o :: rest) a w := by
  obtain ⟨i0, hi0, hz0, hz1, hz2⟩ := info_parts info3
  refine wpList_append_own_at w hgd s x 22 ho base 3 i0 (.int .i64 0) 1 8 Try.underlying22 hi0 hz0 hz1 hz2 rfl (by decide) v D.length _ hs hown ⟨g, 0, none⟩ 1 c [.int .i64 z] hx rfl ?_ ?_ (by simp only [maxLen]; omega) (by omega) hbase ?_
  · intro j u hu
    match j, hu with
    | 0, hu =>
      simp at hu
      subst hu
      simpa [Addr.add] using hc
    | j + 1, hu => simp at hu
  · intro u hu
    simp at hu
    subst hu
    rfl
  · intro v' w' h1 h2 _ h4
    refine h v' w' ?_ h2 h4
    unfold OwnI
    simpa using h1
/-- two rows of the call's own, in different blocks -/
structure TwoR (W : World) (va vb : Value) (gs cs : List Int) (wr : World) : Prop where
  a : OwnI wr W.heap.size va gs
  b : OwnI wr W.heap.size vb cs
  sep : va.ownBlock = none ∨ vb.ownBlock = none ∨ va.ownBlock ≠ vb.ownBlock
  grown : W.grownBy wr none
theorem TwoR.push_a {W : World} {va vb va' : Value} {gs cs : List Int} {wr w1 : World} {o : Obj} {g : Int} (h : TwoR W va vb gs cs wr) (h1 : OwnI w1 W.heap.size va' (gs ++ [g])) (h2 : (wr.alloc o).grownBy w1 va.ownBlock) (h3 : va'.ownBlock = va.ownBlock ∨ va'.ownBlock = some (wr.alloc o).heap.size) : TwoR W va' vb (gs ++ [g]) cs w1 := by
  refine ⟨h1, (h.b.alloc o).kept h2 ?_, ?_, ((h.grown.trans (World.grownBy_alloc _ o none))).andThen h2 (fun r e => .inl (h.a.lt r e).1)⟩
  · rcases h.sep with e | e | e
    · rw [e]; cases hv : vb.ownBlock with
      | none => exact .inl rfl
      | some k => exact .inr (by simp)
    · exact .inl e
    · exact .inr (Ne.symm e)
  · rcases h3 with e | e
    · rw [e]; exact h.sep
    · cases hv : vb.ownBlock with
      | none => exact .inr (.inl rfl)
      | some k =>
        refine .inr (.inr ?_)
        rw [e]
        have := (h.b.lt k hv).2
        intro h'
        injection h' with h'
        simp at h'
        omega
theorem TwoR.push_b {W : World} {va vb vb' : Value} {gs cs : List Int} {wr w1 : World} {o : Obj} {g : Int} (h : TwoR W va vb gs cs wr) (h1 : OwnI w1 W.heap.size vb' (cs ++ [g])) (h2 : (wr.alloc o).grownBy w1 vb.ownBlock) (h3 : vb'.ownBlock = vb.ownBlock ∨ vb'.ownBlock = some (wr.alloc o).heap.size) : TwoR W va vb' gs (cs ++ [g]) w1 := by
  refine ⟨(h.a.alloc o).kept h2 ?_, h1, ?_, ((h.grown.trans (World.grownBy_alloc _ o none))).andThen h2 (fun r e => .inl (h.b.lt r e).1)⟩
  · rcases h.sep with e | e | e
    · exact .inl e
    · rw [e]; cases hv : va.ownBlock with
      | none => exact .inl rfl
      | some k => exact .inr (by simp)
    · exact .inr e
  · rcases h3 with e | e
    · rw [e]; exact h.sep
    · cases hv : va.ownBlock with
      | none => exact .inl rfl
      | some k =>
        refine .inr (.inr ?_)
        rw [e]
        have := (h.a.lt k hv).2
        intro h'
        injection h' with h'
        simp at h'
        omega
theorem TwoR.drew {W : World} {va vb : Value} {gs cs : List Int} {wr : World} (h : TwoR W va vb gs cs wr) (n : Nat) : TwoR W va vb gs cs (wr.drewN n) :=
  ⟨h.a.kept (grown_drewN _ _ none) (by cases va.ownBlock with
    | none => exact .inl rfl
    | some k => exact .inr (by simp)), h.b.kept (grown_drewN _ _ none) (by cases vb.ownBlock with
    | none => exact .inl rfl
    | some k => exact .inr (by simp)), h.sep, grown_dn h.grown⟩
theorem TwoR.nil (W : World) : TwoR W (.slice none 0 0) (.slice none 0 0) [] [] W := ⟨OwnI.nil _ _, OwnI.nil _ _, .inl rfl, grown_refl _⟩
end Go.Proofs.Ytcilclbolmijfaa
