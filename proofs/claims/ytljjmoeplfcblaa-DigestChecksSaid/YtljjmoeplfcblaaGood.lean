/-
  Stacks whose numbers are in reach, as they grow.
-/
import Derived.Test.YtljjmoeplfcblaaPushW
namespace Go.Proofs.Ytljjmoeplfcblaa

structure Good (r : List Nd) (L M : Nat) : Prop where
  len : r.length ≤ L
  sum : mass r ≤ M
  all : ∀ x ∈ r, 0 < x.s ∧ x.d.length ≤ 8 ∧ x.b ≤ 2199023255552
theorem pushW_good : ∀ (r : List Nd) (n : Nd) (L M : Nat), Good r L M → 0 < n.s → n.d.length ≤ 8 → n.b ≤ 2199023255552 → Good (pushW r n) (L + 1) (M + n.s)
  | [], n, L, M, h, h1, h2, h3 => ⟨by simp [pushW], by simp [pushW, mass], fun x hx => by
    have hx : x ∈ [n] := hx
    rw [List.mem_singleton] at hx
    rw [hx]; exact ⟨h1, h2, h3⟩⟩
  | a :: r, n, L, M, h, h1, h2, h3 => by
    have hl := h.len
    have hs := h.sum
    rw [mass_cons] at hs
    simp only [List.length_cons] at hl
    by_cases hw : whole a.b a.s = whole n.b n.s
    · rw [pushW_merge hw]
      have e2 : 2 * a.s = 2 * n.s := congrArg Prod.snd hw
      have hg : Good r (L - 1) (M - a.s) := ⟨by omega, by omega, fun x hx => h.all x (List.mem_cons_of_mem _ hx)⟩
      have := pushW_good r ⟨(whole n.b n.s).1, (whole n.b n.s).2, pairD a.d n.d⟩ (L - 1) (M - a.s) hg (by show 0 < 2 * n.s; omega) (Nat.le_of_eq (pairD_len _ _)) (by show n.b - n.b % (2 * n.s) ≤ _; omega)
      have e3 : M - a.s + (whole n.b n.s).2 = M + n.s := by show M - a.s + 2 * n.s = _; omega
      exact ⟨by have := this.len; omega, by have h4 := this.sum; simp only at h4; omega, this.all⟩
    · rw [pushW_stop hw]
      refine ⟨by simp; omega, by rw [mass_cons, mass_cons]; omega, fun x hx => ?_⟩
      rcases List.mem_cons.1 hx with rfl | hx
      · exact ⟨h1, h2, h3⟩
      · exact h.all x hx
theorem Good.fine {r : List Nd} {L M : Nat} (h : Good r L M) {n : Nd} (hL : L ≤ 1099511627776) (hM : M + n.s ≤ 1152921504606846976) (h1 : 0 < n.s) (h2 : n.d.length ≤ 8) (h3 : n.b ≤ 2199023255552) : Fine r n :=
  ⟨Nat.le_trans h.len hL, by have := h.sum; omega, fun x hx => by
    rcases List.mem_cons.1 hx with rfl | hx
    · exact ⟨h1, h2, h3⟩
    · exact h.all x hx⟩
def pushesW (r : List Nd) (l : List Nd) : List Nd := l.foldl pushW r
theorem pushesW_snoc (r l : List Nd) (n : Nd) : pushesW r (l ++ [n]) = pushW (pushesW r l) n := by simp [pushesW]
theorem pushesW_app (r l t : List Nd) : pushesW r (l ++ t) = pushesW (pushesW r l) t := List.foldl_append
theorem nodes_snoc : ∀ (bs : List (Nat × Nat)) (ds : List Str) (b : Nat × Nat) (d : Str), ds.length = bs.length → nodes (bs ++ [b]) (ds ++ [d]) = nodes bs ds ++ [⟨b.1, b.2, d⟩]
  | [], [], b, d, _ => rfl
  | a :: bs, e :: ds, b, d, h => by
    simp only [List.cons_append, nodes, nodes_snoc bs ds b d (by simpa using h)]
  | [], _ :: _, _, _, h => by simp at h
  | _ :: _, [], _, _, h => by simp at h
/-- blocks that follow each other are put together as the document says -/
theorem pushesW_eq : ∀ (l r : List Nd) (i j : Nat), ctg r i → chained l i j → pushesW r l = pushes r l
  | [], _, _, _, _, _ => rfl
  | n :: l, r, i, j, h, ⟨g1, g2, g3, g4⟩ => by
    have e := pushW_eq r n (by rw [g1]; exact h) (pw_pos g2) (dvd_mod g3)
    show pushesW (pushW r n) l = pushes (push pairD r n) l
    rw [e]
    exact pushesW_eq l _ _ j (push_ctg pairD r n (by rw [g1]; exact h) (pw_pos g2) (dvd_mod g3)) g4
end Go.Proofs.Ytljjmoeplfcblaa
