/-
  Thefts of keys of a made ring, as mathematics.
-/
import Derived.Test.YtecobgjkodmaiaaDoorLMath
import Derived.Test.YtecobgjkodmaiaaDoorStealK
namespace Go.Proofs.YtecobgjkodmaiaaDoor
open Go.RowKit
/-- what holds of the keys of a made ring, also after thefts -/
structure MadeQ (l : List K) : Prop where
  ok : ∀ x ∈ l, x.ok
  id : ∀ (j : Nat) (x : K), l[j]? = some x → x.id = 1 + 2 * (j : Int)
  sec : ∀ x ∈ l, x.sec ≠ [] ∧ x.sec.length ≤ 40
  frm : ∀ x ∈ l, 0 ≤ x.frm ∧ x.frm ≤ 360
  stl : ∀ x ∈ l, x.stl = 0 ∨ x.frm ≤ x.stl ∧ 1 ≤ x.stl ∧ x.stl ≤ 1000
  up : ∀ (i j : Nat) (x y : K), i < j → l[i]? = some x → l[j]? = some y → x.frm ≤ y.frm
theorem MadeP.q {l : List K} (h : MadeP l) : MadeQ l := ⟨h.ok, h.id, h.sec, h.frm, fun x hx => by have := h.stl x hx; have := h.frm x hx; omega, h.up⟩
theorem sts_id (k : K) (a : Int) : (sts k a).id = k.id := by unfold sts; split <;> rfl
theorem sts_sec (k : K) (a : Int) : (sts k a).sec = k.sec := by unfold sts; split <;> rfl
theorem sts_frm (k : K) (a : Int) : (sts k a).frm = k.frm := by unfold sts; split <;> rfl
theorem sts_stl (k : K) (a : Int) : (sts k a).stl = if k.stl = 0 ∨ a < k.stl then a else k.stl := by unfold sts; split <;> rfl
theorem sts_two (k : K) (a b : Int) (ha : 1 ≤ a) (_ : 1 ≤ b) : sts (sts k a) b = sts k (min a b) := by
  obtain ⟨i, s, f, t⟩ := k
  unfold sts
  by_cases h1 : t = 0 ∨ a < t
  · rw [if_pos (show (K.mk i s f t).stl = 0 ∨ a < (K.mk i s f t).stl from h1)]
    by_cases h2 : b < a
    · rw [if_pos (.inr h2), if_pos (by simp only; omega), Int.min_eq_right (by omega)]
    · rw [if_neg (by simp only; omega), if_pos (by simp only; omega), Int.min_eq_left (by omega)]
  · rw [if_neg (show ¬ ((K.mk i s f t).stl = 0 ∨ a < (K.mk i s f t).stl) from h1)]
    by_cases h2 : b < t
    · rw [if_pos (.inr h2), if_pos (by simp only; omega), Int.min_eq_right (by omega)]
    · rw [if_neg (by simp only; omega), if_neg (by simp only; omega)]
theorem set_at {l : List K} {j i : Nat} {k x y : K} (hj : l[j]? = some k) (h : (l.set j y)[i]? = some x) : i = j ∧ x = y ∨ i ≠ j ∧ l[i]? = some x := by
  by_cases e : i = j
  · subst e
    have hl : i < l.length := (List.getElem?_eq_some_iff.1 hj).1
    rw [List.getElem?_set_self hl] at h
    exact .inl ⟨rfl, (by injection h with h; exact h.symm)⟩
  · rw [List.getElem?_set_ne (fun e2 => e e2.symm)] at h
    exact .inr ⟨e, h⟩
theorem mem_set {l : List K} {j : Nat} {y x : K} (h : x ∈ l.set j y) : x = y ∨ x ∈ l := by
  rcases List.mem_or_eq_of_mem_set h with h | h
  · exact .inr h
  · exact .inl h
theorem MadeQ.set {l : List K} {j : Nat} {k : K} {a : Int} (h : MadeQ l) (hj : l[j]? = some k) (ha : 1 ≤ a ∧ a ≤ 1000) (hf : k.frm ≤ a) : MadeQ (l.set j (sts k a)) := by
  have hm := List.mem_of_getElem? hj
  refine ⟨fun x hx => ?_, fun i x hx => ?_, fun x hx => ?_, fun x hx => ?_, fun x hx => ?_, fun p q x y hpq hx hy => ?_⟩
  · rcases mem_set hx with rfl | hx
    · exact sts_ok (h.ok k hm) ⟨by omega, by omega⟩
    · exact h.ok x hx
  · rcases set_at hj hx with ⟨rfl, rfl⟩ | ⟨_, hx⟩
    · rw [sts_id]; exact h.id _ k hj
    · exact h.id i x hx
  · rcases mem_set hx with rfl | hx
    · rw [sts_sec]; exact h.sec k hm
    · exact h.sec x hx
  · rcases mem_set hx with rfl | hx
    · rw [sts_frm]; exact h.frm k hm
    · exact h.frm x hx
  · rcases mem_set hx with rfl | hx
    · have h2 := h.stl k hm
      have h3 := h.frm k hm
      rw [sts_stl, sts_frm]
      split <;> omega
    · exact h.stl x hx
  · rcases set_at hj hx with ⟨ep, ex⟩ | ⟨_, hx2⟩
    · rcases set_at hj hy with ⟨eq, ey⟩ | ⟨_, hy2⟩
      · omega
      · rw [ex, sts_frm]; exact h.up p q k y hpq (by rw [ep]; exact hj) hy2
    · rcases set_at hj hy with ⟨eq, ey⟩ | ⟨_, hy2⟩
      · rw [ey, sts_frm]; exact h.up p q x k hpq hx2 (by rw [eq]; exact hj)
      · exact h.up p q x y hpq hx2 hy2
theorem idx_q {l : List K} {j : Nat} {x : K} (h : MadeQ l) (hx : l[j]? = some x) : idxV l x.id = j := by
  rcases idxV_cases l x.id with ⟨_, hn⟩ | ⟨j', y, hi, hy, he⟩
  · exact absurd rfl (hn x (List.mem_of_getElem? hx))
  · have e1 := h.id j' y hy
    have e2 := h.id j x hx
    have : j' = j := by omega
    rw [hi, this]
theorem key_q {l : List K} {j : Nat} {x : K} (h : MadeQ l) (hx : l[j]? = some x) : keyAt l (idxV l x.id).toNat = x := by
  rw [idx_q h hx, Int.toNat_natCast]
  simp [keyAt, hx]
theorem sign_q {s : Int} {l : List K} {j : Nat} {x : K} (h : MadeQ l) (hx : l[j]? = some x) (t : Str) : signS s l x.id t = mark x.sec (sgn s x.id t) ∧ signE l x.id = 0 := by
  unfold signS signE
  rw [key_q h hx, idx_q h hx, if_neg (by omega), if_neg (by omega)]
  exact ⟨rfl, rfl⟩
theorem valid_q {s : Int} {l : List K} {j : Nat} {x : K} (h : MadeQ l) (hx : l[j]? = some x) (t : Str) (seen : Int) :
    validV s l x.id t (mark x.sec (sgn s x.id t)) x.frm seen = if stolenB x seen = true then 11 else 0 := by
  have hs := (h.sec x (List.mem_of_getElem? hx)).1
  have hn : (x.sec != []) = true := by simpa using hs
  unfold validV
  rw [key_q h hx, idx_q h hx, if_neg (by omega), hn, Bool.true_and, if_neg (by omega), if_neg (by simp)]
theorem chkL_q {l : List K} (h : MadeQ l) : ∀ (r : List K) (i : Nat) (b : K), l.drop i = r → (b.id < 1 + 2 * (i : Int)) → (∀ (j : Nat) (y : K), i ≤ j → l[j]? = some y → b.frm ≤ y.frm) → chkL b r = 0
  | [], _, _, _, _, _ => rfl
  | k :: r, i, b, hr, hb, hf => by
    have hx : l[i]? = some k := by
      have := congrArg (fun z => z[0]?) hr
      simpa using this
    have hm := List.mem_of_getElem? hx
    have h1 := h.id i k hx
    have h2 := h.sec k hm
    have h3 := h.frm k hm
    have h4 := h.stl k hm
    have h5 := hf i k (Nat.le_refl _) hx
    have hc : chkN b k = 0 := by
      unfold chkN
      rw [if_neg (by intro c; rcases c with c | c | c; omega; exact h2.1 c; omega), if_neg (by omega), if_neg, if_neg (by omega)]
      intro c
      rcases c with c | ⟨c1, c2⟩
      · unfold rightD at c
        simp at c
        omega
      · rw [canS_iff] at c2
        unfold rightD at c2
        simp at c2
        omega
    have e : chkL b (k :: r) = if chkN b k = 0 then chkL k r else chkN b k := rfl
    rw [e, if_pos hc]
    refine chkL_q h r (i + 1) k ?_ (by omega) (fun j y hj hy => h.up i j k y (by omega) hx hy)
    rw [← List.drop_drop, hr]
    rfl
theorem chk_q {s : Int} {l : List K} (h : MadeQ l) (hs : 1 ≤ s ∧ s ≤ 8) (hl : l.length ≤ 3) : chkR s l = 0 := by
  unfold chkR
  rw [if_neg (by omega), if_neg (by omega)]
  refine chkL_q h l 0 K0 rfl (by unfold K0; decide) (fun j y _ hy => ?_)
  have := h.frm y (List.mem_of_getElem? hy)
  show (0 : Int) ≤ y.frm
  omega
theorem steal_q {s : Int} {l : List K} {j : Nat} {k : K} {a : Int} (h : MadeQ l) (hs : 1 ≤ s ∧ s ≤ 8) (hl : l.length ≤ 3) (hj : l[j]? = some k) (ha : 1 ≤ a ∧ a ≤ 1000) :
    stealR s l k.id a = if a < k.frm then (0, [], 23) else (s, l.set j (sts k a), 0) := by
  unfold stealR
  rw [chk_q h hs hl, if_neg (by decide), key_q h hj, idx_q h hj, if_neg (by omega), Int.toNat_natCast]
  by_cases c : a < k.frm
  · rw [if_pos c, if_pos ((canS_iff _ _).2 (.inr (.inr c)))]
  · rw [if_neg c, if_neg]
    rw [canS_iff]
    unfold rightD
    simp
    omega
/-- a second theft -/
theorem steal_again {s : Int} {l : List K} {j : Nat} {k : K} {a b : Int} (h : MadeQ l) (hs : 1 ≤ s ∧ s ≤ 8) (hl : l.length ≤ 3) (hj : l[j]? = some k) (ha : 1 ≤ a ∧ a ≤ 1000) (hb : 1 ≤ b ∧ b ≤ 1000) (hf : k.frm ≤ a) :
    stealR s (l.set j (sts k a)) k.id b = if b < k.frm then (0, [], 23) else (s, l.set j (sts k (min a b)), 0) := by
  have hlt : j < l.length := (List.getElem?_eq_some_iff.1 hj).1
  have hj2 : (l.set j (sts k a))[j]? = some (sts k a) := List.getElem?_set_self hlt
  have e := steal_q (h.set hj ha hf) hs (by rw [List.length_set]; exact hl) hj2 hb
  rw [sts_id, sts_frm, List.set_set, sts_two k a b ha.1 hb.1] at e
  exact e
/-- what is valid before and after a theft -/
theorem theft_q {s : Int} {l : List K} {i j : Nat} {k x : K} {a : Int} (h : MadeQ l) (hj : l[j]? = some k) (hx : l[i]? = some x) (ha : 1 ≤ a ∧ a ≤ 1000) (hf : k.frm ≤ a) (t : Str) :
    signS s (l.set j (sts k a)) x.id t = mark x.sec (sgn s x.id t) ∧ signE (l.set j (sts k a)) x.id = 0 ∧ ∀ seen : Int, 0 ≤ seen →
      ∃ p q : Int, validV s l x.id t (mark x.sec (sgn s x.id t)) x.frm seen = p ∧ validV s (l.set j (sts k a)) x.id t (mark x.sec (sgn s x.id t)) x.frm seen = q ∧
        ((p = 0 ∧ q = 0) ∨ (p = 11 ∧ q = 11) ∨ (p = 0 ∧ q = 11)) ∧ ((seen < a ∨ x.id ≠ k.id) → p = q) ∧ (a ≤ seen ∧ x.id = k.id → q = 11) := by
  have hq := h.set hj ha hf
  have hst := h.stl x (List.mem_of_getElem? hx)
  by_cases e : i = j
  · subst e
    rw [hx] at hj
    injection hj with hj
    subst hj
    have hlt : i < l.length := (List.getElem?_eq_some_iff.1 hx).1
    have hx2 : (l.set i (sts x a))[i]? = some (sts x a) := List.getElem?_set_self hlt
    have g1 := sign_q (s := s) hq hx2 t
    rw [sts_id, sts_sec] at g1
    refine ⟨g1.1, g1.2, fun seen h0 => ?_⟩
    have v1 := valid_q (s := s) h hx t seen
    have v2 := valid_q (s := s) hq hx2 t seen
    rw [sts_id, sts_sec, sts_frm] at v2
    refine ⟨_, _, v1, v2, ?_⟩
    have e1 : stolenB x seen = true ↔ x.stl ≠ 0 ∧ x.stl ≤ seen := by unfold stolenB; simp
    have e2 : stolenB (sts x a) seen = true ↔ (sts x a).stl ≠ 0 ∧ (sts x a).stl ≤ seen := by unfold stolenB; simp
    rw [sts_stl] at e2
    have hstl : 0 ≤ x.stl := by omega
    generalize x.stl = z at *
    by_cases c1 : stolenB x seen = true
    · have d1 := e1.1 c1
      have c2 : stolenB (sts x a) seen = true := e2.2 (by split <;> omega)
      rw [if_pos c1, if_pos c2]
      simp
    · rw [if_neg c1]
      rw [e1] at c1
      by_cases c2 : stolenB (sts x a) seen = true
      · rw [if_pos c2]
        have d2 := e2.1 c2
        refine ⟨.inr (.inr ⟨rfl, rfl⟩), fun c => ?_, fun _ => rfl⟩
        rcases c with c | c
        · exfalso
          split at d2 <;> omega
        · exact absurd rfl c
      · rw [if_neg c2]
        rw [e2] at c2
        refine ⟨.inl ⟨rfl, rfl⟩, fun _ => rfl, fun c => ?_⟩
        exfalso
        split at c2 <;> omega
  · have hx2 : (l.set j (sts k a))[i]? = some x := by rw [List.getElem?_set_ne (fun e2 => e e2.symm)]; exact hx
    have g1 := sign_q (s := s) hq hx2 t
    refine ⟨g1.1, g1.2, fun seen h0 => ?_⟩
    have v1 := valid_q (s := s) h hx t seen
    have v2 := valid_q (s := s) hq hx2 t seen
    refine ⟨_, _, v1, v2, ?_, fun _ => rfl, fun c => ?_⟩
    · by_cases c1 : stolenB x seen = true
      · rw [if_pos c1]; simp
      · rw [if_neg c1]; simp
    · exfalso
      have e1 := h.id i x hx
      have e2 := h.id j k hj
      omega
end Go.Proofs.YtecobgjkodmaiaaDoor
