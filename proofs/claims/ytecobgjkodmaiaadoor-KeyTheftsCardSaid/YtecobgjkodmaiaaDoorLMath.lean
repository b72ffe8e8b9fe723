/-
  What holds of the keys of a made ring, as the laws ask for it.
-/
import Derived.Test.YtecobgjkodmaiaaDoorRings
import Derived.Test.YtecobgjkodmaiaaDoorSanity
import Derived.Deep.DeepCutAuto
namespace Go.Proofs.YtecobgjkodmaiaaDoor
open Go.RowKit
attribute [local go_sem] get_mk extract_mk
theorem idx_made {l : List K} {j : Nat} {x : K} (h : MadeP l) (hx : l[j]? = some x) : idxV l x.id = j := by
  rcases idxV_cases l x.id with ⟨_, hn⟩ | ⟨j', y, hi, hy, he⟩
  · exact absurd rfl (hn x (List.mem_of_getElem? hx))
  · have e1 := h.id j' y hy
    have e2 := h.id j x hx
    have : j' = j := by omega
    rw [hi, this]
theorem key_made {l : List K} {j : Nat} {x : K} (h : MadeP l) (hx : l[j]? = some x) : keyAt l (idxV l x.id).toNat = x := by
  rw [idx_made h hx, Int.toNat_natCast]
  simp [keyAt, hx]
theorem sign_made {s : Int} {l : List K} {j : Nat} {x : K} (h : MadeP l) (hx : l[j]? = some x) (t : Str) : signS s l x.id t = mark x.sec (sgn s x.id t) ∧ signE l x.id = 0 := by
  unfold signS signE
  rw [key_made h hx, idx_made h hx, if_neg (by omega), if_neg (by omega)]
  exact ⟨rfl, rfl⟩
theorem valid_made {s : Int} {l : List K} {j : Nat} {x : K} (h : MadeP l) (hx : l[j]? = some x) (t m : Str) (day seen : Int) :
    validV s l x.id t m day seen = if day < x.frm then 23 else if (m == mark x.sec (sgn s x.id t)) = false then 11 else if stolenB x seen = true then 11 else 0 := by
  have hs := (h.sec x (List.mem_of_getElem? hx)).1
  have hn : (x.sec != []) = true := by simpa using hs
  unfold validV
  rw [key_made h hx, idx_made h hx, if_neg (by omega), hn, Bool.true_and]
theorem valid_cur {s : Int} {l : List K} {j : Nat} {x : K} (h : MadeP l) (hx : l[j]? = some x) (t : Str) (day : Int) : (validV s l x.id t (mark x.sec (sgn s x.id t)) day day == 0) = curP day x := by
  rw [valid_made h hx]
  unfold curP
  by_cases c0 : day < x.frm
  · rw [if_pos c0]
    have : ¬ x.frm ≤ day := by omega
    simp [this]
  · rw [if_neg c0]
    have c1 : x.frm ≤ day := by omega
    rw [if_neg (by simp)]
    cases hst : stolenB x day <;> simp [c1]
theorem cur_none {l : List K} {day : Int} (h : curO l day = none) : ∀ x ∈ l, curP day x = false := fun x hx => by
  have := List.find?_eq_none.1 h x (by simpa using hx)
  simpa using this
theorem cur_some {l : List K} {day : Int} {y : K} (h : curO l day = some y) : ∃ i : Nat, l[i]? = some y ∧ curP day y = true ∧ ∀ (j : Nat) (x : K), i < j → l[j]? = some x → curP day x = false := by
  obtain ⟨hp, us, bs, e, hn⟩ := List.find?_eq_some_iff_append.1 h
  have el : l = bs.reverse ++ y :: us.reverse := by
    have := congrArg List.reverse e
    simpa using this
  refine ⟨bs.length, ?_, hp, fun j x hj hx => ?_⟩
  · rw [el, List.getElem?_append_right (by simp)]
    simp
  · rw [el, List.getElem?_append_right (by simp; omega)] at hx
    simp only [List.length_reverse] at hx
    obtain ⟨d, hd⟩ : ∃ d, j - bs.length = d + 1 := ⟨j - bs.length - 1, by omega⟩
    rw [hd, List.getElem?_cons_succ] at hx
    have := hn x (by simpa using List.mem_of_getElem? hx)
    simpa using this
theorem cur_each {l : List K} {day : Int} {j : Nat} {x : K} (h : MadeP l) (hx : l[j]? = some x) : (x.id = curI l day → curP day x = true) ∧ (curI l day < x.id → curP day x = false) := by
  have e2 := h.id j x hx
  cases hc : curO l day with
  | none =>
    have hi : curI l day = 0 := by unfold curI; rw [hc]
    have hn := cur_none hc x (List.mem_of_getElem? hx)
    rw [hi, hn]
    exact ⟨fun e => by omega, fun _ => rfl⟩
  | some y =>
    have hi : curI l day = y.id := by unfold curI; rw [hc]
    obtain ⟨i, hy, hp, hlt⟩ := cur_some hc
    have e1 := h.id i y hy
    rw [hi]
    refine ⟨fun e => ?_, fun e => hlt j x (by omega) hx⟩
    have : i = j := by omega
    subst this
    rw [hx] at hy
    injection hy with hy
    rw [hy]
    exact hp
theorem cur_any {l : List K} {day : Int} : l.any (curP day) = curB l day := by
  unfold curB
  cases hc : curO l day with
  | none =>
    rw [Option.isSome_none, List.any_eq_false]
    intro x hx
    rw [cur_none hc x hx]
    decide
  | some y =>
    obtain ⟨i, hy, hp, _⟩ := cur_some hc
    rw [Option.isSome_some, List.any_eq_true]
    exact ⟨y, List.mem_of_getElem? hy, hp⟩
theorem any_next {l : List K} {day : Int} {k : Nat} {x : K} (hx : l[k]? = some x) : (l.take (k + 1)).any (curP day) = ((l.take k).any (curP day) || curP day x) := by
  rw [take_one l k x hx, List.any_append]
  simp
end Go.Proofs.YtecobgjkodmaiaaDoor
