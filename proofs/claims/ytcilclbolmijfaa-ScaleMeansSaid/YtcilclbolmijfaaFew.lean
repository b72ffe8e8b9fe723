/-
  The beginnings of lists.
-/
import Derived.Test.YtcilclbolmijfaaOnce
namespace Go.Proofs.Ytcilclbolmijfaa
open Go.RowKit
theorem Nums.take {w : World} {A : Option Addr} {l : List Int} (h : Nums w A l) (k : Nat) : Nums w A (l.take k) :=
  ⟨fun z hz => h.1 z (List.mem_of_mem_take hz), fun h0 => by
    rw [List.length_take] at h0
    obtain ⟨ad, e, hb, hc⟩ := h.2 (by omega)
    exact ⟨ad, e, hb, fun j z hj => hc j z (by rw [List.getElem?_take] at hj; split at hj <;> simp_all)⟩⟩
set_option maxRecDepth 100000 in
theorem few_k (A : Option Addr) (n c : Nat) (hc : n ≤ c) (hm : c ≤ maxLen) (hA : A = none → c = 0) (w : World) :
    Calls Try.prog 23 #[.slice A n c] w fun e w' => e = .returned (.slice A (min n 12) c) ∧ w = w' := by
  unfold maxLen at hm
  cases A with
  | none =>
    obtain rfl := hA rfl
    obtain rfl : n = 0 := by omega
    go_enter Try.func23, Try.ntmps23
    go_wp2_with fail
    go_ret
    exact ⟨rfl, rfl⟩
  | some ad =>
    clear hA
    by_cases h : n ≤ 12
    · rw [Nat.min_eq_left h]
      go_enter Try.func23, Try.ntmps23
      go_wp2_with fail
      go_ret
      exact ⟨rfl, rfl⟩
    · rw [Nat.min_eq_right (by omega)]
      have h1 : 12 ≤ c := by omega
      go_enter Try.func23, Try.ntmps23
      go_wp2_with fail
      go_ret
      exact ⟨rfl, rfl⟩
end Go.Proofs.Ytcilclbolmijfaa
