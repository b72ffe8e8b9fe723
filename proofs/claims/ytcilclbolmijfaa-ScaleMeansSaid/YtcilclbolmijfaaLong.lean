/-
  A long list of ones.
-/
import Derived.Test.YtcilclbolmijfaaFew
import Derived.Laws.MakeOwn
import Derived.Laws.OwnMore
namespace Go.Proofs.Ytcilclbolmijfaa
open Go.RowKit
/-- m numbers, of which the first k are one, and the others zero -/
def longA (m k : Nat) : Array Value := ((List.replicate k (1 : Int) ++ List.replicate (m - k) (0 : Int)).map (Value.int .i64)).toArray
theorem long_at {m k : Nat} (h : k < m) : (longA m k)[k]? = some (.int .i64 0) := by
  unfold longA
  obtain ⟨j, hj⟩ : ∃ j, m - k = j + 1 := ⟨m - k - 1, by omega⟩
  rw [hj]
  simp
theorem long_next {m k : Nat} (h : k < m) : (longA m k).setIfInBounds k (.int .i64 1) = longA m (k + 1) := by
  unfold longA
  obtain ⟨j, hj⟩ : ∃ j, m - k = j + 1 := ⟨m - k - 1, by omega⟩
  rw [hj, show m - (k + 1) = j by omega, show List.replicate (j + 1) (0 : Int) = 0 :: List.replicate j 0 from List.replicate_succ, show List.replicate (k + 1) (1 : Int) = List.replicate k 1 ++ [1] from List.replicate_succ']
  simp
theorem long_end (m : Nat) : longA m m = ((List.replicate m (1 : Int)).map (Value.int .i64)).toArray := by
  unfold longA; rw [Nat.sub_self]; simp
theorem long_mk (m : Nat) (hm : m ≤ 100000) (w : World) : (Instr.makeSlice 22 (.int .i64 (m : Int)) (.int .i64 (m : Int))).run Try.prog w = .ok (.slice (some ⟨w.heap.size, 0, none⟩) m m) (w.alloc (.cells (longA m 0) 3)) := by
  obtain ⟨i0, hi0, hz0, hz1, hz2⟩ := info_parts info3
  have h := run_makeSlice (P := Try.prog) (w := w) 22 3 i0 (.int .i64 0) Try.underlying22 hi0 hz0 .i64 .i64 m m (by omega) (by omega) (by rw [hz1]; omega) (by rw [hz2]; omega) (by omega)
  rw [h, hz1]
  simp only [Int.toNat_natCast, Nat.mul_one]
  have e : madeCells (Value.int .i64 0).cells m = longA m 0 := by
    apply Array.toList_inj.1
    rw [show (Value.int .i64 0).cells = #[Value.int .i64 0] from rfl, toList_madeCells_one]
    unfold longA
    simp
  rw [e]
theorem mean_ones {m : Nat} (h : 0 < m) (h2 : m ≤ 2000) : mN (List.replicate m 1) (List.replicate m 1) = 1 ∧ mD (List.replicate m 1) (List.replicate m 1) = 1 ∧ mE (List.replicate m 1) (List.replicate m 1) = 0 := by
  have h3 : (List.replicate m (1 : Int)).length = m := List.length_replicate
  have := mean_rep 1 (List.replicate m 1) (by omega) (fun x hx => by rw [List.eq_of_mem_replicate hx]; omega) (by omega) (by omega)
  rw [h3] at this
  exact ⟨this.2.1, this.2.2, this.1⟩
theorem mean_many {m : Nat} (h : 2000 < m) : mN (List.replicate m 1) (List.replicate m 1) = 0 ∧ mD (List.replicate m 1) (List.replicate m 1) = 0 ∧ mE (List.replicate m 1) (List.replicate m 1) = 2 := by
  have h3 : (List.replicate m (1 : Int)).length = m := List.length_replicate
  have hC : mC (List.replicate m 1) (List.replicate m 1) = 2 := by
    unfold mC
    rw [if_neg (by omega), if_pos (by omega)]
  obtain ⟨e1, e2, e3⟩ := mE_no (gs := List.replicate m 1) (cs := List.replicate m 1) (by omega)
  exact ⟨e2, e3, by rw [e1, hC]⟩
theorem ones_i64 (m : Nat) : ∀ z ∈ List.replicate m (1 : Int), i64 z := fun z hz => by rw [List.eq_of_mem_replicate hz]; unfold i64; omega
theorem nums_ones {w : World} {B m : Nat} (h : Row w B 3 (longA m m)) : Nums w (some ⟨B, 0, none⟩) (List.replicate m 1) :=
  ⟨ones_i64 m, fun _ => ⟨_, rfl, h.lt, fun j z hz => by
    have e : ((⟨B, 0, none⟩ : Addr).add j) = ⟨B, j, none⟩ := by simp [Addr.add]; omega
    rw [e]
    refine h.c j ?_
    rw [long_end, List.getElem?_toArray, List.getElem?_map, hz]
    rfl⟩⟩
theorem nums_rest {w : World} {B m : Nat} (h : Row w B 3 (longA m m)) : Nums w (some ⟨B, 1, none⟩) (List.replicate (m - 1) 1) :=
  ⟨ones_i64 _, fun _ => ⟨_, rfl, h.lt, fun j z hz => by
    have e : ((⟨B, 1, none⟩ : Addr).add j) = ⟨B, 1 + j, none⟩ := by unfold Addr.add; split <;> simp_all
    rw [e]
    refine h.c (1 + j) ?_
    obtain ⟨hj, rfl⟩ := List.getElem?_eq_some_iff.1 hz
    rw [List.length_replicate] at hj
    rw [long_end, List.getElem?_toArray, List.getElem?_map, List.getElem?_replicate, if_pos (by omega), List.getElem_replicate]
    rfl⟩⟩
end Go.Proofs.Ytcilclbolmijfaa
