/-
  digest.Of and what it is made of, by their contracts.
-/
import Derived.Test.YtecobgjkodmaiaaDoorProg
import Derived.Test.YtecobgjkodmaiaaDoorMath
import Derived.WalkKit
import Derived.WalkSpells
import Derived.WalkLawsBesides
import Derived.Lib.Hide
import Derived.Laws.BytesString
import Derived.Maps.AppendAt
import Derived.Outline
namespace Go.Proofs.YtecobgjkodmaiaaDoor
open Go.RowKit

theorem grown_of_below {w w' : World} (h : Below w.heap.size w w') : w.grownBy w' none := ⟨h.os, h.tape, h.output, h.size, fun i hi _ => h.block i hi⟩
theorem below_of_grown {w w' : World} (h : w.grownBy w' none) : Below w.heap.size w w' := ⟨h.os, h.tape, h.output, h.size, fun i hi => h.block i hi (by simp)⟩
theorem grown_drewN (w : World) (k : Nat) (row : Option Nat) : w.grownBy (w.drewN k) row := ⟨rfl, rfl, rfl, Nat.le_refl _, fun _ _ _ => rfl⟩
theorem grown_al {a w : World} {o : Obj} (h : a.grownBy w none) : a.grownBy (w.alloc o) none := h.trans (World.grownBy_alloc w o none)
theorem grown_dr {a w : World} (h : a.grownBy w none) : a.grownBy w.drew none := ⟨h.os, h.tape, h.output, h.size, h.block⟩
theorem str_app (a b : Str) : (⟨a.toArray⟩ : ByteArray) ++ ⟨b.toArray⟩ = ⟨(a ++ b).toArray⟩ := by
  apply ByteArray.ext; simp
theorem get_mk (l : Str) (i : Nat) (h : i < (⟨l.toArray⟩ : ByteArray).size) : (⟨l.toArray⟩ : ByteArray)[i]'h = l[i]'(by simpa [ByteArray.size] using h) := rfl
theorem extract_mk (l : Str) (i j : Nat) : (⟨l.toArray⟩ : ByteArray).extract i j = ⟨((l.take j).drop i).toArray⟩ := by
  apply ByteArray.ext
  simp [List.drop_take]
attribute [local go_sem] get_mk extract_mk
theorem ret_str {a b : ByteArray} (h : a = b) : Ending.returned (.string a) = .returned (.string b) := by rw [h]

theorem info5 : (Tryd.prog.info? 5).map (fun i => (i.zero, i.size, i.bytes)) = some (some (.int .u8 0), 1, 1) := by kernel_rfl

/-- a row of bytes, read as a string -/
theorem conv_bytes (w : World) (g cap : Nat) (ns : List Int) (h : ∀ j v, (ns.map (Value.int .u8))[j]? = some v → w.cell? ⟨g, j, none⟩ = some v) (s : Str)
    (hs : ns.foldl (fun r n => r.push (UInt8.ofNat n.toNat)) ByteArray.empty = ⟨s.toArray⟩) :
    (convert 84 9 (.slice (some ⟨g, 0, none⟩) ns.length cap)).run Tryd.prog w = .ok (.string ⟨s.toArray⟩) w := by
  rw [run_convert_bytes_string w 84 9 5 _ _ _ Tryd.underlying84 Tryd.underlying5 Tryd.underlying9, run_bytesToString w ⟨g, 0, none⟩ ns.length cap ns, hs]
  have := run_loadCells_list (P := Tryd.prog) (w := w) ⟨g, 0, none⟩ (ns.map (Value.int .u8)) (fun j v hv => by rw [show (⟨g, 0, none⟩ : Addr).add j = ⟨g, j, none⟩ by unfold Addr.add; split <;> simp_all]; exact h j v hv)
  simpa using this

def byt (n m j : Nat) : Int := (n : Int) / 2 ^ (8 * (m - j)) % 256
def arr (n s k : Nat) : Array Value := ((List.range s).map fun j => Value.int .u8 (if j < k then byt n (s - 1) j else 0)).toArray
theorem arr_next (n s k : Nat) (_ : k < s) : (arr n s k).setIfInBounds k (.int .u8 (byt n (s - 1) k)) = arr n s (k + 1) := by
  apply Array.ext_getElem?
  intro i
  simp only [arr, Array.getElem?_setIfInBounds, List.getElem?_toArray, List.getElem?_map, List.size_toArray, List.length_map, List.length_range]
  by_cases hi : k = i
  · subst hi
    simp [*]
  · by_cases h2 : i < s
    · simp only [hi, if_false, List.getElem?_range h2, Option.map_some]
      by_cases h3 : i < k
      · rw [if_pos h3, if_pos (by omega)]
      · rw [if_neg h3, if_neg (by omega)]
    · simp [hi, h2]
theorem arr_get (n s k : Nat) (h : k < s) : (arr n s k)[k]? = some (.int .u8 0) := by
  simp [arr, h]
theorem byt_eq (n m j : Nat) : UInt8.ofNat (byt n m j).toNat = UInt8.ofNat (n >>> (8 * (m - j))) := by
  have h : byt n m j = (((n >>> (8 * (m - j))) % 256 : Nat) : Int) := by
    unfold byt
    rw [Nat.shiftRight_eq_div_pow, Int.natCast_emod, Int.natCast_ediv, Int.natCast_pow]
    rfl
  rw [h, Int.toNat_natCast]
  exact UInt8.ofNat_mod_size
theorem conv4 (n cap : Nat) (w : World) : (convert 84 9 (.slice (some ⟨w.heap.size, 0, none⟩) 4 cap)).run Tryd.prog (w.alloc (.cells (arr n 4 4) 5)) = .ok (.string ⟨(be n 4).toArray⟩) (w.alloc (.cells (arr n 4 4) 5)) :=
  conv_bytes _ w.heap.size cap [byt n 3 0, byt n 3 1, byt n 3 2, byt n 3 3] (fun j v h => by
    rw [World.cell?_alloc_new, show arr n 4 4 = ([byt n 3 0, byt n 3 1, byt n 3 2, byt n 3 3].map (Value.int .u8)).toArray from rfl, List.getElem?_toArray]
    exact h) (be n 4) (by
    simp only [List.foldl_cons, List.foldl_nil, byt_eq]; rfl)
theorem conv8 (n cap : Nat) (w : World) : (convert 84 9 (.slice (some ⟨w.heap.size, 0, none⟩) 8 cap)).run Tryd.prog (w.alloc (.cells (arr n 8 8) 5)) = .ok (.string ⟨(be n 8).toArray⟩) (w.alloc (.cells (arr n 8 8) 5)) :=
  conv_bytes _ w.heap.size cap [byt n 7 0, byt n 7 1, byt n 7 2, byt n 7 3, byt n 7 4, byt n 7 5, byt n 7 6, byt n 7 7] (fun j v h => by
    rw [World.cell?_alloc_new, show arr n 8 8 = ([byt n 7 0, byt n 7 1, byt n 7 2, byt n 7 3, byt n 7 4, byt n 7 5, byt n 7 6, byt n 7 7].map (Value.int .u8)).toArray from rfl, List.getElem?_toArray]
    exact h) (be n 8) (by
    simp only [List.foldl_cons, List.foldl_nil, byt_eq]; rfl)

set_option maxRecDepth 100000 in
set_option maxHeartbeats 1000000 in
theorem written4 (n : Nat) (_ : n < 9223372036854775808) (w : World) :
    Calls Tryd.prog 58 #[.int .i64 n, .int .i64 4] w fun e w' => e = .returned (.string ⟨(be n 4).toArray⟩) ∧ w.grownBy w' none := by
  have hmk : ∀ w, (Instr.makeSlice 84 (.int .i64 4) (.int .i64 4)).run Tryd.prog w = .ok (.slice (some ⟨w.heap.size, 0, none⟩) 4 4) (w.alloc (.cells (arr n 4 0) 5)) := fun _ => by kernel_rfl
  have hcv := conv4 n 4 w
  go_enter Tryd.func58, Tryd.ntmps58
  go_wp2
  go_loopw [6, 11] (fun j i wr => ∃ k : Nat, k ≤ 4 ∧ i = .int .i64 k ∧ wr = w.alloc (.cells (arr n 4 k) 5)) (fun _ i _ => 4 - (intOf i).toNat)
  case atStart => exact ⟨0, by omega, rfl, rfl⟩
  case round =>
    obtain ⟨k, hk, rfl, rfl⟩ := hrel
    by_cases hlt : k < 4
    · have h1 := arr_get n 4 k hlt
      have h2 := arr_next n 4 k hlt
      unfold byt at h2
      go_wp2
      exact ⟨⟨k + 1, by omega, by go_num, rfl⟩, by simp [intOf]; omega⟩
    · obtain rfl : k = 4 := by omega
      go_wp2
      go_ret
      exact ⟨rfl, World.grownBy_alloc w _ none⟩
set_option maxRecDepth 100000 in
set_option maxHeartbeats 1000000 in
theorem written8 (n : Nat) (_ : n < 9223372036854775808) (w : World) :
    Calls Tryd.prog 58 #[.int .i64 n, .int .i64 8] w fun e w' => e = .returned (.string ⟨(be n 8).toArray⟩) ∧ w.grownBy w' none := by
  have hmk : ∀ w, (Instr.makeSlice 84 (.int .i64 8) (.int .i64 8)).run Tryd.prog w = .ok (.slice (some ⟨w.heap.size, 0, none⟩) 8 8) (w.alloc (.cells (arr n 8 0) 5)) := fun _ => by kernel_rfl
  have hcv := conv8 n 8 w
  go_enter Tryd.func58, Tryd.ntmps58
  go_wp2
  go_loopw [6, 11] (fun j i wr => ∃ k : Nat, k ≤ 8 ∧ i = .int .i64 k ∧ wr = w.alloc (.cells (arr n 8 k) 5)) (fun _ i _ => 8 - (intOf i).toNat)
  case atStart => exact ⟨0, by omega, rfl, rfl⟩
  case round =>
    obtain ⟨k, hk, rfl, rfl⟩ := hrel
    by_cases hlt : k < 8
    · have h1 := arr_get n 8 k hlt
      have h2 := arr_next n 8 k hlt
      unfold byt at h2
      go_wp2
      exact ⟨⟨k + 1, by omega, by go_num, rfl⟩, by simp [intOf]; omega⟩
    · obtain rfl : k = 8 := by omega
      go_wp2
      go_ret
      exact ⟨rfl, World.grownBy_alloc w _ none⟩
end Go.Proofs.YtecobgjkodmaiaaDoor
