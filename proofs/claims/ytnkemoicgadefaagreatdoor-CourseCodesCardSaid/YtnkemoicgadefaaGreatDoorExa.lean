/-
  The catalog of the examples.
-/
import Derived.Test.YtnkemoicgadefaaGreatDoorSam
namespace Go.Proofs.YtnkemoicgadefaaGreatDoor
open Go.RowKit
attribute [local go_sem] get_mk extract_mk
def sA1 : Str := [65, 49]
def sB1 : Str := [66, 49]
def sB2 : Str := [66, 50]
def sC1 : Str := [67, 49]
def sX : Str := [88]
def exL : List O := [⟨sA1, 5, 30, [1, 2], []⟩, ⟨sB1, 6, 10, [2], [sA1]⟩, ⟨sB2, 3, 0, [], []⟩, ⟨sC1, 10, 200, [40], [sB1, sB2]⟩]
def exTwice : List O := [⟨sA1, 5, 30, [1, 2], []⟩, ⟨sB2, 6, 10, [2], [sA1]⟩, ⟨sB2, 3, 0, [], []⟩, ⟨sC1, 10, 200, [40], [sB1, sB2]⟩]
def exCirc : List O := [⟨sA1, 5, 30, [1, 2], [sC1]⟩, ⟨sB1, 6, 10, [2], [sA1]⟩, ⟨sB2, 3, 0, [], []⟩, ⟨sC1, 10, 200, [40], [sB1, sB2]⟩]
def exNone : List O := [⟨sA1, 5, 30, [1, 2], []⟩, ⟨sB1, 6, 10, [2], [sA1]⟩, ⟨sB2, 3, 0, [], [sX]⟩, ⟨sC1, 10, 200, [40], [sB1, sB2]⟩]
def exFar : List O := [⟨sA1, 5, 30, [1, 2], []⟩, ⟨sB1, 6, 10, [2], [sA1]⟩, ⟨sB2, 3, 0, [], []⟩, ⟨sC1, 61, 200, [40], [sB1, sB2]⟩]
theorem check_exL : checkV exL = 0 := by decide +kernel
theorem check_exTwice : checkV exTwice = 6 := by decide +kernel
theorem check_exCirc : checkV exCirc = 14 := by decide +kernel
theorem check_exNone : checkV exNone = 5 := by decide +kernel
theorem check_exFar : checkV exFar = 3 := by decide +kernel
theorem needs_C1 : needsV exL sC1 = [sA1, sB1, sB2] := by decide +kernel
theorem needs_A1 : needsV exL sA1 = [] := by decide +kernel
theorem needs_X : needsV exL sX = [] := by decide +kernel
theorem order_ex : orderV exL = [sA1, sB1, sB2, sC1] := by decide +kernel
theorem met_1 : metV exL sB1 [sA1] = true := by decide +kernel
theorem met_2 : metV exL sC1 [sA1, sB1] = false := by decide +kernel
theorem met_3 : metV exL sX [] = false := by decide +kernel
/-- where the parts of the examples' catalog lie -/
structure Ex (w : World) (s : Nat) : Prop where
  r0 : Row w s 3 #[.int .i64 1, .int .i64 2]
  r2 : Row w (s + 2) 3 #[.int .i64 2]
  r3 : Row w (s + 3) 9 #[.string ⟨#[65, 49]⟩]
  r5 : Row w (s + 5) 3 #[.int .i64 40]
  r6 : Row w (s + 6) 9 #[.string ⟨#[66, 49]⟩, .string ⟨#[66, 50]⟩]
  sz : s + 7 < w.heap.size
theorem Ex.kept {w w' : World} {s : Nat} (h : Ex w s) (g : w.grownBy w' none) : Ex w' s := ⟨h.r0.kept g, h.r2.kept g, h.r3.kept g, h.r5.kept g, h.r6.kept g, Nat.lt_of_lt_of_le h.sz g.size⟩
theorem Ex.off {w w' : World} {s x : Nat} (h : Ex w s) (g : w.grownBy w' (some x)) (hx : x < s ∨ s + 7 ≤ x) : Ex w' s :=
  ⟨h.r0.keptR g (by simp; omega), h.r2.keptR g (by simp; omega), h.r3.keptR g (by simp; omega), h.r5.keptR g (by simp; omega), h.r6.keptR g (by simp; omega), Nat.lt_of_lt_of_le h.sz g.size⟩
def exC (s : Nat) : Array Value := #[.string ⟨#[65, 49]⟩, .int .i64 5, .int .i64 30, .slice (some ⟨s, 0, none⟩) 2 2, .slice none 0 0,
  .string ⟨#[66, 49]⟩, .int .i64 6, .int .i64 10, .slice (some ⟨s + 2, 0, none⟩) 1 1, .slice (some ⟨s + 3, 0, none⟩) 1 1,
  .string ⟨#[66, 50]⟩, .int .i64 3, .int .i64 0, .slice none 0 0, .slice none 0 0,
  .string ⟨#[67, 49]⟩, .int .i64 10, .int .i64 200, .slice (some ⟨s + 5, 0, none⟩) 1 1, .slice (some ⟨s + 6, 0, none⟩) 2 2]
set_option maxRecDepth 100000 in
set_option maxHeartbeats 1000000 in
theorem example_k (w : World) : Calls Tryz.prog 13 #[] w fun e w' => ∃ s, e = .returned (.slice (some ⟨s + 7, 0, none⟩) 4 4) ∧ w.heap.size ≤ s ∧ Ex w' s ∧ Row w' (s + 7) 41 (exC s) ∧ w.grownBy w' none := by
  obtain ⟨w1, e1, R0, g1⟩ := row_of w 3 #[.int .i64 1, .int .i64 2]
  have s1 : w1.heap.size = w.heap.size + 1 := by rw [e1]; simp
  obtain ⟨w2, e2, R1, g2⟩ := row_of w1 41 #[.string ⟨#[65, 49]⟩, .int .i64 5, .int .i64 30, .slice (some ⟨w.heap.size, 0, none⟩) 2 2, .slice none 0 0]
  rw [s1] at R1
  have s2 : w2.heap.size = w.heap.size + 1 + 1 := by rw [e2]; simp [s1]
  obtain ⟨w3, e3, R2, g3⟩ := row_of w2 3 #[.int .i64 2]
  rw [s2] at R2
  have s3 : w3.heap.size = w.heap.size + 1 + 1 + 1 := by rw [e3]; simp [s2]
  obtain ⟨w4, e4, R3, g4⟩ := row_of w3 9 #[.string ⟨#[65, 49]⟩]
  rw [s3] at R3
  have s4 : w4.heap.size = w.heap.size + 1 + 1 + 1 + 1 := by rw [e4]; simp [s3]
  obtain ⟨w5, e5, R4, g5⟩ := row_of w4 41 #[.string ⟨#[66, 49]⟩, .int .i64 6, .int .i64 10, .slice (some ⟨w.heap.size + 1 + 1, 0, none⟩) 1 1, .slice (some ⟨w.heap.size + 1 + 1 + 1, 0, none⟩) 1 1]
  rw [s4] at R4
  have s5 : w5.heap.size = w.heap.size + 1 + 1 + 1 + 1 + 1 := by rw [e5]; simp [s4]
  obtain ⟨w6, e6, R5, g6⟩ := row_of w5 3 #[.int .i64 40]
  rw [s5] at R5
  have s6 : w6.heap.size = w.heap.size + 1 + 1 + 1 + 1 + 1 + 1 := by rw [e6]; simp [s5]
  obtain ⟨w7, e7, R6, g7⟩ := row_of w6 9 #[.string ⟨#[66, 49]⟩, .string ⟨#[66, 50]⟩]
  rw [s6] at R6
  have s7 : w7.heap.size = w.heap.size + 1 + 1 + 1 + 1 + 1 + 1 + 1 := by rw [e7]; simp [s6]
  obtain ⟨w8, e8, R7, g8⟩ := row_of w7 41 #[.string ⟨#[65, 49]⟩, .int .i64 5, .int .i64 30, .slice (some ⟨w.heap.size, 0, none⟩) 2 2, .slice none 0 0, .string ⟨#[66, 49]⟩, .int .i64 6, .int .i64 10, .slice (some ⟨w.heap.size + 1 + 1, 0, none⟩) 1 1, .slice (some ⟨w.heap.size + 1 + 1 + 1, 0, none⟩) 1 1, .string ⟨#[66, 50]⟩, .int .i64 3, .int .i64 0, .slice none 0 0, .slice none 0 0, .string ⟨#[67, 49]⟩, .int .i64 10, .int .i64 200, .slice (some ⟨w.heap.size + 1 + 1 + 1 + 1 + 1, 0, none⟩) 1 1, .slice (some ⟨w.heap.size + 1 + 1 + 1 + 1 + 1 + 1, 0, none⟩) 2 2]
  rw [s7] at R7
  have s8 : w8.heap.size = w.heap.size + 1 + 1 + 1 + 1 + 1 + 1 + 1 + 1 := by rw [e8]; simp [s7]
  have E1 := Lib.hid e1
  have E2 := Lib.hid e2
  have E3 := Lib.hid e3
  have E4 := Lib.hid e4
  have E5 := Lib.hid e5
  have E6 := Lib.hid e6
  have E7 := Lib.hid e7
  have E8 := Lib.hid e8
  clear e1 e2 e3 e4 e5 e6 e7 e8
  go_enter Tryz.func13, Tryz.ntmps13
  go_upto_region 2 with fail
  go_upto_region 3 with fail
  go_wp2_with fail
  go_ret
  rw [← E1.out, ← E2.out, ← E3.out, ← E4.out, ← E5.out, ← E6.out, ← E7.out, ← E8.out]
  exact ⟨w.heap.size, rfl, Nat.le_refl _, ⟨(((((((R0.kept g2).kept g3).kept g4).kept g5).kept g6).kept g7).kept g8), (((((R2.kept g4).kept g5).kept g6).kept g7).kept g8), ((((R3.kept g5).kept g6).kept g7).kept g8), ((R5.kept g7).kept g8), (R6.kept g8), by rw [s8]; omega⟩, R7, (((((((g1.trans g2).trans g3).trans g4).trans g5).trans g6).trans g7).trans g8)⟩
end Go.Proofs.YtnkemoicgadefaaGreatDoor
