/-
  The laws' sanity, by its contract.
-/
import Derived.Test.YtgfifpbmjkjnpaaClock
namespace Go.Proofs.Ytgfifpbmjkjnpaa
open Go.RowKit
theorem is_yes (x y z : Int) (w : World) : Calls Try.prog 34 #[.agg #[.int .i64 x, .int .i64 y, .int .i64 z], .int .i64 0, .int .i64 x, .int .i64 y, .int .i64 z] w fun e w' => e = .returned (.bool true) ∧ w.grownBy w' none := by
  go_enter Try.func34, Try.ntmps34
  go_wp2_with fail
  go_ret
  exact ⟨rfl, World.grownBy_alloc w _ none⟩
set_option maxRecDepth 100000 in
set_option maxHeartbeats 4000000 in
/-- quadriviumlaw03.sanity -/
theorem sane_k (w : World) : Calls Try.prog 10 #[] w fun e w' => e = .returned (.bool true) ∧ w.grownBy w' none := by
  go_enter Try.func10, Try.ntmps10
  go_wp2_with fail
  refine (show Calls Try.prog 13 #[.int .i64 0] _ (fun e w' => e = .returned (.int .i64 0) ∧ w = w') from term_k 0 ⟨by decide, by decide⟩ w).mono ?_
  rintro e w1 ⟨rfl, rfl⟩
  go_wp2_with fail
  refine (show Calls Try.prog 13 #[.int .i64 99] _ (fun e w' => e = .returned (.int .i64 0) ∧ w = w') from term_k 99 ⟨by decide, by decide⟩ w).mono ?_
  rintro e w1 ⟨rfl, rfl⟩
  go_wp2_with fail
  refine (show Calls Try.prog 13 #[.int .i64 100] _ (fun e w' => e = .returned (.int .i64 1) ∧ w = w') from term_k 100 ⟨by decide, by decide⟩ w).mono ?_
  rintro e w1 ⟨rfl, rfl⟩
  go_wp2_with fail
  refine (show Calls Try.prog 13 #[.int .i64 (-1)] _ (fun e w' => e = .returned (.int .i64 (-1)) ∧ w = w') from term_k (-1) ⟨by decide, by decide⟩ w).mono ?_
  rintro e w1 ⟨rfl, rfl⟩
  go_wp2_with fail
  refine (show Calls Try.prog 15 #[.int .i64 3] _ (fun e w' => e = .returned (.int .i64 300) ∧ w = w') from begin_s 3 (by decide) (by decide) w).mono ?_
  rintro e w1 ⟨rfl, rfl⟩
  go_wp2_with fail
  refine (show Calls Try.prog 17 #[.int .i64 3] _ (fun e w' => e = .returned (.int .i64 399) ∧ w = w') from last_s 3 (by decide) (by decide) w).mono ?_
  rintro e w1 ⟨rfl, rfl⟩
  go_wp2_with fail
  refine (show Calls Try.prog 19 #[.int .i64 399] _ (fun e w' => e = .returned (.int .i64 1) ∧ w = w') from year_k 399 ⟨by decide, by decide⟩ w).mono ?_
  rintro e w1 ⟨rfl, rfl⟩
  go_wp2_with fail
  refine (show Calls Try.prog 19 #[.int .i64 400] _ (fun e w' => e = .returned (.int .i64 2) ∧ w = w') from year_k 400 ⟨by decide, by decide⟩ w).mono ?_
  rintro e w1 ⟨rfl, rfl⟩
  go_wp2_with fail
  refine (show Calls Try.prog 21 #[.int .i64 5, .int .i64 5, .int .i64 9] _ (fun e w' => e = .returned (.bool true) ∧ w = w') from within_k 5 5 9 w).mono ?_
  rintro e w1 ⟨rfl, rfl⟩
  go_wp2_with fail
  refine (show Calls Try.prog 21 #[.int .i64 9, .int .i64 5, .int .i64 9] _ (fun e w' => e = .returned (.bool false) ∧ w = w') from within_k 9 5 9 w).mono ?_
  rintro e w1 ⟨rfl, rfl⟩
  go_wp2_with fail
  refine (show Calls Try.prog 21 #[.int .i64 9, .int .i64 5, .int .i64 0] _ (fun e w' => e = .returned (.bool true) ∧ w = w') from within_k 9 5 0 w).mono ?_
  rintro e w1 ⟨rfl, rfl⟩
  go_wp2_with fail
  refine (show Calls Try.prog 23 #[.int .i64 1, .int .i64 5, .int .i64 5, .int .i64 9] _ (fun e w' => e = .returned (.bool false) ∧ w = w') from meet_k 1 5 5 9 w).mono ?_
  rintro e w1 ⟨rfl, rfl⟩
  go_wp2_with fail
  refine (show Calls Try.prog 23 #[.int .i64 1, .int .i64 6, .int .i64 5, .int .i64 0] _ (fun e w' => e = .returned (.bool true) ∧ w = w') from meet_k 1 6 5 0 w).mono ?_
  rintro e w1 ⟨rfl, rfl⟩
  go_wp2_with fail
  refine (new_k 2 rfl w).mono ?_
  rintro e w1 ⟨rfl, rfl⟩
  have C1 := Ck.new w 2
  have g1 := World.grownBy_alloc w (.cells #[.int .i64 2, .int .i64 0, .int .i64 (-1), .int .i64 0] 57) none
  have HB : Hid (w.heap.size ≤ w.heap.size) := Lib.hid (Nat.le_refl _)
  generalize w.alloc (.cells #[.int .i64 2, .int .i64 0, .int .i64 (-1), .int .i64 0] 57) = w0 at *
  have G := Lib.hid (fun w' (g : w0.grownBy w' (some w.heap.size)) => (g1.andThen g (by rintro j ⟨⟩; exact .inl (Nat.le_refl _)) : w.grownBy w' none))
  generalize w.heap.size = b at *
  clear HB g1
  go_wp2_with fail
  refine (now_k b 2 0 (-1) 0 7 7 0 2 0 7 0 2 w0 C1 (by decide) (by decide) (by kernel_rfl)).mono ?_
  rintro e w1 ⟨rfl, C2, g2⟩
  have b1 := C2.lt
  have A1 := S3.new w1 7 0 2
  have g3 := g2.trans (World.grownBy_alloc w1 (.cells #[.int .i64 7, .int .i64 0, .int .i64 2] 39) _)
  have C3 := C2.kept (World.grownBy_alloc w1 (.cells #[.int .i64 7, .int .i64 0, .int .i64 2] 39) none)
  clear C1 C2 g2
  go_wp2_with fail
  refine (now_k b 2 7 0 2 7 7 1 2 0 7 1 2 _ C3 (by decide) (by decide) (by kernel_rfl)).mono ?_
  rintro e w2 ⟨rfl, C4, g4⟩
  have b2 := C4.lt
  have A1 := A1.keptR g4 (by simp; omega)
  have A2 := S3.new w2 7 1 2
  have gg := World.grownBy_alloc w2 (.cells #[.int .i64 7, .int .i64 1, .int .i64 2] 39) none
  have g5 := (g3.trans g4).trans (gg.but _)
  have C5 := C4.kept gg
  have A1 := A1.kept gg
  clear C3 C4 g3 g4 gg
  go_wp2_with fail
  refine (now_k b 2 7 1 2 3 7 2 2 0 7 2 2 _ C5 (by decide) (by decide) (by kernel_rfl)).mono ?_
  rintro e w3 ⟨rfl, C6, g6⟩
  have b3 := C6.lt
  have A1 := A1.keptR g6 (by simp; omega)
  have A2 := A2.keptR g6 (by simp; omega)
  have A3 := S3.new w3 7 2 2
  have gg := World.grownBy_alloc w3 (.cells #[.int .i64 7, .int .i64 2, .int .i64 2] 39) none
  have g7 := (g5.trans g6).trans (gg.but _)
  have C7 := C6.kept gg
  have A1 := A1.kept gg
  have A2 := A2.kept gg
  clear C5 C6 g5 g6 gg
  have a0 := A1.c0
  have a1 := A1.c1
  have a2 := A1.c2
  go_wp2_with fail
  refine (is_yes 7 0 2 _).mono ?_
  rintro e w4 ⟨rfl, gg⟩
  have g8 := g7.trans (gg.but _)
  have C8 := C7.kept gg
  have A2 := A2.kept gg
  have A3 := A3.kept gg
  clear C7 g7 gg a0 a1 a2 A1
  have a0 := A2.c0
  have a1 := A2.c1
  have a2 := A2.c2
  go_wp2_with fail
  refine (is_yes 7 1 2 _).mono ?_
  rintro e w5 ⟨rfl, gg⟩
  have g9 := g8.trans (gg.but _)
  have C9 := C8.kept gg
  have A3 := A3.kept gg
  clear C8 g8 gg a0 a1 a2 A2
  have a0 := A3.c0
  have a1 := A3.c1
  have a2 := A3.c2
  go_wp2_with fail
  refine (is_yes 7 2 2 _).mono ?_
  rintro e w6 ⟨rfl, gg⟩
  have g10 := g9.trans (gg.but _)
  have C10 := C9.kept gg
  clear C9 g9 gg a0 a1 a2 A3
  go_wp2_with fail
  refine (hear_k b 2 7 2 2 12 4 1 7 0 12 4 1 w6 C10 (by decide) (by kernel_rfl)).mono ?_
  rintro e w7 ⟨rfl, C11, gg⟩
  have g11 := g10.trans gg
  clear C10 g10 gg
  go_wp2_with fail
  refine (now_k b 2 12 4 1 8 12 5 2 0 12 5 2 w7 C11 (by decide) (by decide) (by kernel_rfl)).mono ?_
  rintro e w8 ⟨rfl, C12, gg⟩
  have A1 := S3.new w8 12 5 2
  have gn := World.grownBy_alloc w8 (.cells #[.int .i64 12, .int .i64 5, .int .i64 2] 39) none
  have g12 := (g11.trans gg).trans (gn.but _)
  have C13 := C12.kept gn
  clear C11 C12 g11 gg gn
  have a0 := A1.c0
  have a1 := A1.c1
  have a2 := A1.c2
  go_wp2_with fail
  refine (is_yes 12 5 2 _).mono ?_
  rintro e w9 ⟨rfl, gg⟩
  have g13 := g12.trans (gg.but _)
  have C14 := C13.kept gg
  clear C13 g12 gg a0 a1 a2 A1
  go_wp2_with fail
  refine (hear_k b 2 12 5 2 14 0 1 8 23 12 5 2 w9 C14 (by decide) (by kernel_rfl)).mono ?_
  rintro e w10 ⟨rfl, C15, gg⟩
  have g14 := G.out _ (g13.trans gg)
  clear C14 C15 g13 gg
  go_wp2_with fail
  go_ret
  exact ⟨rfl, g14⟩
end Go.Proofs.Ytgfifpbmjkjnpaa
