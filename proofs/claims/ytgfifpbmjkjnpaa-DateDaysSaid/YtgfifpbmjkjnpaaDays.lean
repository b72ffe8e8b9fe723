/-
  The law DateDays.
-/
import Derived.Test.YtgfifpbmjkjnpaaSane
namespace Go.Proofs.Ytgfifpbmjkjnpaa
open Go.RowKit
theorem i64_mod {n : Int} (_ : i64 n) : i64 (n.tmod 300) := by
  have h1 := Int.tmod_lt_of_pos n (b := 300) (by omega)
  have h2 := Int.lt_tmod_of_pos n (b := 300) (by omega)
  unfold i64
  omega
/-- four numbers at block b -/
def A4 (w : World) (b : Nat) (x0 x1 x2 x3 : Int) : Prop := w.heap[b]? = some (.cells #[.int .i64 x0, .int .i64 x1, .int .i64 x2, .int .i64 x3] 22 (0, 0))
theorem A4.lt {w : World} {b : Nat} {x0 x1 x2 x3 : Int} (h : A4 w b x0 x1 x2 x3) : b < w.heap.size := by
  rcases Nat.lt_or_ge b w.heap.size with hlt | hge
  · exact hlt
  · unfold A4 at h; rw [Array.getElem?_eq_none hge] at h; cases h
theorem A4.kept {w w' : World} {b : Nat} {x0 x1 x2 x3 : Int} (h : A4 w b x0 x1 x2 x3) (hg : w.grownBy w' none) : A4 w' b x0 x1 x2 x3 := (hg.block b h.lt (by simp)).trans h
theorem A4.fz {w : World} {b : Nat} {x0 x1 x2 x3 : Int} (h : A4 w b x0 x1 x2 x3) (i : Nat) : w.frozen? ⟨b, i, none⟩ = false := by unfold A4 at h; simp [World.frozen?, h]
theorem A4.c0 {w : World} {b : Nat} {x0 x1 x2 x3 : Int} (h : A4 w b x0 x1 x2 x3) : w.cell? ⟨b, 0, none⟩ = some (.int .i64 x0) := by unfold A4 at h; simp [World.cell?, h]
theorem A4.set0 {w : World} {b : Nat} {x0 x1 x2 x3 : Int} (h : A4 w b x0 x1 x2 x3) (y : Int) : A4 (w.setCell ⟨b, 0, none⟩ (.int .i64 y)) b y x1 x2 x3 := by
  unfold A4 at h ⊢
  simp [World.setCell, Array.getElem?_modify, h]
theorem A4.c1 {w : World} {b : Nat} {x0 x1 x2 x3 : Int} (h : A4 w b x0 x1 x2 x3) : w.cell? ⟨b, 1, none⟩ = some (.int .i64 x1) := by unfold A4 at h; simp [World.cell?, h]
theorem A4.set1 {w : World} {b : Nat} {x0 x1 x2 x3 : Int} (h : A4 w b x0 x1 x2 x3) (y : Int) : A4 (w.setCell ⟨b, 1, none⟩ (.int .i64 y)) b x0 y x2 x3 := by
  unfold A4 at h ⊢
  simp [World.setCell, Array.getElem?_modify, h]
theorem A4.c2 {w : World} {b : Nat} {x0 x1 x2 x3 : Int} (h : A4 w b x0 x1 x2 x3) : w.cell? ⟨b, 2, none⟩ = some (.int .i64 x2) := by unfold A4 at h; simp [World.cell?, h]
theorem A4.set2 {w : World} {b : Nat} {x0 x1 x2 x3 : Int} (h : A4 w b x0 x1 x2 x3) (y : Int) : A4 (w.setCell ⟨b, 2, none⟩ (.int .i64 y)) b x0 x1 y x3 := by
  unfold A4 at h ⊢
  simp [World.setCell, Array.getElem?_modify, h]
theorem A4.c3 {w : World} {b : Nat} {x0 x1 x2 x3 : Int} (h : A4 w b x0 x1 x2 x3) : w.cell? ⟨b, 3, none⟩ = some (.int .i64 x3) := by unfold A4 at h; simp [World.cell?, h]
theorem A4.set3 {w : World} {b : Nat} {x0 x1 x2 x3 : Int} (h : A4 w b x0 x1 x2 x3) (y : Int) : A4 (w.setCell ⟨b, 3, none⟩ (.int .i64 y)) b x0 x1 x2 y := by
  unfold A4 at h ⊢
  simp [World.setCell, Array.getElem?_modify, h]
set_option maxRecDepth 100000 in
set_option maxHeartbeats 4000000 in
theorem days_walk (a0 b0 c0 d0 : Int) (ha0 : i64 a0) (hb0 : i64 b0) (hc0 : i64 c0) (hd0 : i64 d0) (w : World) : Calls Try.prog 3 #[.agg #[.int .i64 a0, .int .i64 b0, .int .i64 c0, .int .i64 d0]] w fun e w' => e = .returned (.bool true) ∧ w.grownBy w' none := by
  have HA : A4 (w.alloc (.cells #[.int .i64 a0, .int .i64 b0, .int .i64 c0, .int .i64 d0] 22)) w.heap.size a0 b0 c0 d0 := World.alloc_heap_new w _
  have HA := Lib.hid HA
  go_enter Try.func3, Try.ntmps3
  go_wp2_with fail
  refine (sane_k _).mono ?_
  rintro e w1 ⟨rfl, g1⟩
  have HA := Lib.hid (HA.out.kept g1)
  have g1 := (World.grownBy_alloc w _ none).trans g1
  have hb : w.heap.size ≤ w.heap.size := Nat.le_refl _
  go_wp2_with fail
  go_loopw [4] (fun i wr => ∃ k : Nat, k ≤ 2 ∧ i = .int .i64 k ∧ ∃ a b c d : Int, i64 a ∧ i64 b ∧ i64 c ∧ i64 d ∧ A4 wr w.heap.size a b c d ∧ w.grownBy wr none) (fun i _ => 2 - (intOf i).toNat)
  case atStart => exact ⟨0, by omega, rfl, a0, b0, c0, d0, ha0, hb0, hc0, hd0, HA.out, g1⟩
  case round =>
    obtain ⟨k, hk, rfl, a, b, c, d, ha, hb', hc, hd, A, g⟩ := hrel
    by_cases hlt : k < 2
    · have q0 := A.c0
      have q1 := A.c1
      have q2 := A.c2
      have q3 := A.c3
      have A := Lib.hid A
      go_wp2_with fail
      go_quiet (fail)
      clear q0 q1 q2 q3
      go_wp2_with fail
      refine (right_k a _).mono ?_
      rintro e w2 ⟨rfl, rfl⟩
      go_wp2_with fail
      refine (right_r a _).mono ?_
      rintro e w2 ⟨rfl, rfl⟩
      go_wp2_with fail
      refine (term_k a ha _).mono ?_
      rintro e w2 ⟨rfl, rfl⟩
      go_wp2_with fail
      refine (term_r a ha _).mono ?_
      rintro e w2 ⟨rfl, rfl⟩
      go_wp2_with fail
      refine (begin_k a _).mono ?_
      rintro e w2 ⟨rfl, rfl⟩
      go_wp2_with fail
      refine (begin_r a _).mono ?_
      rintro e w2 ⟨rfl, rfl⟩
      go_wp2_with fail
      refine (last_k a _).mono ?_
      rintro e w2 ⟨rfl, rfl⟩
      go_wp2_with fail
      refine (last_r a _).mono ?_
      rintro e w2 ⟨rfl, rfl⟩
      go_wp2_with fail
      refine (year_k a ha _).mono ?_
      rintro e w2 ⟨rfl, rfl⟩
      go_wp2_with fail
      refine (year_r a ha _).mono ?_
      rintro e w2 ⟨rfl, rfl⟩
      go_wp2_with fail
      refine (within_k a b c _).mono ?_
      rintro e w2 ⟨rfl, rfl⟩
      go_wp2_with fail
      refine (within_r a b c _).mono ?_
      rintro e w2 ⟨rfl, rfl⟩
      go_wp2_with fail
      refine (meet_k a b c d _).mono ?_
      rintro e w2 ⟨rfl, rfl⟩
      go_wp2_with fail
      refine (meet_r a b c d _).mono ?_
      rintro e w2 ⟨rfl, rfl⟩
      go_wp2_with fail
      have A := Lib.hid (A.out.kept (grown_drewN wr nq none))
      have g := grown_dn (k := nq) g
      generalize wr.drewN nq = wq at *
      go_loopw [80] (fun i wz => ∃ j : Nat, j ≤ 4 ∧ i = .int .i64 j ∧ ∃ y0 y1 y2 y3 : Int, i64 y0 ∧ i64 y1 ∧ i64 y2 ∧ i64 y3 ∧ A4 wz w.heap.size y0 y1 y2 y3 ∧ w.grownBy wz none) (fun i _ => 4 - (intOf i).toNat)
      case atStart => exact ⟨0, by omega, rfl, a, b, c, d, ha, hb', hc, hd, A.out, g⟩
      case round =>
        clear A g
        obtain ⟨j, hj, rfl, y0, y1, y2, y3, hy0, hy1, hy2, hy3, A, gz⟩ := hrel
        by_cases hjt : j < 4
        · have hj4 : j = 0 ∨ j = 1 ∨ j = 2 ∨ j = 3 := by omega
          clear hj hjt
          rcases hj4 with rfl | rfl | rfl | rfl
          · have c := A.c0
            have hf := A.fz 0
            have hl := A.lt
            have A := Lib.hid A
            go_wp2_with fail
            go_roundw
            case rel => exact ⟨0 + 1, by omega, by go_num, (y0.tmod 300), y1, y2, y3, i64_mod hy0, hy1, hy2, hy3, A.out.set0 _, grown_set gz (.inl hb)⟩
            case measure => simp [intOf]
          · have c := A.c1
            have hf := A.fz 1
            have hl := A.lt
            have A := Lib.hid A
            go_wp2_with fail
            go_roundw
            case rel => exact ⟨1 + 1, by omega, by go_num, y0, (y1.tmod 300), y2, y3, hy0, i64_mod hy1, hy2, hy3, A.out.set1 _, grown_set gz (.inl hb)⟩
            case measure => simp [intOf]
          · have c := A.c2
            have hf := A.fz 2
            have hl := A.lt
            have A := Lib.hid A
            go_wp2_with fail
            go_roundw
            case rel => exact ⟨2 + 1, by omega, by go_num, y0, y1, (y2.tmod 300), y3, hy0, hy1, i64_mod hy2, hy3, A.out.set2 _, grown_set gz (.inl hb)⟩
            case measure => simp [intOf]
          · have c := A.c3
            have hf := A.fz 3
            have hl := A.lt
            have A := Lib.hid A
            go_wp2_with fail
            go_roundw
            case rel => exact ⟨3 + 1, by omega, by go_num, y0, y1, y2, (y3.tmod 300), hy0, hy1, hy2, i64_mod hy3, A.out.set3 _, grown_set gz (.inl hb)⟩
            case measure => simp [intOf]
        · go_wp2_with fail
          exact ⟨⟨k + 1, by omega, by go_num, y0, y1, y2, y3, hy0, hy1, hy2, hy3, A, gz⟩, by simp [intOf]; omega⟩
    · go_wp2_with fail
      go_ret
      exact ⟨rfl, g⟩
end Go.Proofs.Ytgfifpbmjkjnpaa
