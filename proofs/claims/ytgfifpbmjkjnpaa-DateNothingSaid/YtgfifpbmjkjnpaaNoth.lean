/-
  The law DateNothing.
-/
import Derived.Test.YtgfifpbmjkjnpaaSane
namespace Go.Proofs.Ytgfifpbmjkjnpaa
open Go.RowKit
set_option maxRecDepth 100000 in
set_option maxHeartbeats 2000000 in
theorem nothing_walk (h : Bool) (o p q r n : Int) (w : World) : Calls Try.prog 9 #[.agg #[.bool h, .int .i64 o, .int .i64 p, .int .i64 q, .int .i64 r], .int .i64 n] w fun e w' => e = .returned (.bool true) ∧ w.grownBy w' none := by
  go_enter Try.func9, Try.ntmps9
  go_wp2_with fail
  have G0 := World.grownBy_alloc w (.cells #[.bool h, .int .i64 o, .int .i64 p, .int .i64 q, .int .i64 r] 41) none
  have OP : Hid (∀ i v, #[Value.bool h, .int .i64 o, .int .i64 p, .int .i64 q, .int .i64 r][i]? = some v → (w.alloc (.cells #[.bool h, .int .i64 o, .int .i64 p, .int .i64 q, .int .i64 r] 41)).cell? ⟨w.heap.size, i, none⟩ = some v) := Lib.hid (fun i v hv => (cell_at rfl).trans hv)
  refine (sane_k _).mono ?_
  rintro e w1 ⟨rfl, g1⟩
  have OP := Lib.hid (fun i v hv => gcell g1 (OP.out i v hv))
  have G1 := G0.trans g1
  go_wp2_with fail
  have gA := (World.grownBy_alloc w1 (.cells #[.int .i64 0, .int .i64 0, .int .i64 0, .int .i64 0] 57) none)
  have CK : Ck 57 (w1.alloc (.cells #[.int .i64 0, .int .i64 0, .int .i64 0, .int .i64 0] 57)) w1.heap.size 0 0 0 0 := World.alloc_heap_new w1 _
  have hz : (w1.alloc (.cells #[.int .i64 0, .int .i64 0, .int .i64 0, .int .i64 0] 57)).heap.size = w1.heap.size + 1 := by simp
  have gB := (World.grownBy_alloc (w1.alloc (.cells #[.int .i64 0, .int .i64 0, .int .i64 0, .int .i64 0] 57)) (.cells #[.pointer none, .pointer (some ⟨w1.heap.size, 0, none⟩)] 34) none)
  have CK := Lib.hid (CK.kept gB)
  have OP := Lib.hid (fun i v hv => gcell (gA.trans gB) (OP.out i v hv))
  have SL : Hid (∀ i v, #[Value.pointer none, Value.pointer (some ⟨w1.heap.size, 0, none⟩)][i]? = some v → ((w1.alloc (.cells #[.int .i64 0, .int .i64 0, .int .i64 0, .int .i64 0] 57)).alloc (.cells #[.pointer none, .pointer (some ⟨w1.heap.size, 0, none⟩)] 34)).cell? ⟨w1.heap.size + 1, i, none⟩ = some v) := Lib.hid (fun i v hv => (cell_at hz.symm).trans hv)
  have GG := (G1.trans gA).trans gB
  clear gA gB G1 g1 G0 hz
  generalize ((w1.alloc (.cells #[.int .i64 0, .int .i64 0, .int .i64 0, .int .i64 0] 57)).alloc (.cells #[.pointer none, .pointer (some ⟨w1.heap.size, 0, none⟩)] 34)) = wb at *
  go_loopw [15] (fun i wr => ∃ k : Nat, k ≤ 2 ∧ i = .int .i64 k ∧ wb.grownBy wr none) (fun i _ => 2 - (intOf i).toNat)
  case atStart => exact ⟨0, by omega, rfl, World.grownBy.refl _ _⟩
  case round =>
    obtain ⟨k, hk, rfl, g⟩ := hrel
    by_cases hlt : k < 2
    · have hk2 : k = 0 ∨ k = 1 := by omega
      clear hlt hk
      rcases hk2 with rfl | rfl
      · have c1 := gcell g (OP.out 1 _ rfl)
        have c2 := gcell g (OP.out 2 _ rfl)
        have c3 := gcell g (OP.out 3 _ rfl)
        have c4 := gcell g (OP.out 4 _ rfl)
        have s0 := gcell g (SL.out 0 _ rfl)
        have CZ := CK.out.kept g
        go_wp2_with fail
        refine (now_nil o _).mono ?_
        rintro e w2 ⟨rfl, g2⟩
        have A1 := S3.new w2 0 0 0
        have ga := World.grownBy_alloc w2 (.cells #[.int .i64 0, .int .i64 0, .int .i64 0] 39) none
        have g3 := g2.trans ga
        have c1 := gcell g3 c1
        have c2 := gcell g3 c2
        have c3 := gcell g3 c3
        have c4 := gcell g3 c4
        have CZ := CZ.kept g3
        have a0 := A1.c0
        have a1 := A1.c1
        have a2 := A1.c2
        clear A1 ga g2 s0
        go_wp2_with fail
        refine (hear_nil p q r o _).mono ?_
        rintro e w3 ⟨rfl, g4⟩
        have g5 := (g.trans g3).trans g4
        clear c1 c2 c3 c4 a0 a1 a2 CZ g g3 g4
        go_wp2_with fail
        go_roundw
        case rel => exact ⟨0 + 1, by omega, by go_num, g5⟩
        case measure => simp [intOf]
      · have c1 := gcell g (OP.out 1 _ rfl)
        have c2 := gcell g (OP.out 2 _ rfl)
        have c3 := gcell g (OP.out 3 _ rfl)
        have c4 := gcell g (OP.out 4 _ rfl)
        have s0 := gcell g (SL.out 1 _ rfl)
        have CZ := CK.out.kept g
        go_wp2_with fail
        refine (now_zero w1.heap.size 0 o _ CZ).mono ?_
        rintro e w2 ⟨rfl, g2⟩
        have A1 := S3.new w2 0 0 0
        have ga := World.grownBy_alloc w2 (.cells #[.int .i64 0, .int .i64 0, .int .i64 0] 39) none
        have g3 := g2.trans ga
        have c1 := gcell g3 c1
        have c2 := gcell g3 c2
        have c3 := gcell g3 c3
        have c4 := gcell g3 c4
        have CZ := CZ.kept g3
        have a0 := A1.c0
        have a1 := A1.c1
        have a2 := A1.c2
        clear A1 ga g2 s0
        go_wp2_with fail
        refine (hear_zero w1.heap.size 0 p q r o _ CZ).mono ?_
        rintro e w3 ⟨rfl, g4⟩
        have g5 := (g.trans g3).trans g4
        clear c1 c2 c3 c4 a0 a1 a2 CZ g g3 g4
        go_wp2_with fail
        go_roundw
        case rel => exact ⟨1 + 1, by omega, by go_num, g5⟩
        case measure => simp [intOf]
    · have : k = 2 := by omega
      subst this
      clear hk hlt
      have gE := GG.trans g
      clear g GG
      by_cases hs : serverB n = true
      · have hn : 1 ≤ n ∧ n ≤ 8 := by simpa [serverB] using hs
        obtain ⟨hn1, hn2⟩ := hn
        have NK := Lib.hid (new_k n hs)
        clear hs
        go_wp2_with fail
        refine (NK.out wr).mono ?_
        rintro e w2 ⟨rfl, rfl⟩
        go_wp2_with fail
        go_ret
        exact ⟨rfl, gE.trans (World.grownBy_alloc _ _ none)⟩
      · have NK := Lib.hid (new_no n (by simpa using hs))
        have hn : ¬ (1 ≤ n ∧ n ≤ 8) := by simpa [serverB] using hs
        clear hs
        by_cases hn1 : 1 ≤ n
        · have hn2 : 8 < n := by omega
          clear hn
          go_wp2_with fail
          refine (NK.out wr).mono ?_
          rintro e w2 ⟨rfl, rfl⟩
          go_wp2_with fail
          go_ret
          exact ⟨ret_bool (by simp; omega), gE⟩
        · clear hn
          go_wp2_with fail
          refine (NK.out wr).mono ?_
          rintro e w2 ⟨rfl, rfl⟩
          go_wp2_with fail
          go_ret
          exact ⟨rfl, gE⟩
end Go.Proofs.Ytgfifpbmjkjnpaa
