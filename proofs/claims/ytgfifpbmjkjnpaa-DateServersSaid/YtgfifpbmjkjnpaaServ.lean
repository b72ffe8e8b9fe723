/-
  The law DateServers.
-/
import Derived.Test.YtgfifpbmjkjnpaaServMath
import Derived.Test.YtgfifpbmjkjnpaaSeen
import Derived.Test.YtgfifpbmjkjnpaaSteps
import Derived.Test.YtgfifpbmjkjnpaaPair
import Derived.Carry
namespace Go.Proofs.Ytgfifpbmjkjnpaa
open Go.RowKit
/-- two clocks, and the map of what they gave, after k rounds -/
def R2 (mb : Nat) (w : World) (k : Nat) (bo : Nat) (so : Int) (bq : Nat) (sq : Int) : Prop :=
  ∃ (d c s x y z : Int) (L : List (Int × Int × Int)) (m : Nat), Ck 57 w bo so d c s ∧ Ck 57 w bq sq x y z ∧ Seen w mb m L ∧ m ≤ 2 * k ∧ Inv so d c s sq x y z L k
set_option maxRecDepth 100000 in
set_option maxHeartbeats 8000000 in
theorem servers_walk (A : Option Addr) (n c0 : Nat) (l : List StepT) (w : World) (HL : Steps w A n c0 l) : Calls Try.prog 8 #[.slice A n c0] w fun e w' => e = .returned (.bool true) ∧ w.grownBy w' none := by
  have hn : n ≤ 9223372036854775807 := Nat.le_trans HL.le HL.cap
  have hmm : ∀ w, (Instr.makeMap 52 none).run Try.prog w = .ok (.map (some w.heap.size)) (w.alloc (.map #[] 0)) := fun _ => by kernel_rfl
  have HL := Lib.hid HL
  go_enter Try.func8, Try.ntmps8
  go_wp2_with fail
  refine (sane_k _).mono ?_
  rintro e w1 ⟨rfl, g1⟩
  go_wp2_with fail
  refine (new_k 1 rfl _).mono ?_
  rintro e w2 ⟨rfl, rfl⟩
  go_wp2_with fail
  refine (new_k 2 rfl _).mono ?_
  rintro e w2 ⟨rfl, rfl⟩
  go_wp2_with fail
  have k1 := Ck.new w1 1
  have n1 := World.grownBy_alloc w1 (.cells #[.int .i64 1, .int .i64 0, .int .i64 (-1), .int .i64 0] 57) none
  have z1 : (w1.alloc (.cells #[.int .i64 1, .int .i64 0, .int .i64 (-1), .int .i64 0] 57)).heap.size = w1.heap.size + 1 := by simp
  generalize w1.alloc (.cells #[.int .i64 1, .int .i64 0, .int .i64 (-1), .int .i64 0] 57) = u1 at *
  have k2 := Ck.new u1 2
  have n2 := World.grownBy_alloc u1 (.cells #[.int .i64 2, .int .i64 0, .int .i64 (-1), .int .i64 0] 57) none
  have z2 : (u1.alloc (.cells #[.int .i64 2, .int .i64 0, .int .i64 (-1), .int .i64 0] 57)).heap.size = u1.heap.size + 1 := by simp
  generalize u1.alloc (.cells #[.int .i64 2, .int .i64 0, .int .i64 (-1), .int .i64 0] 57) = u2 at *
  have k3 := World.alloc_heap_new u2 (.cells #[.pointer (some ⟨w1.heap.size, 0, none⟩), .pointer (some ⟨w1.heap.size + 1, 0, none⟩)] 51)
  have n3 := World.grownBy_alloc u2 (.cells #[.pointer (some ⟨w1.heap.size, 0, none⟩), .pointer (some ⟨w1.heap.size + 1, 0, none⟩)] 51) none
  have z3 : (u2.alloc (.cells #[.pointer (some ⟨w1.heap.size, 0, none⟩), .pointer (some ⟨w1.heap.size + 1, 0, none⟩)] 51)).heap.size = u2.heap.size + 1 := by simp
  generalize u2.alloc (.cells #[.pointer (some ⟨w1.heap.size, 0, none⟩), .pointer (some ⟨w1.heap.size + 1, 0, none⟩)] 51) = u3 at *
  have k4 := Seen.made u3
  have n4 := World.grownBy_alloc u3 (.map #[] 0) none
  generalize u3.alloc (.map #[] 0) = u4 at *
  have C := ((k1.kept n2).kept n3).kept n4
  have D := (k2.kept n3).kept n4
  have AR := (n4.block _ (lt_of_heap k3) (by simp)).trans k3
  have G := ((((g1.trans n1).trans n2).trans n3).trans n4)
  have hsz := g1.size
  rw [z3, z2, z1] at k4
  rw [z2, z1] at AR
  rw [z1] at D
  clear k1 k2 k3 n1 n2 n3 n4 z1 z2 z3 g1 hmm
  have e0 : w.heap.size ≤ w1.heap.size := hsz
  obtain ⟨b1, hb1⟩ : ∃ b, w1.heap.size = b := ⟨_, rfl⟩
  obtain ⟨b2, hb2⟩ : ∃ b, w1.heap.size + 1 = b := ⟨_, rfl⟩
  obtain ⟨ab, hb3⟩ : ∃ b, w1.heap.size + 1 + 1 = b := ⟨_, rfl⟩
  obtain ⟨mb, hb4⟩ : ∃ b, w1.heap.size + 1 + 1 + 1 = b := ⟨_, rfl⟩
  rw [hb4] at k4
  rw [hb3, hb2, hb1] at AR
  rw [hb2] at D
  rw [hb1] at C
  rw [hb4, hb3, hb2, hb1]
  have f1 : b1 < b2 := by omega
  have f2 : b2 < ab := by omega
  have f3 : ab < mb := by omega
  have f4 : w.heap.size ≤ b1 := by omega
  clear hb1 hb2 hb3 hb4 hsz e0
  go_loopw [6] (fun i wr => ∃ k : Nat, i = .int .i64 k ∧ k ≤ n ∧ k ≤ 30 ∧ R2 mb wr k b1 1 b2 2 ∧ wr.heap[ab]? = some (.cells #[.pointer (some ⟨b1, 0, none⟩), .pointer (some ⟨b2, 0, none⟩)] 51 (0, 0)) ∧ w.grownBy wr none) (fun i _ => 30 - (intOf i).toNat)
  case atStart => exact ⟨0, rfl, by omega, by omega, ⟨0, -1, 0, 0, -1, 0, [], 0, C, D, k4, by omega, ⟨by decide, by decide, by decide, by decide, by decide, by decide, by decide, by decide, by decide, by decide, by decide, by decide, by decide, by decide, by decide, fun _ _ _ h => by cases h⟩⟩, AR, G⟩
  case round =>
    clear C D k4 AR G
    obtain ⟨k, rfl, hk, hk30, R, AR, gr⟩ := hrel
    by_cases hlt : k < n ∧ k < 30
    · obtain ⟨hkn, hk3⟩ := hlt
      obtain ⟨ad, a, dd, t, rfl, hab, ⟨hd1, hd2⟩, x0, x1, x2⟩ := step_at HL.out k hkn
      have r1 : (0 : Int) ≤ (k : Int) := by omega
      have r2 : (k : Int) < (n : Int) := by omega
      have r3 : (k : Int) < 30 := by omega
      cases a
      · obtain ⟨d, c, s, x, y, z, L, m, C, D, SE, hm, I⟩ := R
        cases t
        · have x0 := gcell gr x0
          have x1 := gcell gr x1
          have dd1 : 0 ≤ dd % 20 := by omega
          have dd2 : dd % 20 ≤ 19 := by omega
          obtain ⟨p, q, hN, hl, p1, p2, q1, q2⟩ := now_give (a := 1) (k := k) I.c1 I.c2 (by omega) I.d1 I.d2 dd1 dd2
          obtain ⟨hnm, I2⟩ := I.give hl p1 p2 q1 q2
          have NK := Lib.hid (fun w h => now_k b1 1 d c s (dd % 20) _ _ _ _ _ _ _ w h I.c1 I.z1 hN)
          have I1 := Lib.hid I2
          have cc1 := I.c1
          have cc2 := I.c2
          clear hN hl
          have q0 : wr.cell? ⟨ab, 0, none⟩ = some (.pointer (some ⟨b1, 0, none⟩)) := by simp [World.cell?, AR]
          have q9 : wr.cell? ⟨ab, 1, none⟩ = some (.pointer (some ⟨b2, 0, none⟩)) := by simp [World.cell?, AR]
          have AR := Lib.hid AR
          go_wp2_with fail
          go_quiet (fail)
          go_wp2_with fail
          have gd := fun (i : Nat) => grown_drewN wr i none
          refine (NK.out _ (C.kept (gd _))).mono ?_
          rintro e w2 ⟨rfl, C2, g2⟩
          have g := ((gd _).but _).trans g2
          have D2 := D.grown g (by simp; omega)
          have SE2 := SE.grown g (by simp; omega)
          have AR2 := (g.block _ (lt_of_heap AR.out) (by simp; omega)).trans AR.out
          have G2 := gr.andThen g (by rintro j ⟨⟩; exact .inl (by omega))
          have hb2 := C2.lt
          have hm2 := SE2.lt
          have T := S3.new w2 p q 1
          have gn := World.grownBy_alloc w2 (.cells #[.int .i64 p, .int .i64 q, .int .i64 1] 39) none
          have C3 := C2.kept gn
          have D3 := D2.kept gn
          have SE3 := SE2.grown gn (by simp)
          have AR3 := (gn.block _ (lt_of_heap AR2) (by simp)).trans AR2
          have G3 := G2.trans gn
          have hlook := SE3.lookup (d := p) (c := q) (s := 1) ⟨by omega, by omega⟩ ⟨by omega, by omega⟩ ⟨by omega, by omega⟩
          rw [decide_eq_false hnm] at hlook
          obtain ⟨w4, hup, SE4, g4⟩ := SE3.update (by unfold maxLen; omega) (d := p) (c := q) (s := 1) ⟨by omega, by omega⟩ ⟨by omega, by omega⟩ ⟨by omega, by omega⟩
          have C4 := Lib.hid (C3.grown g4 (by simp; omega))
          have D4 := Lib.hid (D3.grown g4 (by simp; omega))
          have T := T.keptR g4 (by simp; omega)
          have AR4 := Lib.hid ((g4.block _ (lt_of_heap AR3) (by simp; omega)).trans AR3)
          have G4 := G3.andThen g4 (by rintro j ⟨⟩; exact .inl (by omega))
          have SE4 := Lib.hid SE4
          have x2 := gcell G4 x2
          clear C2 D2 SE2 AR2 G2 C3 D3 SE3 AR3 G3 g gn g2 g4 gd q0 q9 x0 x1 hnm C D SE gr
          go_wp2_with fail
          go_roundw
          case rel => first | exact ⟨k + 1, by go_num, by omega, by omega, ⟨_, _, _, _, _, _, _, _, C4.out, D4.out, SE4.out, by omega, I1.out⟩, AR4.out, G4⟩ | exact ⟨k + 1, by go_num, by omega, by omega, ⟨_, _, _, _, _, _, _, _, D4.out, C4.out, SE4.out, by omega, I1.out.symm⟩, AR4.out, G4⟩
          case measure => simp [intOf]; omega
        · have x0 := gcell gr x0
          have x1 := gcell gr x1
          have dd1 : 0 ≤ dd % 20 := by omega
          have dd2 : dd % 20 ≤ 19 := by omega
          obtain ⟨p, q, hN, hl, p1, p2, q1, q2⟩ := now_give (a := 1) (k := k) I.c1 I.c2 (by omega) I.d1 I.d2 dd1 dd2
          obtain ⟨hnm, I2⟩ := I.give hl p1 p2 q1 q2
          have NK := Lib.hid (fun w h => now_k b1 1 d c s (dd % 20) _ _ _ _ _ _ _ w h I.c1 I.z1 hN)
          have I1 := Lib.hid I2
          have cc1 := I.c1
          have cc2 := I.c2
          clear hN hl
          have q0 : wr.cell? ⟨ab, 0, none⟩ = some (.pointer (some ⟨b1, 0, none⟩)) := by simp [World.cell?, AR]
          have q9 : wr.cell? ⟨ab, 1, none⟩ = some (.pointer (some ⟨b2, 0, none⟩)) := by simp [World.cell?, AR]
          have AR := Lib.hid AR
          go_wp2_with fail
          go_quiet (fail)
          go_wp2_with fail
          have gd := fun (i : Nat) => grown_drewN wr i none
          refine (NK.out _ (C.kept (gd _))).mono ?_
          rintro e w2 ⟨rfl, C2, g2⟩
          have g := ((gd _).but _).trans g2
          have D2 := D.grown g (by simp; omega)
          have SE2 := SE.grown g (by simp; omega)
          have AR2 := (g.block _ (lt_of_heap AR.out) (by simp; omega)).trans AR.out
          have G2 := gr.andThen g (by rintro j ⟨⟩; exact .inl (by omega))
          have hb2 := C2.lt
          have hm2 := SE2.lt
          have T := S3.new w2 p q 1
          have gn := World.grownBy_alloc w2 (.cells #[.int .i64 p, .int .i64 q, .int .i64 1] 39) none
          have C3 := C2.kept gn
          have D3 := D2.kept gn
          have SE3 := SE2.grown gn (by simp)
          have AR3 := (gn.block _ (lt_of_heap AR2) (by simp)).trans AR2
          have G3 := G2.trans gn
          have hlook := SE3.lookup (d := p) (c := q) (s := 1) ⟨by omega, by omega⟩ ⟨by omega, by omega⟩ ⟨by omega, by omega⟩
          rw [decide_eq_false hnm] at hlook
          obtain ⟨w4, hup, SE4, g4⟩ := SE3.update (by unfold maxLen; omega) (d := p) (c := q) (s := 1) ⟨by omega, by omega⟩ ⟨by omega, by omega⟩ ⟨by omega, by omega⟩
          have C4 := Lib.hid (C3.grown g4 (by simp; omega))
          have D4 := Lib.hid (D3.grown g4 (by simp; omega))
          have T := T.keptR g4 (by simp; omega)
          have AR4 := Lib.hid ((g4.block _ (lt_of_heap AR3) (by simp; omega)).trans AR3)
          have G4 := G3.andThen g4 (by rintro j ⟨⟩; exact .inl (by omega))
          have SE4 := Lib.hid SE4
          have x2 := gcell G4 x2
          clear C2 D2 SE2 AR2 G2 C3 D3 SE3 AR3 G3 g gn g2 g4 gd q0 q9 x0 x1 hnm C D SE gr
          by_cases hmx : p - 5 ≤ dd % 20
          · have y0 := T.c0
            have y1 := T.c1
            have y2 := T.c2
            obtain ⟨x', y', z', hH, hz', hy', hN2, hL2, hnm2, I3, m1, m2, m3, m4⟩ := I2.hear q1 q2 I.y2 (by omega) (dd % 20) (by omega) (by omega) (by omega)
            have HK := Lib.hid (fun w h => hear_k b2 2 x y z p q 1 (dd % 20) _ _ _ _ w h I.z2 hH)
            have NK2 := Lib.hid (fun w h => now_k b2 2 x' y' z' 0 _ _ _ _ _ _ _ w h hy' hz' hN2)
            have L1 := Lib.hid (less_k p q 1 x' (y' + 1) 2)
            rw [hL2] at L1
            have I3 := Lib.hid I3
            clear hH hN2 hL2 hz' I2
            go_wp2_with fail
            refine (HK.out _ D4.out).mono ?_
            rintro e w5 ⟨rfl, D5, g5⟩
            have C5 := C4.out.grown g5 (by simp; omega)
            have T5 := T.keptR g5 (by simp; omega)
            have SE5 := SE4.out.grown g5 (by simp; omega)
            have AR5 := (g5.block _ (lt_of_heap AR4.out) (by simp; omega)).trans AR4.out
            have G5 := G4.andThen g5 (by rintro j ⟨⟩; exact .inl (by omega))
            have hb5 := D5.lt
            clear g5 y0 y1 y2
            go_wp2_with fail
            refine (NK2.out _ D5).mono ?_
            rintro e w6 ⟨rfl, D6, g6⟩
            have C6 := C5.grown g6 (by simp; omega)
            have T6 := T5.keptR g6 (by simp; omega)
            have SE6 := SE5.grown g6 (by simp; omega)
            have AR6 := (g6.block _ (lt_of_heap AR5) (by simp; omega)).trans AR5
            have G6 := G5.andThen g6 (by rintro j ⟨⟩; exact .inl (by omega))
            have U := S3.new w6 x' (y' + 1) 2
            have gn := World.grownBy_alloc w6 (.cells #[.int .i64 x', .int .i64 (y' + 1), .int .i64 2] 39) none
            have C6 := C6.kept gn
            have D6 := D6.kept gn
            have T6 := T6.kept gn
            have SE6 := SE6.grown gn (by simp)
            have AR6 := (gn.block _ (lt_of_heap AR6) (by simp)).trans AR6
            have G6 := G6.trans gn
            have y0 := T6.c0
            have y1 := T6.c1
            have y2 := T6.c2
            clear g6 gn C5 D5 T5 SE5 AR5 G5
            go_wp2_with fail
            refine (L1.out _).mono ?_
            rintro e w7 ⟨rfl, g7⟩
            have C7 := C6.kept g7
            have D7 := D6.kept g7
            have U7 := U.kept g7
            have SE7 := SE6.grown g7 (by simp)
            have AR7 := Lib.hid ((g7.block _ (lt_of_heap AR6) (by simp)).trans AR6)
            have G7 := G6.trans g7
            have hlook := SE7.lookup (d := x') (c := y' + 1) (s := 2) ⟨by omega, by omega⟩ ⟨by omega, by omega⟩ ⟨by omega, by omega⟩
            rw [decide_eq_false hnm2] at hlook
            obtain ⟨w8, hup, SE8, g8⟩ := SE7.update (by unfold maxLen; omega) (d := x') (c := y' + 1) (s := 2) ⟨by omega, by omega⟩ ⟨by omega, by omega⟩ ⟨by omega, by omega⟩
            have C8 := Lib.hid (C7.grown g8 (by simp; omega))
            have D8 := Lib.hid (D7.grown g8 (by simp; omega))
            have AR8 := Lib.hid ((g8.block _ (lt_of_heap AR7.out) (by simp; omega)).trans AR7.out)
            have G8 := G7.andThen g8 (by rintro j ⟨⟩; exact .inl (by omega))
            have SE8 := Lib.hid SE8
            have u0 := U7.c0
            have u1 := U7.c1
            have u2 := U7.c2
            clear C6 D6 T6 SE6 AR6 G6 g7 C7 D7 U7 SE7 G7 g8 y0 y1 y2 hnm2 U
            go_wp2_with fail
            go_roundw
            case rel => first | exact ⟨k + 1, by go_num, by omega, by omega, ⟨_, _, _, _, _, _, _, _, C8.out, D8.out, SE8.out, by omega, I3.out⟩, AR8.out, G8⟩ | exact ⟨k + 1, by go_num, by omega, by omega, ⟨_, _, _, _, _, _, _, _, D8.out, C8.out, SE8.out, by omega, I3.out.symm⟩, AR8.out, G8⟩
            case measure => simp [intOf]; omega
          · have y0 := T.c0
            have y1 := T.c1
            have y2 := T.c2
            obtain ⟨x', y', z', hH, hz', hy', hN2, hL2, hnm2, I3, m1, m2, m3, m4⟩ := I2.hear q1 q2 I.y2 (by omega) (p - 5) (by omega) (by omega) (by omega)
            have HK := Lib.hid (fun w h => hear_k b2 2 x y z p q 1 (p - 5) _ _ _ _ w h I.z2 hH)
            have NK2 := Lib.hid (fun w h => now_k b2 2 x' y' z' 0 _ _ _ _ _ _ _ w h hy' hz' hN2)
            have L1 := Lib.hid (less_k p q 1 x' (y' + 1) 2)
            rw [hL2] at L1
            have I3 := Lib.hid I3
            clear hH hN2 hL2 hz' I2
            go_wp2_with fail
            refine (HK.out _ D4.out).mono ?_
            rintro e w5 ⟨rfl, D5, g5⟩
            have C5 := C4.out.grown g5 (by simp; omega)
            have T5 := T.keptR g5 (by simp; omega)
            have SE5 := SE4.out.grown g5 (by simp; omega)
            have AR5 := (g5.block _ (lt_of_heap AR4.out) (by simp; omega)).trans AR4.out
            have G5 := G4.andThen g5 (by rintro j ⟨⟩; exact .inl (by omega))
            have hb5 := D5.lt
            clear g5 y0 y1 y2
            go_wp2_with fail
            refine (NK2.out _ D5).mono ?_
            rintro e w6 ⟨rfl, D6, g6⟩
            have C6 := C5.grown g6 (by simp; omega)
            have T6 := T5.keptR g6 (by simp; omega)
            have SE6 := SE5.grown g6 (by simp; omega)
            have AR6 := (g6.block _ (lt_of_heap AR5) (by simp; omega)).trans AR5
            have G6 := G5.andThen g6 (by rintro j ⟨⟩; exact .inl (by omega))
            have U := S3.new w6 x' (y' + 1) 2
            have gn := World.grownBy_alloc w6 (.cells #[.int .i64 x', .int .i64 (y' + 1), .int .i64 2] 39) none
            have C6 := C6.kept gn
            have D6 := D6.kept gn
            have T6 := T6.kept gn
            have SE6 := SE6.grown gn (by simp)
            have AR6 := (gn.block _ (lt_of_heap AR6) (by simp)).trans AR6
            have G6 := G6.trans gn
            have y0 := T6.c0
            have y1 := T6.c1
            have y2 := T6.c2
            clear g6 gn C5 D5 T5 SE5 AR5 G5
            go_wp2_with fail
            refine (L1.out _).mono ?_
            rintro e w7 ⟨rfl, g7⟩
            have C7 := C6.kept g7
            have D7 := D6.kept g7
            have U7 := U.kept g7
            have SE7 := SE6.grown g7 (by simp)
            have AR7 := Lib.hid ((g7.block _ (lt_of_heap AR6) (by simp)).trans AR6)
            have G7 := G6.trans g7
            have hlook := SE7.lookup (d := x') (c := y' + 1) (s := 2) ⟨by omega, by omega⟩ ⟨by omega, by omega⟩ ⟨by omega, by omega⟩
            rw [decide_eq_false hnm2] at hlook
            obtain ⟨w8, hup, SE8, g8⟩ := SE7.update (by unfold maxLen; omega) (d := x') (c := y' + 1) (s := 2) ⟨by omega, by omega⟩ ⟨by omega, by omega⟩ ⟨by omega, by omega⟩
            have C8 := Lib.hid (C7.grown g8 (by simp; omega))
            have D8 := Lib.hid (D7.grown g8 (by simp; omega))
            have AR8 := Lib.hid ((g8.block _ (lt_of_heap AR7.out) (by simp; omega)).trans AR7.out)
            have G8 := G7.andThen g8 (by rintro j ⟨⟩; exact .inl (by omega))
            have SE8 := Lib.hid SE8
            have u0 := U7.c0
            have u1 := U7.c1
            have u2 := U7.c2
            clear C6 D6 T6 SE6 AR6 G6 g7 C7 D7 U7 SE7 G7 g8 y0 y1 y2 hnm2 U
            go_wp2_with fail
            go_roundw
            case rel => first | exact ⟨k + 1, by go_num, by omega, by omega, ⟨_, _, _, _, _, _, _, _, C8.out, D8.out, SE8.out, by omega, I3.out⟩, AR8.out, G8⟩ | exact ⟨k + 1, by go_num, by omega, by omega, ⟨_, _, _, _, _, _, _, _, D8.out, C8.out, SE8.out, by omega, I3.out.symm⟩, AR8.out, G8⟩
            case measure => simp [intOf]; omega
      · obtain ⟨x, y, z, d, c, s, L, m, D, C, SE, hm, I⟩ := R
        have I := I.symm
        cases t
        · have x0 := gcell gr x0
          have x1 := gcell gr x1
          have dd1 : 0 ≤ dd % 20 := by omega
          have dd2 : dd % 20 ≤ 19 := by omega
          obtain ⟨p, q, hN, hl, p1, p2, q1, q2⟩ := now_give (a := 2) (k := k) I.c1 I.c2 (by omega) I.d1 I.d2 dd1 dd2
          obtain ⟨hnm, I2⟩ := I.give hl p1 p2 q1 q2
          have NK := Lib.hid (fun w h => now_k b2 2 d c s (dd % 20) _ _ _ _ _ _ _ w h I.c1 I.z1 hN)
          have I1 := Lib.hid I2
          have cc1 := I.c1
          have cc2 := I.c2
          clear hN hl
          have q0 : wr.cell? ⟨ab, 0, none⟩ = some (.pointer (some ⟨b1, 0, none⟩)) := by simp [World.cell?, AR]
          have q9 : wr.cell? ⟨ab, 1, none⟩ = some (.pointer (some ⟨b2, 0, none⟩)) := by simp [World.cell?, AR]
          have AR := Lib.hid AR
          go_wp2_with fail
          go_quiet (fail)
          go_wp2_with fail
          go_quiet (fail)
          go_wp2_with fail
          have gd := fun (i : Nat) => grown_drewN wr i none
          refine (NK.out _ (C.kept (gd _))).mono ?_
          rintro e w2 ⟨rfl, C2, g2⟩
          have g := ((gd _).but _).trans g2
          have D2 := D.grown g (by simp; omega)
          have SE2 := SE.grown g (by simp; omega)
          have AR2 := (g.block _ (lt_of_heap AR.out) (by simp; omega)).trans AR.out
          have G2 := gr.andThen g (by rintro j ⟨⟩; exact .inl (by omega))
          have hb2 := C2.lt
          have hm2 := SE2.lt
          have T := S3.new w2 p q 2
          have gn := World.grownBy_alloc w2 (.cells #[.int .i64 p, .int .i64 q, .int .i64 2] 39) none
          have C3 := C2.kept gn
          have D3 := D2.kept gn
          have SE3 := SE2.grown gn (by simp)
          have AR3 := (gn.block _ (lt_of_heap AR2) (by simp)).trans AR2
          have G3 := G2.trans gn
          have hlook := SE3.lookup (d := p) (c := q) (s := 2) ⟨by omega, by omega⟩ ⟨by omega, by omega⟩ ⟨by omega, by omega⟩
          rw [decide_eq_false hnm] at hlook
          obtain ⟨w4, hup, SE4, g4⟩ := SE3.update (by unfold maxLen; omega) (d := p) (c := q) (s := 2) ⟨by omega, by omega⟩ ⟨by omega, by omega⟩ ⟨by omega, by omega⟩
          have C4 := Lib.hid (C3.grown g4 (by simp; omega))
          have D4 := Lib.hid (D3.grown g4 (by simp; omega))
          have T := T.keptR g4 (by simp; omega)
          have AR4 := Lib.hid ((g4.block _ (lt_of_heap AR3) (by simp; omega)).trans AR3)
          have G4 := G3.andThen g4 (by rintro j ⟨⟩; exact .inl (by omega))
          have SE4 := Lib.hid SE4
          have x2 := gcell G4 x2
          clear C2 D2 SE2 AR2 G2 C3 D3 SE3 AR3 G3 g gn g2 g4 gd q0 q9 x0 x1 hnm C D SE gr
          go_wp2_with fail
          go_roundw
          case rel => first | exact ⟨k + 1, by go_num, by omega, by omega, ⟨_, _, _, _, _, _, _, _, C4.out, D4.out, SE4.out, by omega, I1.out⟩, AR4.out, G4⟩ | exact ⟨k + 1, by go_num, by omega, by omega, ⟨_, _, _, _, _, _, _, _, D4.out, C4.out, SE4.out, by omega, I1.out.symm⟩, AR4.out, G4⟩
          case measure => simp [intOf]; omega
        · have x0 := gcell gr x0
          have x1 := gcell gr x1
          have dd1 : 0 ≤ dd % 20 := by omega
          have dd2 : dd % 20 ≤ 19 := by omega
          obtain ⟨p, q, hN, hl, p1, p2, q1, q2⟩ := now_give (a := 2) (k := k) I.c1 I.c2 (by omega) I.d1 I.d2 dd1 dd2
          obtain ⟨hnm, I2⟩ := I.give hl p1 p2 q1 q2
          have NK := Lib.hid (fun w h => now_k b2 2 d c s (dd % 20) _ _ _ _ _ _ _ w h I.c1 I.z1 hN)
          have I1 := Lib.hid I2
          have cc1 := I.c1
          have cc2 := I.c2
          clear hN hl
          have q0 : wr.cell? ⟨ab, 0, none⟩ = some (.pointer (some ⟨b1, 0, none⟩)) := by simp [World.cell?, AR]
          have q9 : wr.cell? ⟨ab, 1, none⟩ = some (.pointer (some ⟨b2, 0, none⟩)) := by simp [World.cell?, AR]
          have AR := Lib.hid AR
          go_wp2_with fail
          go_quiet (fail)
          go_wp2_with fail
          go_quiet (fail)
          go_wp2_with fail
          have gd := fun (i : Nat) => grown_drewN wr i none
          refine (NK.out _ (C.kept (gd _))).mono ?_
          rintro e w2 ⟨rfl, C2, g2⟩
          have g := ((gd _).but _).trans g2
          have D2 := D.grown g (by simp; omega)
          have SE2 := SE.grown g (by simp; omega)
          have AR2 := (g.block _ (lt_of_heap AR.out) (by simp; omega)).trans AR.out
          have G2 := gr.andThen g (by rintro j ⟨⟩; exact .inl (by omega))
          have hb2 := C2.lt
          have hm2 := SE2.lt
          have T := S3.new w2 p q 2
          have gn := World.grownBy_alloc w2 (.cells #[.int .i64 p, .int .i64 q, .int .i64 2] 39) none
          have C3 := C2.kept gn
          have D3 := D2.kept gn
          have SE3 := SE2.grown gn (by simp)
          have AR3 := (gn.block _ (lt_of_heap AR2) (by simp)).trans AR2
          have G3 := G2.trans gn
          have hlook := SE3.lookup (d := p) (c := q) (s := 2) ⟨by omega, by omega⟩ ⟨by omega, by omega⟩ ⟨by omega, by omega⟩
          rw [decide_eq_false hnm] at hlook
          obtain ⟨w4, hup, SE4, g4⟩ := SE3.update (by unfold maxLen; omega) (d := p) (c := q) (s := 2) ⟨by omega, by omega⟩ ⟨by omega, by omega⟩ ⟨by omega, by omega⟩
          have C4 := Lib.hid (C3.grown g4 (by simp; omega))
          have D4 := Lib.hid (D3.grown g4 (by simp; omega))
          have T := T.keptR g4 (by simp; omega)
          have AR4 := Lib.hid ((g4.block _ (lt_of_heap AR3) (by simp; omega)).trans AR3)
          have G4 := G3.andThen g4 (by rintro j ⟨⟩; exact .inl (by omega))
          have SE4 := Lib.hid SE4
          have x2 := gcell G4 x2
          clear C2 D2 SE2 AR2 G2 C3 D3 SE3 AR3 G3 g gn g2 g4 gd q0 q9 x0 x1 hnm C D SE gr
          by_cases hmx : p - 5 ≤ dd % 20
          · have y0 := T.c0
            have y1 := T.c1
            have y2 := T.c2
            obtain ⟨x', y', z', hH, hz', hy', hN2, hL2, hnm2, I3, m1, m2, m3, m4⟩ := I2.hear q1 q2 I.y2 (by omega) (dd % 20) (by omega) (by omega) (by omega)
            have HK := Lib.hid (fun w h => hear_k b1 1 x y z p q 2 (dd % 20) _ _ _ _ w h I.z2 hH)
            have NK2 := Lib.hid (fun w h => now_k b1 1 x' y' z' 0 _ _ _ _ _ _ _ w h hy' hz' hN2)
            have L1 := Lib.hid (less_k p q 2 x' (y' + 1) 1)
            rw [hL2] at L1
            have I3 := Lib.hid I3
            clear hH hN2 hL2 hz' I2
            go_wp2_with fail
            refine (HK.out _ D4.out).mono ?_
            rintro e w5 ⟨rfl, D5, g5⟩
            have C5 := C4.out.grown g5 (by simp; omega)
            have T5 := T.keptR g5 (by simp; omega)
            have SE5 := SE4.out.grown g5 (by simp; omega)
            have AR5 := (g5.block _ (lt_of_heap AR4.out) (by simp; omega)).trans AR4.out
            have G5 := G4.andThen g5 (by rintro j ⟨⟩; exact .inl (by omega))
            have hb5 := D5.lt
            clear g5 y0 y1 y2
            go_wp2_with fail
            refine (NK2.out _ D5).mono ?_
            rintro e w6 ⟨rfl, D6, g6⟩
            have C6 := C5.grown g6 (by simp; omega)
            have T6 := T5.keptR g6 (by simp; omega)
            have SE6 := SE5.grown g6 (by simp; omega)
            have AR6 := (g6.block _ (lt_of_heap AR5) (by simp; omega)).trans AR5
            have G6 := G5.andThen g6 (by rintro j ⟨⟩; exact .inl (by omega))
            have U := S3.new w6 x' (y' + 1) 1
            have gn := World.grownBy_alloc w6 (.cells #[.int .i64 x', .int .i64 (y' + 1), .int .i64 1] 39) none
            have C6 := C6.kept gn
            have D6 := D6.kept gn
            have T6 := T6.kept gn
            have SE6 := SE6.grown gn (by simp)
            have AR6 := (gn.block _ (lt_of_heap AR6) (by simp)).trans AR6
            have G6 := G6.trans gn
            have y0 := T6.c0
            have y1 := T6.c1
            have y2 := T6.c2
            clear g6 gn C5 D5 T5 SE5 AR5 G5
            go_wp2_with fail
            refine (L1.out _).mono ?_
            rintro e w7 ⟨rfl, g7⟩
            have C7 := C6.kept g7
            have D7 := D6.kept g7
            have U7 := U.kept g7
            have SE7 := SE6.grown g7 (by simp)
            have AR7 := Lib.hid ((g7.block _ (lt_of_heap AR6) (by simp)).trans AR6)
            have G7 := G6.trans g7
            have hlook := SE7.lookup (d := x') (c := y' + 1) (s := 1) ⟨by omega, by omega⟩ ⟨by omega, by omega⟩ ⟨by omega, by omega⟩
            rw [decide_eq_false hnm2] at hlook
            obtain ⟨w8, hup, SE8, g8⟩ := SE7.update (by unfold maxLen; omega) (d := x') (c := y' + 1) (s := 1) ⟨by omega, by omega⟩ ⟨by omega, by omega⟩ ⟨by omega, by omega⟩
            have C8 := Lib.hid (C7.grown g8 (by simp; omega))
            have D8 := Lib.hid (D7.grown g8 (by simp; omega))
            have AR8 := Lib.hid ((g8.block _ (lt_of_heap AR7.out) (by simp; omega)).trans AR7.out)
            have G8 := G7.andThen g8 (by rintro j ⟨⟩; exact .inl (by omega))
            have SE8 := Lib.hid SE8
            have u0 := U7.c0
            have u1 := U7.c1
            have u2 := U7.c2
            clear C6 D6 T6 SE6 AR6 G6 g7 C7 D7 U7 SE7 G7 g8 y0 y1 y2 hnm2 U
            go_wp2_with fail
            go_roundw
            case rel => first | exact ⟨k + 1, by go_num, by omega, by omega, ⟨_, _, _, _, _, _, _, _, C8.out, D8.out, SE8.out, by omega, I3.out⟩, AR8.out, G8⟩ | exact ⟨k + 1, by go_num, by omega, by omega, ⟨_, _, _, _, _, _, _, _, D8.out, C8.out, SE8.out, by omega, I3.out.symm⟩, AR8.out, G8⟩
            case measure => simp [intOf]; omega
          · have y0 := T.c0
            have y1 := T.c1
            have y2 := T.c2
            obtain ⟨x', y', z', hH, hz', hy', hN2, hL2, hnm2, I3, m1, m2, m3, m4⟩ := I2.hear q1 q2 I.y2 (by omega) (p - 5) (by omega) (by omega) (by omega)
            have HK := Lib.hid (fun w h => hear_k b1 1 x y z p q 2 (p - 5) _ _ _ _ w h I.z2 hH)
            have NK2 := Lib.hid (fun w h => now_k b1 1 x' y' z' 0 _ _ _ _ _ _ _ w h hy' hz' hN2)
            have L1 := Lib.hid (less_k p q 2 x' (y' + 1) 1)
            rw [hL2] at L1
            have I3 := Lib.hid I3
            clear hH hN2 hL2 hz' I2
            go_wp2_with fail
            refine (HK.out _ D4.out).mono ?_
            rintro e w5 ⟨rfl, D5, g5⟩
            have C5 := C4.out.grown g5 (by simp; omega)
            have T5 := T.keptR g5 (by simp; omega)
            have SE5 := SE4.out.grown g5 (by simp; omega)
            have AR5 := (g5.block _ (lt_of_heap AR4.out) (by simp; omega)).trans AR4.out
            have G5 := G4.andThen g5 (by rintro j ⟨⟩; exact .inl (by omega))
            have hb5 := D5.lt
            clear g5 y0 y1 y2
            go_wp2_with fail
            refine (NK2.out _ D5).mono ?_
            rintro e w6 ⟨rfl, D6, g6⟩
            have C6 := C5.grown g6 (by simp; omega)
            have T6 := T5.keptR g6 (by simp; omega)
            have SE6 := SE5.grown g6 (by simp; omega)
            have AR6 := (g6.block _ (lt_of_heap AR5) (by simp; omega)).trans AR5
            have G6 := G5.andThen g6 (by rintro j ⟨⟩; exact .inl (by omega))
            have U := S3.new w6 x' (y' + 1) 1
            have gn := World.grownBy_alloc w6 (.cells #[.int .i64 x', .int .i64 (y' + 1), .int .i64 1] 39) none
            have C6 := C6.kept gn
            have D6 := D6.kept gn
            have T6 := T6.kept gn
            have SE6 := SE6.grown gn (by simp)
            have AR6 := (gn.block _ (lt_of_heap AR6) (by simp)).trans AR6
            have G6 := G6.trans gn
            have y0 := T6.c0
            have y1 := T6.c1
            have y2 := T6.c2
            clear g6 gn C5 D5 T5 SE5 AR5 G5
            go_wp2_with fail
            refine (L1.out _).mono ?_
            rintro e w7 ⟨rfl, g7⟩
            have C7 := C6.kept g7
            have D7 := D6.kept g7
            have U7 := U.kept g7
            have SE7 := SE6.grown g7 (by simp)
            have AR7 := Lib.hid ((g7.block _ (lt_of_heap AR6) (by simp)).trans AR6)
            have G7 := G6.trans g7
            have hlook := SE7.lookup (d := x') (c := y' + 1) (s := 1) ⟨by omega, by omega⟩ ⟨by omega, by omega⟩ ⟨by omega, by omega⟩
            rw [decide_eq_false hnm2] at hlook
            obtain ⟨w8, hup, SE8, g8⟩ := SE7.update (by unfold maxLen; omega) (d := x') (c := y' + 1) (s := 1) ⟨by omega, by omega⟩ ⟨by omega, by omega⟩ ⟨by omega, by omega⟩
            have C8 := Lib.hid (C7.grown g8 (by simp; omega))
            have D8 := Lib.hid (D7.grown g8 (by simp; omega))
            have AR8 := Lib.hid ((g8.block _ (lt_of_heap AR7.out) (by simp; omega)).trans AR7.out)
            have G8 := G7.andThen g8 (by rintro j ⟨⟩; exact .inl (by omega))
            have SE8 := Lib.hid SE8
            have u0 := U7.c0
            have u1 := U7.c1
            have u2 := U7.c2
            clear C6 D6 T6 SE6 AR6 G6 g7 C7 D7 U7 SE7 G7 g8 y0 y1 y2 hnm2 U
            go_wp2_with fail
            go_roundw
            case rel => first | exact ⟨k + 1, by go_num, by omega, by omega, ⟨_, _, _, _, _, _, _, _, C8.out, D8.out, SE8.out, by omega, I3.out⟩, AR8.out, G8⟩ | exact ⟨k + 1, by go_num, by omega, by omega, ⟨_, _, _, _, _, _, _, _, D8.out, C8.out, SE8.out, by omega, I3.out.symm⟩, AR8.out, G8⟩
            case measure => simp [intOf]; omega
    · have hge : n ≤ k ∨ 30 ≤ k := by omega
      clear hlt
      by_cases hkn : k < n
      · have hk3 : k = 30 := by omega
        subst hk3
        go_wp2_with fail
        go_ret
        exact ⟨rfl, gr⟩
      · go_wp2_with fail
        go_ret
        exact ⟨rfl, gr⟩
end Go.Proofs.Ytgfifpbmjkjnpaa
