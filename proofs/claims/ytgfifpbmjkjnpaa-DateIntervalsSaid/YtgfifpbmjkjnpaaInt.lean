/-
  The law DateIntervals.
-/
import Derived.Test.YtgfifpbmjkjnpaaSane
namespace Go.Proofs.Ytgfifpbmjkjnpaa
open Go.RowKit
def comB (a b c d : Int) (k : Nat) : Bool := (List.range k).any fun j => withinB ((j : Int) - 13) a b && withinB ((j : Int) - 13) c d
theorem com_next (a b c d : Int) (k : Nat) : comB a b c d (k + 1) = (comB a b c d k || (withinB ((k : Int) - 13) a b && withinB ((k : Int) - 13) c d)) := by
  unfold comB
  rw [List.range_succ, List.any_append]
  simp
theorem com_meet (a b c d : Int) (h1 : -12 < a) (h2 : a < 12) (h3 : -12 < c) (h4 : c < 12) : meetB a b c d = comB a b c d 27 := by
  rw [Bool.eq_iff_iff]
  unfold comB meetB withinB
  simp only [Bool.and_eq_true, decide_eq_true_eq, List.any_eq_true, List.mem_range]
  constructor
  · rintro ⟨⟨e1, e2⟩, e3, e4⟩
    have hm : -12 < max a c ∧ max a c < 12 := by omega
    generalize max a c = m at *
    refine ⟨(m + 13).toNat, by omega, ?_⟩
    rw [show (((m + 13).toNat : Nat) : Int) - 13 = m by omega]
    exact ⟨⟨e1, e2⟩, e3, e4⟩
  · rintro ⟨j, hj, ⟨e1, e2⟩, e3, e4⟩
    refine ⟨⟨by omega, ?_⟩, by omega, ?_⟩
    · rcases e2 with e2 | e2
      · exact .inl e2
      · exact .inr (by omega)
    · rcases e4 with e4 | e4
      · exact .inl e4
      · exact .inr (by omega)
theorem com_comm (a b c d : Int) (k : Nat) : comB c d a b k = comB a b c d k := by
  unfold comB
  congr 1
  funext j
  rw [Bool.and_comm]
theorem tm12 (a : Int) : -12 < a.tmod 12 ∧ a.tmod 12 < 12 := ⟨Int.lt_tmod_of_pos a (by omega), Int.tmod_lt_of_pos a (by omega)⟩
set_option maxRecDepth 100000 in
set_option maxHeartbeats 2000000 in
theorem intervals_walk (a b c d : Int) (w : World) : Calls Try.prog 5 #[.agg #[.int .i8 a, .int .i8 b, .int .i8 c, .int .i8 d]] w fun e w' => e = .returned (.bool true) ∧ w.grownBy w' none := by
  have hop : ∀ i v, #[Value.int .i8 a, .int .i8 b, .int .i8 c, .int .i8 d][i]? = some v → (w.alloc (.cells #[.int .i8 a, .int .i8 b, .int .i8 c, .int .i8 d] 30)).cell? ⟨w.heap.size, i, none⟩ = some v := fun i v hv => (cell_at rfl).trans hv
  have HOP := Lib.hid hop
  clear hop
  obtain ⟨a1, a2⟩ := tm12 a
  obtain ⟨b1, b2⟩ := tm12 b
  obtain ⟨c1, c2⟩ := tm12 c
  obtain ⟨d1, d2⟩ := tm12 d
  go_enter Try.func5, Try.ntmps5
  go_wp2_with fail
  refine (sane_k _).mono ?_
  rintro e w1 ⟨rfl, g1⟩
  have q0 := gcell g1 (HOP.out 0 _ rfl)
  have q1 := gcell g1 (HOP.out 1 _ rfl)
  have q2 := gcell g1 (HOP.out 2 _ rfl)
  have q3 := gcell g1 (HOP.out 3 _ rfl)
  have gg := (World.grownBy_alloc w (.cells #[.int .i8 a, .int .i8 b, .int .i8 c, .int .i8 d] 30) none).trans g1
  clear g1 HOP
  go_wp2_with fail
  go_quiet (fail)
  go_wp2_with fail
  have gg := grown_dn (k := nq) gg
  generalize w1.drewN nq = w2 at *
  clear q0 q1 q2 q3
  generalize a.tmod 12 = a at *
  generalize b.tmod 12 = b at *
  generalize c.tmod 12 = c at *
  generalize d.tmod 12 = d at *
  go_loop [8, 9] (fun t i => ∃ k : Nat, k ≤ 27 ∧ i = .int .i64 ((k : Int) - 13) ∧ t = .bool (comB a b c d k)) (fun _ i => (14 - intOf i).toNat)
  case atStart => exact ⟨0, by omega, by simp, by simp [comB]⟩
  case round =>
    obtain ⟨k, hk, rfl, rfl⟩ := hrel
    by_cases hlt : k < 27
    · have HN := Lib.hid (com_next a b c d k)
      have K1 := Lib.hid (within_k ((k : Int) - 13) a b w2)
      have K2 := Lib.hid (within_k ((k : Int) - 13) c d w2)
      have hy1 : -13 ≤ (k : Int) - 13 := by omega
      have hy2 : (k : Int) - 13 < 14 := by omega
      have HK : Hid (((k + 1 : Nat) : Int) - 13 = (k : Int) - 13 + 1) := Lib.hid (by omega)
      have hx : (withinB ((k : Int) - 13) a b = true ∧ a ≤ (k : Int) - 13 ∧ (b = 0 ∨ (k : Int) - 13 < b)) ∨ (withinB ((k : Int) - 13) a b = false ∧ ((k : Int) - 13 < a ∨ (b ≠ 0 ∧ b ≤ (k : Int) - 13))) := by
        unfold withinB
        rcases Decidable.em (a ≤ (k : Int) - 13 ∧ (b = 0 ∨ (k : Int) - 13 < b)) with h | h
        · exact .inl ⟨by simpa using h, h⟩
        · exact .inr ⟨by simpa using h, by omega⟩
      generalize withinB ((k : Int) - 13) a b = x at *
      generalize withinB ((k : Int) - 13) c d = y at *
      generalize (k : Int) - 13 = v at *
      generalize comB a b c d k = t at *
      rcases hx with ⟨rfl, e1, e2⟩ | ⟨rfl, e1⟩
      · rcases (show b = 0 ∨ (b ≠ 0 ∧ v < b) by omega) with rfl | ⟨e4, e2⟩
        · go_wp2_with fail
          refine K1.out.mono ?_
          rintro e w3 ⟨rfl, rfl⟩
          go_wp2_with fail
          refine K2.out.mono ?_
          rintro e w3 ⟨rfl, rfl⟩
          go_wp2_with fail
          all_goals
            go_round
            case rel => exact ⟨k + 1, by omega, by rw [HK.out], by rw [HN.out]; cases t <;> cases y <;> first | rfl | simp_all⟩
            case measure => simp [intOf]; omega

        · have e3 : ¬ b ≤ v := by omega
          have e5 : (b == 0) = false := by simpa using e4
          have e6 : (b != 0) = true := by simpa using e4
          clear e4
          go_wp2_with fail
          refine K1.out.mono ?_
          rintro e w3 ⟨rfl, rfl⟩
          go_wp2_with fail
          refine K2.out.mono ?_
          rintro e w3 ⟨rfl, rfl⟩
          go_wp2_with fail
          all_goals
            go_round
            case rel => exact ⟨k + 1, by omega, by rw [HK.out], by rw [HN.out]; cases t <;> cases y <;> first | rfl | simp_all⟩
            case measure => simp [intOf]; omega

      · rcases e1 with e1 | ⟨e1, e2⟩
        · go_wp2_with fail
          refine K1.out.mono ?_
          rintro e w3 ⟨rfl, rfl⟩
          go_wp2_with fail
          refine K2.out.mono ?_
          rintro e w3 ⟨rfl, rfl⟩
          go_wp2_with fail
          all_goals
            go_round
            case rel => exact ⟨k + 1, by omega, by rw [HK.out], by rw [HN.out]; cases t <;> cases y <;> first | rfl | simp_all⟩
            case measure => simp [intOf]; omega

        · have e3 : (b == 0) = false := by simpa using e1
          have e4 : (b != 0) = true := by simpa using e1
          clear e1
          go_wp2_with fail
          refine K1.out.mono ?_
          rintro e w3 ⟨rfl, rfl⟩
          go_wp2_with fail
          refine K2.out.mono ?_
          rintro e w3 ⟨rfl, rfl⟩
          go_wp2_with fail
          all_goals
            go_round
            case rel => exact ⟨k + 1, by omega, by rw [HK.out], by rw [HN.out]; cases t <;> cases y <;> first | rfl | simp_all⟩
            case measure => simp [intOf]; omega

    · have hk2 : k = 27 := by omega
      subst hk2
      have M1 := Lib.hid (meet_k a b c d w2)
      have M2 := Lib.hid (meet_k c d a b w2)
      rw [com_meet a b c d a1 a2 c1 c2] at M1
      rw [com_meet c d a b c1 c2 a1 a2, com_comm a b c d 27] at M2
      clear hlt hk
      generalize comB a b c d 27 = t at *
      go_wp2_with fail
      refine M1.out.mono ?_
      rintro e w3 ⟨rfl, rfl⟩
      go_wp2_with fail
      refine M2.out.mono ?_
      rintro e w3 ⟨rfl, rfl⟩
      go_wp2_with fail
      go_ret
      exact ⟨rfl, gg⟩
end Go.Proofs.Ytgfifpbmjkjnpaa
