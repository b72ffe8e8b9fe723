/-
  Keys one after the other; canSteal, stolen, checkNext, by their contracts.
-/
import Derived.Test.YtecobgjkodmaiaaDoorWd
namespace Go.Proofs.YtecobgjkodmaiaaDoor
open Go.RowKit
attribute [local go_sem] get_mk extract_mk
theorem not_false {b : Bool} (h : ¬ b = false) : b = true := by simpa using h
set_option maxRecDepth 100000 in
/-- canSteal -/
theorem canS_k (i : Int) (s : Str) (f t d : Int) (hf : i64 f) (hd : i64 d) (w : World) : Calls Tryd.prog 36 #[.agg #[.int .i64 i, .string ⟨s.toArray⟩, .int .i64 f, .int .i64 t], .int .i64 d] w fun e w' => e = .returned (.bool (canS ⟨i, s, f, t⟩ d)) ∧ w.grownBy w' none := by
  have gg := World.grownBy_alloc w (.cells #[.int .i64 i, .string ⟨s.toArray⟩, .int .i64 f, .int .i64 t] 28) none
  have q2 : (w.alloc (.cells #[.int .i64 i, .string ⟨s.toArray⟩, .int .i64 f, .int .i64 t] 28)).cell? ⟨w.heap.size, 2, none⟩ = some (.int .i64 f) := cell_at rfl
  obtain ⟨f1, f2⟩ := id hf
  obtain ⟨d1, d2⟩ := id hd
  by_cases c0 : d = 0
  · have HE : Hid (canS ⟨i, s, f, t⟩ d = false) := Lib.hid (by unfold canS; simp [c0])
    have h0 : (d != 0) = false := by simp [c0]
    clear c0
    go_enter Tryd.func36, Tryd.ntmps36
    go_wp2_with fail
    go_ret
    exact ⟨by rw [HE.out]; rfl, gg⟩
  · by_cases c1 : rightD d = false
    · have HE : Hid (canS ⟨i, s, f, t⟩ d = false) := Lib.hid (by unfold canS; simp [c1])
      have h0 : (d != 0) = true := by simp [c0]
      have h1 := c1
      clear c0 c1
      go_enter Tryd.func36, Tryd.ntmps36
      go_wp2_with fail
      refine (day_k d hd _).mono ?_
      rintro e w2 ⟨rfl, rfl⟩
      go_wp2_with fail
      go_ret
      exact ⟨by rw [HE.out]; rfl, gg⟩
    · by_cases c2 : d < f
      · have HE : Hid (canS ⟨i, s, f, t⟩ d = false) := Lib.hid (by unfold canS; simp [c0, c1, c2])
        have h0 : (d != 0) = true := by simp [c0]
        have h1 := not_false c1
        have h2 : decide (f ≤ d) = false := by simp; omega
        clear c0 c1 c2
        go_enter Tryd.func36, Tryd.ntmps36
        go_wp2_with fail
        refine (day_k d hd _).mono ?_
        rintro e w2 ⟨rfl, rfl⟩
        go_wp2_with fail
        go_ret
        exact ⟨by rw [HE.out]; rfl, gg⟩
      · have HE : Hid (canS ⟨i, s, f, t⟩ d = true) := Lib.hid (by unfold canS; simp [c0, c1]; omega)
        have h0 : (d != 0) = true := by simp [c0]
        have h1 := not_false c1
        have h2 : decide (f ≤ d) = true := by simp; omega
        clear c0 c1 c2
        go_enter Tryd.func36, Tryd.ntmps36
        go_wp2_with fail
        refine (day_k d hd _).mono ?_
        rintro e w2 ⟨rfl, rfl⟩
        go_wp2_with fail
        go_ret
        exact ⟨by rw [HE.out]; rfl, gg⟩
set_option maxRecDepth 100000 in
/-- stolen -/
theorem stolen_k (i : Int) (s : Str) (f t d : Int) (ht : i64 t) (hd : i64 d) (w : World) : Calls Tryd.prog 41 #[.agg #[.int .i64 i, .string ⟨s.toArray⟩, .int .i64 f, .int .i64 t], .int .i64 d] w fun e w' => e = .returned (.bool (stolenB ⟨i, s, f, t⟩ d)) ∧ w.grownBy w' none := by
  have gg := World.grownBy_alloc w (.cells #[.int .i64 i, .string ⟨s.toArray⟩, .int .i64 f, .int .i64 t] 28) none
  have q3 : (w.alloc (.cells #[.int .i64 i, .string ⟨s.toArray⟩, .int .i64 f, .int .i64 t] 28)).cell? ⟨w.heap.size, 3, none⟩ = some (.int .i64 t) := cell_at rfl
  obtain ⟨f1, f2⟩ := id ht
  obtain ⟨d1, d2⟩ := id hd
  by_cases c0 : t = 0
  · have HE : Hid (stolenB ⟨i, s, f, t⟩ d = false) := Lib.hid (by simp [stolenB, c0])
    have h0 : (t != 0) = false := by simp [c0]
    clear c0
    go_enter Tryd.func41, Tryd.ntmps41
    go_wp2_with fail
    go_ret
    exact ⟨by rw [HE.out]; rfl, gg⟩
  · by_cases c1 : d < t
    · have HE : Hid (stolenB ⟨i, s, f, t⟩ d = false) := Lib.hid (by simp [stolenB, c0, c1])
      have h0 : (t != 0) = true := by simp [c0]
      have h1 : decide (t ≤ d) = false := by simp; omega
      clear c0 c1
      go_enter Tryd.func41, Tryd.ntmps41
      go_wp2_with fail
      go_ret
      exact ⟨by rw [HE.out]; rfl, gg⟩
    · have HE : Hid (stolenB ⟨i, s, f, t⟩ d = true) := Lib.hid (by simp [stolenB, c0]; omega)
      have h0 : (t != 0) = true := by simp [c0]
      have h1 : decide (t ≤ d) = true := by simp; omega
      clear c0 c1
      go_enter Tryd.func41, Tryd.ntmps41
      go_wp2_with fail
      go_ret
      exact ⟨by rw [HE.out]; rfl, gg⟩
set_option maxRecDepth 100000 in
set_option maxHeartbeats 1000000 in
/-- checkNext -/
theorem chkN_k (bi : Int) (bs : Str) (bf bt i : Int) (s : Str) (f t : Int) (hb : i64 bi ∧ i64 bf) (hi : i64 i) (hs : s.length ≤ 1152921504606846976) (hf : i64 f) (ht : i64 t) (w : World) :
    Calls Tryd.prog 30 #[.agg #[.int .i64 bi, .string ⟨bs.toArray⟩, .int .i64 bf, .int .i64 bt], .agg #[.int .i64 i, .string ⟨s.toArray⟩, .int .i64 f, .int .i64 t]] w fun e w' => e = .returned (.int .i64 (chkN ⟨bi, bs, bf, bt⟩ ⟨i, s, f, t⟩)) ∧ w.grownBy w' none := by
  have gg := (World.grownBy_alloc w (.cells #[.int .i64 bi, .string ⟨bs.toArray⟩, .int .i64 bf, .int .i64 bt] 28) none).trans (World.grownBy_alloc _ (.cells #[.int .i64 i, .string ⟨s.toArray⟩, .int .i64 f, .int .i64 t] 28) none)
  obtain ⟨w1, ew⟩ : ∃ w1, w1 = (w.alloc (.cells #[.int .i64 bi, .string ⟨bs.toArray⟩, .int .i64 bf, .int .i64 bt] 28)).alloc (.cells #[.int .i64 i, .string ⟨s.toArray⟩, .int .i64 f, .int .i64 t] 28) := ⟨_, rfl⟩
  have r0 : w1.cell? ⟨w.heap.size, 0, none⟩ = some (.int .i64 bi) := by rw [ew]; exact gcell (World.grownBy_alloc _ _ none) (cell_at rfl)
  have r2 : w1.cell? ⟨w.heap.size, 2, none⟩ = some (.int .i64 bf) := by rw [ew]; exact gcell (World.grownBy_alloc _ _ none) (cell_at rfl)
  have r4 : w1.cell? ⟨w.heap.size + 1, 0, none⟩ = some (.int .i64 i) := by rw [ew]; exact cell_at (by simp)
  have r5 : w1.cell? ⟨w.heap.size + 1, 1, none⟩ = some (.string ⟨s.toArray⟩) := by rw [ew]; exact cell_at (by simp)
  have r6 : w1.cell? ⟨w.heap.size + 1, 2, none⟩ = some (.int .i64 f) := by rw [ew]; exact cell_at (by simp)
  have r7 : w1.cell? ⟨w.heap.size + 1, 3, none⟩ = some (.int .i64 t) := by rw [ew]; exact cell_at (by simp)
  rw [← ew] at gg
  have EW := Lib.hid ew
  clear ew
  obtain ⟨f1, f2⟩ := id hf
  obtain ⟨t1, t2⟩ := id ht
  obtain ⟨i1, i2⟩ := id hi
  obtain ⟨⟨b1, b2⟩, b3, b4⟩ := hb
  by_cases c0 : i < 1
  · have HE : Hid (chkN ⟨bi, bs, bf, bt⟩ ⟨i, s, f, t⟩ = 3) := Lib.hid (by unfold chkN; simp [c0])
    have h0 : decide (i < 1) = true := by simp; omega
    clear c0
    go_enter Tryd.func30, Tryd.ntmps30
    go_upto_region 1 with fail
    rw [← EW.out]
    go_wp2_with fail
    go_ret
    exact ⟨by rw [HE.out]; rfl, gg⟩
  · by_cases c1 : s = []
    · have HE : Hid (chkN ⟨bi, bs, bf, bt⟩ ⟨i, s, f, t⟩ = 3) := Lib.hid (by unfold chkN; simp [c0, c1])
      have h0 : decide (i < 1) = false := by simp; omega
      have h1 : s.isEmpty = true := by simp [c1]
      clear c0 c1
      go_enter Tryd.func30, Tryd.ntmps30
      go_upto_region 1 with fail
      rw [← EW.out]
      go_wp2_with fail
      go_ret
      exact ⟨by rw [HE.out]; rfl, gg⟩
    · by_cases c2 : 40 < s.length
      · have HE : Hid (chkN ⟨bi, bs, bf, bt⟩ ⟨i, s, f, t⟩ = 3) := Lib.hid (by unfold chkN; simp [c0, c1, c2])
        have h0 : decide (i < 1) = false := by simp; omega
        have h1 : s.isEmpty = false := by simp [c1]
        have h2 : decide ((s.length : Int) > 40) = true := by simp; omega
        clear c0 c1 c2
        go_enter Tryd.func30, Tryd.ntmps30
        go_upto_region 1 with fail
        rw [← EW.out]
        go_wp2_with fail
        go_ret
        exact ⟨by rw [HE.out]; rfl, gg⟩
      · by_cases c3 : i ≤ bi
        · have HE : Hid (chkN ⟨bi, bs, bf, bt⟩ ⟨i, s, f, t⟩ = 7) := Lib.hid (by unfold chkN; simp [c0, c1, c2, c3])
          have h0 : decide (i < 1) = false := by simp; omega
          have h1 : s.isEmpty = false := by simp [c1]
          have h2 : decide ((s.length : Int) > 40) = false := by simp; omega
          have h3 : decide (i ≤ bi) = true := by simp; omega
          clear c0 c1 c2 c3
          go_enter Tryd.func30, Tryd.ntmps30
          go_upto_region 1 with fail
          rw [← EW.out]
          go_wp2_with fail
          go_ret
          exact ⟨by rw [HE.out]; rfl, gg⟩
        · by_cases c4 : rightD f = false
          · have HE : Hid (chkN ⟨bi, bs, bf, bt⟩ ⟨i, s, f, t⟩ = 23) := Lib.hid (by unfold chkN; simp [c0, c1, c2, c3, c4])
            have h0 : decide (i < 1) = false := by simp; omega
            have h1 : s.isEmpty = false := by simp [c1]
            have h2 : decide ((s.length : Int) > 40) = false := by simp; omega
            have h3 : decide (i ≤ bi) = false := by simp; omega
            have h4 := c4
            clear c0 c1 c2 c3 c4
            go_enter Tryd.func30, Tryd.ntmps30
            go_upto_region 1 with fail
            rw [← EW.out]
            go_wp2_with fail
            refine (day_k f hf _).mono ?_
            rintro e w2 ⟨rfl, rfl⟩
            go_wp2_with fail
            go_ret
            exact ⟨by rw [HE.out]; rfl, gg⟩
          · by_cases c5 : t ≠ 0 ∧ canS ⟨i, s, f, t⟩ t = false
            · have HE : Hid (chkN ⟨bi, bs, bf, bt⟩ ⟨i, s, f, t⟩ = 23) := Lib.hid (by unfold chkN; simp [c0, c1, c2, c3, c4, c5])
              have h0 : decide (i < 1) = false := by simp; omega
              have h1 : s.isEmpty = false := by simp [c1]
              have h2 : decide ((s.length : Int) > 40) = false := by simp; omega
              have h3 : decide (i ≤ bi) = false := by simp; omega
              have h4 := not_false c4
              have h5 : (t != 0) = true := by simp [c5.1]
              have h6 := c5.2
              clear c0 c1 c2 c3 c4 c5
              go_enter Tryd.func30, Tryd.ntmps30
              go_upto_region 1 with fail
              rw [← EW.out]
              go_wp2_with fail
              refine (day_k f hf _).mono ?_
              rintro e w2 ⟨rfl, rfl⟩
              go_wp2_with fail
              refine (canS_k i s f t t hf ht _).mono ?_
              rintro e w3 ⟨rfl, g3⟩
              replace gg := gg.trans g3
              replace r2 := gcell g3 r2
              replace r6 := gcell g3 r6
              go_wp2_with fail
              go_ret
              exact ⟨by rw [HE.out]; rfl, gg⟩
            · by_cases c6 : f < bf
              · by_cases c8 : t = 0
                · have HE : Hid (chkN ⟨bi, bs, bf, bt⟩ ⟨i, s, f, t⟩ = 7) := Lib.hid (by unfold chkN; simp [c0, c1, c2, c3, c4, c5, c6])
                  have h0 : decide (i < 1) = false := by simp; omega
                  have h1 : s.isEmpty = false := by simp [c1]
                  have h2 : decide ((s.length : Int) > 40) = false := by simp; omega
                  have h3 : decide (i ≤ bi) = false := by simp; omega
                  have h4 := not_false c4
                  have h7 : decide (f < bf) = true := by simp; omega
                  have h5 : (t != 0) = false := by simp [c8]
                  clear c0 c1 c2 c3 c4 c5 c6 c8
                  go_enter Tryd.func30, Tryd.ntmps30
                  go_upto_region 1 with fail
                  rw [← EW.out]
                  go_wp2_with fail
                  refine (day_k f hf _).mono ?_
                  rintro e w2 ⟨rfl, rfl⟩
                  go_wp2_with fail
                  go_ret
                  exact ⟨by rw [HE.out]; rfl, gg⟩
                · have HE : Hid (chkN ⟨bi, bs, bf, bt⟩ ⟨i, s, f, t⟩ = 7) := Lib.hid (by unfold chkN; simp [c0, c1, c2, c3, c4, c5, c6])
                  have h0 : decide (i < 1) = false := by simp; omega
                  have h1 : s.isEmpty = false := by simp [c1]
                  have h2 : decide ((s.length : Int) > 40) = false := by simp; omega
                  have h3 : decide (i ≤ bi) = false := by simp; omega
                  have h4 := not_false c4
                  have h7 : decide (f < bf) = true := by simp; omega
                  have h5 : (t != 0) = true := by simp [c8]
                  have h6 : canS ⟨i, s, f, t⟩ t = true := by simpa [c8] using c5
                  clear c0 c1 c2 c3 c4 c5 c6 c8
                  go_enter Tryd.func30, Tryd.ntmps30
                  go_upto_region 1 with fail
                  rw [← EW.out]
                  go_wp2_with fail
                  refine (day_k f hf _).mono ?_
                  rintro e w2 ⟨rfl, rfl⟩
                  go_wp2_with fail
                  refine (canS_k i s f t t hf ht _).mono ?_
                  rintro e w3 ⟨rfl, g3⟩
                  replace gg := gg.trans g3
                  replace r2 := gcell g3 r2
                  replace r6 := gcell g3 r6
                  go_wp2_with fail
                  go_ret
                  exact ⟨by rw [HE.out]; rfl, gg⟩
              · by_cases c8 : t = 0
                · have HE : Hid (chkN ⟨bi, bs, bf, bt⟩ ⟨i, s, f, t⟩ = 0) := Lib.hid (by unfold chkN; simp [c0, c1, c2, c3, c4, c5, c6])
                  have h0 : decide (i < 1) = false := by simp; omega
                  have h1 : s.isEmpty = false := by simp [c1]
                  have h2 : decide ((s.length : Int) > 40) = false := by simp; omega
                  have h3 : decide (i ≤ bi) = false := by simp; omega
                  have h4 := not_false c4
                  have h7 : decide (f < bf) = false := by simp; omega
                  have h5 : (t != 0) = false := by simp [c8]
                  clear c0 c1 c2 c3 c4 c5 c6 c8
                  go_enter Tryd.func30, Tryd.ntmps30
                  go_upto_region 1 with fail
                  rw [← EW.out]
                  go_wp2_with fail
                  refine (day_k f hf _).mono ?_
                  rintro e w2 ⟨rfl, rfl⟩
                  go_wp2_with fail
                  go_ret
                  exact ⟨by rw [HE.out]; rfl, gg⟩
                · have HE : Hid (chkN ⟨bi, bs, bf, bt⟩ ⟨i, s, f, t⟩ = 0) := Lib.hid (by unfold chkN; simp [c0, c1, c2, c3, c4, c5, c6])
                  have h0 : decide (i < 1) = false := by simp; omega
                  have h1 : s.isEmpty = false := by simp [c1]
                  have h2 : decide ((s.length : Int) > 40) = false := by simp; omega
                  have h3 : decide (i ≤ bi) = false := by simp; omega
                  have h4 := not_false c4
                  have h7 : decide (f < bf) = false := by simp; omega
                  have h5 : (t != 0) = true := by simp [c8]
                  have h6 : canS ⟨i, s, f, t⟩ t = true := by simpa [c8] using c5
                  clear c0 c1 c2 c3 c4 c5 c6 c8
                  go_enter Tryd.func30, Tryd.ntmps30
                  go_upto_region 1 with fail
                  rw [← EW.out]
                  go_wp2_with fail
                  refine (day_k f hf _).mono ?_
                  rintro e w2 ⟨rfl, rfl⟩
                  go_wp2_with fail
                  refine (canS_k i s f t t hf ht _).mono ?_
                  rintro e w3 ⟨rfl, g3⟩
                  replace gg := gg.trans g3
                  replace r2 := gcell g3 r2
                  replace r6 := gcell g3 r6
                  go_wp2_with fail
                  go_ret
                  exact ⟨by rw [HE.out]; rfl, gg⟩
end Go.Proofs.YtecobgjkodmaiaaDoor
