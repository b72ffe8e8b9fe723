/-
  The law DateRises.
-/
import Derived.Test.YtgfifpbmjkjnpaaOps
namespace Go.Proofs.Ytgfifpbmjkjnpaa
open Go.RowKit
/-- what holds of the last stamp d, c, s when all days told were at most day, in round k -/
structure Riz (day d c s : Int) (k : Nat) : Prop where
  z : c ≠ 0 ∨ s ≠ 0
  c1 : -1 ≤ c
  c2 : c ≤ 8 + k
  d1 : 0 ≤ d
  d2 : d ≤ day + 5
  e1 : 0 ≤ day
  e2 : day ≤ 39
theorem Riz.up {day d c s : Int} {k : Nat} (h : Riz day d c s k) : Riz day d c s (k + 1) := ⟨h.z, h.c1, by have := h.c2; omega, h.d1, h.d2, h.e1, h.e2⟩
theorem hear_cases {d c s p q r o er d' c' s' : Int} (h : hearR d c s p q r o = (er, d', c', s')) :
    ((er != 0) = true ∧ d' = d ∧ c' = c ∧ s' = s) ∨ (er = 0 ∧ 0 ≤ o ∧ 0 ≤ p ∧ p ≤ o + 5 ∧ 0 ≤ q ∧ 1 ≤ r ∧ ((lessB d c s p q r = true ∧ d' = p ∧ c' = q ∧ s' = r) ∨ (lessB d c s p q r = false ∧ d' = d ∧ c' = c ∧ s' = s))) := by
  unfold hearR at h
  split at h
  · split at h
    · split at h
      · split at h
        · split at h
          · split at h
            · rename_i h1 h2 h3 h4 h5 h6
              simp only [rightB, serverB, decide_eq_true_eq] at h1 h2 h6
              split at h
              · rename_i hl
                simp only [Prod.mk.injEq] at h
                exact .inr ⟨by omega, by omega, by omega, by omega, by omega, by omega, .inl ⟨hl, by omega, by omega, by omega⟩⟩
              · rename_i hl
                simp only [Prod.mk.injEq] at h
                exact .inr ⟨by omega, by omega, by omega, by omega, by omega, by omega, .inr ⟨by simpa using hl, by omega, by omega, by omega⟩⟩
            all_goals (simp only [Prod.mk.injEq] at h; exact .inl ⟨by rw [bne_iff_ne]; omega, by omega, by omega, by omega⟩)
          all_goals (simp only [Prod.mk.injEq] at h; exact .inl ⟨by rw [bne_iff_ne]; omega, by omega, by omega, by omega⟩)
        all_goals (simp only [Prod.mk.injEq] at h; exact .inl ⟨by rw [bne_iff_ne]; omega, by omega, by omega, by omega⟩)
      all_goals (simp only [Prod.mk.injEq] at h; exact .inl ⟨by rw [bne_iff_ne]; omega, by omega, by omega, by omega⟩)
    all_goals (simp only [Prod.mk.injEq] at h; exact .inl ⟨by rw [bne_iff_ne]; omega, by omega, by omega, by omega⟩)
  all_goals (simp only [Prod.mk.injEq] at h; exact .inl ⟨by rw [bne_iff_ne]; omega, by omega, by omega, by omega⟩)
theorem now_cases (sv d c s o : Int) (ho : o ≤ 100000) (hc : c < 1073741824) :
    (o < 0 ∧ nowR sv d c s o = (0, 0, 0, 23, d, c, s)) ∨ (0 ≤ o ∧ d < o ∧ nowR sv d c s o = (o, 0, sv, 0, o, 0, sv)) ∨ (0 ≤ o ∧ o ≤ d ∧ nowR sv d c s o = (d, c + 1, sv, 0, d, c + 1, sv)) := by
  unfold nowR
  by_cases h1 : 0 ≤ o
  · have hr : rightB o = true := by simp [rightB]; omega
    simp only [hr, if_true]
    by_cases h2 : d < o
    · exact .inr (.inl ⟨h1, h2, by simp [h2]⟩)
    · exact .inr (.inr ⟨h1, by omega, by simp [h2]; omega⟩)
  · have hr : rightB o = false := by simp [rightB]; omega
    exact .inl ⟨by omega, by simp [hr]⟩
set_option maxRecDepth 100000 in
set_option maxHeartbeats 8000000 in
theorem rises_walk (A : Option Addr) (n c0 : Nat) (l : List OpT) (v : Int) (hv : 0 ≤ v ∧ v ≤ 255) (w : World) (HL : Ops w A n c0 l) : Calls Try.prog 7 #[.int .u8 v, .slice A n c0] w fun e w' => e = .returned (.bool true) ∧ w.grownBy w' none := by
  have hsv : serverB (1 + v % 8) = true := by simp [serverB]; omega
  have NK := Lib.hid (new_k (1 + v % 8) hsv)
  have h1 : 0 ≤ v := hv.1
  have h2 : v ≤ 255 := hv.2
  have hn : n ≤ 9223372036854775807 := Nat.le_trans HL.le HL.cap
  clear hsv hv
  have HL := Lib.hid (fun w' (g : w.grownBy w' none) => HL.kept g)
  go_enter Try.func7, Try.ntmps7
  go_wp2_with fail
  refine (sane_k _).mono ?_
  rintro e w1 ⟨rfl, g1⟩
  go_wp2_with fail
  refine (NK.out _).mono ?_
  rintro e w2 ⟨rfl, rfl⟩
  go_wp2_with fail
  have HC := (Ck.new w1 (1 + v % 8)).kept (World.grownBy_alloc _ (.cells #[.int .i64 0, .int .i64 (-1), .int .i64 0] 39) none)
  have HS := S3.new (w1.alloc (.cells #[.int .i64 (1 + v % 8), .int .i64 0, .int .i64 (-1), .int .i64 0] 57)) 0 (-1) 0
  rw [show (w1.alloc (.cells #[.int .i64 (1 + v % 8), .int .i64 0, .int .i64 (-1), .int .i64 0] 57)).heap.size = w1.heap.size + 1 by simp] at HS
  have G := (g1.trans (World.grownBy_alloc w1 (.cells #[.int .i64 (1 + v % 8), .int .i64 0, .int .i64 (-1), .int .i64 0] 57) none)).trans (World.grownBy_alloc _ (.cells #[.int .i64 0, .int .i64 (-1), .int .i64 0] 39) none)
  generalize ((w1.alloc (.cells #[.int .i64 (1 + v % 8), .int .i64 0, .int .i64 (-1), .int .i64 0] 57)).alloc (.cells #[.int .i64 0, .int .i64 (-1), .int .i64 0] 39)) = wb at *
  have hbl : w.heap.size ≤ w1.heap.size := g1.size
  have hll : w.heap.size ≤ w1.heap.size + 1 := by omega
  have hnb : w1.heap.size + 1 ≠ w1.heap.size := by omega
  have SV : Hid (serverB (1 + v % 8) = true) := Lib.hid (by simp [serverB]; omega)
  have sv0 : 1 ≤ 1 + v % 8 := by omega
  go_loopw [7, 9] (fun i7 i9 wr => ∃ (k : Nat) (day d c s : Int), i7 = .int .i64 day ∧ i9 = .int .i64 k ∧ k ≤ n ∧ k ≤ 30 ∧ Riz day d c s k ∧ Ck 57 wr w1.heap.size (1 + v % 8) d c s ∧ S3 wr (w1.heap.size + 1) d c s ∧ w.grownBy wr none) (fun _ i _ => 30 - (intOf i).toNat)
  case atStart => exact ⟨0, 0, 0, -1, 0, rfl, rfl, by omega, by omega, ⟨by omega, by omega, by omega, by omega, by omega, by omega, by omega⟩, HC, HS, G⟩
  case round =>
    clear HC HS G g1
    obtain ⟨k, day, d, c, s, rfl, rfl, hk, hk30, R, C, S, g⟩ := hrel
    by_cases hlt : k < n ∧ k < 30
    · obtain ⟨hkn, hk3⟩ := hlt
      obtain ⟨ad, h, o, p, q, r, _, rfl, hab, x0, x1, x2, x3, x4⟩ := ops_at (HL.out wr g) k hkn
      have o1 := Int.lt_tmod_of_pos o (b := 40) (by omega)
      have o2 := Int.tmod_lt_of_pos o (b := 40) (by omega)
      have p1 := Int.lt_tmod_of_pos p (b := 40) (by omega)
      have p2 := Int.tmod_lt_of_pos p (b := 40) (by omega)
      have q1 := Int.lt_tmod_of_pos q (b := 9) (by omega)
      have q2 := Int.tmod_lt_of_pos q (b := 9) (by omega)
      have SM := Lib.hid (small_k h o p q r)
      generalize o.tmod 40 = o at *
      generalize p.tmod 40 = p at *
      generalize q.tmod 9 = q at *
      generalize r.tmod 9 = r at *
      have R1 := Lib.hid R
      have r1 := R.d2
      have r2 := R.e1
      have r3 := R.e2
      have r4 := R.d1
      cases h
      · go_wp2_with fail
        refine (SM.out _).mono ?_
        rintro e w2 ⟨rfl, g2⟩
        clear x0 x1 x2 x3 x4 SM
        have P := S5.new w2 false o p q r
        have gn := World.grownBy_alloc w2 (.cells #[.bool false, .int .i64 o, .int .i64 p, .int .i64 q, .int .i64 r] 41) none
        have g3 := (g.trans g2).trans gn
        have hcl := (C.kept g2).lt
        have C := (C.kept g2).kept gn
        have S := (S.kept g2).kept gn
        have y1 := P.c1
        go_wp2_with fail
        generalize w2.alloc (.cells #[.bool false, .int .i64 o, .int .i64 p, .int .i64 q, .int .i64 r] 41) = w3 at *
        clear g g2 gn y1
        have hp := P.lt
        have R2 := Lib.hid R.up
        rcases now_cases (1 + v % 8) d c s o (by omega) (by have := R.c2; omega) with ⟨ho, hN⟩ | ⟨ho, hd, hN⟩ | ⟨ho, hd, hN⟩
        · have NW := Lib.hid (now_k _ _ _ _ _ _ _ _ _ _ _ _ _ w3 C R.c1 R.z hN)
          clear hN R
          refine NW.out.mono ?_
          rintro e w4 ⟨rfl, C4, g4⟩
          have P4 := P.keptR g4 (by simp; omega)
          have S4 := S.keptR g4 (by simp)
          have g5 := g3.andThen g4 (by rintro j ⟨⟩; exact .inl hbl)
          have T := S3.new w4 (0) (0) (0)
          have gn := World.grownBy_alloc w4 (.cells #[.int .i64 (0), .int .i64 (0), .int .i64 (0)] 39) none
          have GG := g5.trans gn
          have P5 := P4.kept gn
          have CC := Lib.hid (C4.kept gn)
          have SS := Lib.hid (S4.kept gn)
          have y1 := P5.c1
          clear C4 P4 S4 g5 g4 S C P NW
          go_wp2_with fail
          all_goals
            go_roundw
            case rel => exact ⟨k + 1, day, d, c, s, rfl, by go_num, by omega, by omega, R2.out, CC.out, SS.out, GG⟩
            case measure => simp [intOf]; omega
        · have NW := Lib.hid (now_k _ _ _ _ _ _ _ _ _ _ _ _ _ w3 C R.c1 R.z hN)
          have L1 := Lib.hid (less_k d c s (o) (0) (1 + v % 8))
          have L2 := Lib.hid (less_k (o) (0) (1 + v % 8) d c s)
          rw [show lessB d c s (o) (0) (1 + v % 8) = true by unfold lessB; exact decide_eq_true (by omega)] at L1
          rw [show lessB (o) (0) (1 + v % 8) d c s = false by unfold lessB; exact decide_eq_false (by omega)] at L2
          have c1 := R.c1
          have c2 := R.c2
          clear hN R
          refine NW.out.mono ?_
          rintro e w4 ⟨rfl, C4, g4⟩
          have P4 := P.keptR g4 (by simp; omega)
          have S4 := S.keptR g4 (by simp)
          have g5 := g3.andThen g4 (by rintro j ⟨⟩; exact .inl hbl)
          have T := S3.new w4 (o) (0) (1 + v % 8)
          have gn := World.grownBy_alloc w4 (.cells #[.int .i64 (o), .int .i64 (0), .int .i64 (1 + v % 8)] 39) none
          have GG := g5.trans gn
          have P5 := P4.kept gn
          have CC := Lib.hid (C4.kept gn)
          have SS := Lib.hid (S4.kept gn)
          have y1 := P5.c1
          clear C4 P4 S4 g5 g4 S C P NW
          have a0 := SS.out.c0
          have a1 := SS.out.c1
          have a2 := SS.out.c2
          have b0 := T.c0
          have b1 := T.c1
          have b2 := T.c2
          go_wp2_with fail
          all_goals
            refine (L1.out _).mono ?_
            rintro e w6 ⟨rfl, g6⟩
            have GG := GG.trans g6
            have CC := Lib.hid (CC.out.kept g6)
            have SS := Lib.hid (SS.out.kept g6)
            have T := T.kept g6
            have P5 := P5.kept g6
            have y1 := P5.c1
            have a0 := SS.out.c0
            have a1 := SS.out.c1
            have a2 := SS.out.c2
            have b0 := T.c0
            have b1 := T.c1
            have b2 := T.c2
            go_wp2_with fail
            refine (L2.out _).mono ?_
            rintro e w7 ⟨rfl, g7⟩
            have GG := GG.trans g7
            have CC := Lib.hid (CC.out.kept g7)
            have SS := SS.out.kept g7
            have T := T.kept g7
            have P5 := P5.kept g7
            have y1 := P5.c1
            have a0 := SS.c0
            have a1 := SS.c1
            have a2 := SS.c2
            have af := SS.fz
            have al := SS.lt
            have b0 := T.c0
            have b1 := T.c1
            have b2 := T.c2
            have SS := Lib.hid SS
            clear T P5 g6 g7
            go_wp2_with fail
            go_roundw
            case rel => exact ⟨k + 1, _, o, 0, 1 + v % 8, rfl, by go_num, by omega, by omega, ⟨by omega, by omega, by omega, by omega, by omega, by omega, by omega⟩, ((CC.out.far hnb.symm).far hnb.symm).far hnb.symm, SS.out.set _ _ _, grown_set (grown_set (grown_set GG (.inl hll)) (.inl hll)) (.inl hll)⟩
            case measure => simp [intOf]; omega
        · have NW := Lib.hid (now_k _ _ _ _ _ _ _ _ _ _ _ _ _ w3 C R.c1 R.z hN)
          have L1 := Lib.hid (less_k d c s (d) (c + 1) (1 + v % 8))
          have L2 := Lib.hid (less_k (d) (c + 1) (1 + v % 8) d c s)
          rw [show lessB d c s (d) (c + 1) (1 + v % 8) = true by unfold lessB; exact decide_eq_true (by omega)] at L1
          rw [show lessB (d) (c + 1) (1 + v % 8) d c s = false by unfold lessB; exact decide_eq_false (by omega)] at L2
          have c1 := R.c1
          have c2 := R.c2
          clear hN R
          refine NW.out.mono ?_
          rintro e w4 ⟨rfl, C4, g4⟩
          have P4 := P.keptR g4 (by simp; omega)
          have S4 := S.keptR g4 (by simp)
          have g5 := g3.andThen g4 (by rintro j ⟨⟩; exact .inl hbl)
          have T := S3.new w4 (d) (c + 1) (1 + v % 8)
          have gn := World.grownBy_alloc w4 (.cells #[.int .i64 (d), .int .i64 (c + 1), .int .i64 (1 + v % 8)] 39) none
          have GG := g5.trans gn
          have P5 := P4.kept gn
          have CC := Lib.hid (C4.kept gn)
          have SS := Lib.hid (S4.kept gn)
          have y1 := P5.c1
          clear C4 P4 S4 g5 g4 S C P NW
          have a0 := SS.out.c0
          have a1 := SS.out.c1
          have a2 := SS.out.c2
          have b0 := T.c0
          have b1 := T.c1
          have b2 := T.c2
          go_wp2_with fail
          all_goals
            refine (L1.out _).mono ?_
            rintro e w6 ⟨rfl, g6⟩
            have GG := GG.trans g6
            have CC := Lib.hid (CC.out.kept g6)
            have SS := Lib.hid (SS.out.kept g6)
            have T := T.kept g6
            have P5 := P5.kept g6
            have y1 := P5.c1
            have a0 := SS.out.c0
            have a1 := SS.out.c1
            have a2 := SS.out.c2
            have b0 := T.c0
            have b1 := T.c1
            have b2 := T.c2
            go_wp2_with fail
            refine (L2.out _).mono ?_
            rintro e w7 ⟨rfl, g7⟩
            have GG := GG.trans g7
            have CC := Lib.hid (CC.out.kept g7)
            have SS := SS.out.kept g7
            have T := T.kept g7
            have P5 := P5.kept g7
            have y1 := P5.c1
            have a0 := SS.c0
            have a1 := SS.c1
            have a2 := SS.c2
            have af := SS.fz
            have al := SS.lt
            have b0 := T.c0
            have b1 := T.c1
            have b2 := T.c2
            have SS := Lib.hid SS
            clear T P5 g6 g7
            go_wp2_with fail
            go_roundw
            case rel => exact ⟨k + 1, _, d, c + 1, 1 + v % 8, rfl, by go_num, by omega, by omega, ⟨by omega, by omega, by omega, by omega, by omega, by omega, by omega⟩, ((CC.out.far hnb.symm).far hnb.symm).far hnb.symm, SS.out.set _ _ _, grown_set (grown_set (grown_set GG (.inl hll)) (.inl hll)) (.inl hll)⟩
            case measure => simp [intOf]; omega
      · go_wp2_with fail
        refine (SM.out _).mono ?_
        rintro e w2 ⟨rfl, g2⟩
        clear x0 x1 x2 x3 x4 SM
        have P := S5.new w2 true o p q r
        have gn := World.grownBy_alloc w2 (.cells #[.bool true, .int .i64 o, .int .i64 p, .int .i64 q, .int .i64 r] 41) none
        have g3 := (g.trans g2).trans gn
        have hcl := (C.kept g2).lt
        have C := (C.kept g2).kept gn
        have S := (S.kept g2).kept gn
        have y1 := P.c1
        have y2 := P.c2
        have y3 := P.c3
        have y4 := P.c4
        go_wp2_with fail
        generalize w2.alloc (.cells #[.bool true, .int .i64 o, .int .i64 p, .int .i64 q, .int .i64 r] 41) = w3 at *
        clear g g2 gn y1 y2 y3 y4
        have hp := P.lt
        have R2 := Lib.hid R.up
        obtain ⟨⟨er, d', c', s'⟩, hN⟩ : ∃ t, hearR d c s p q r o = t := ⟨_, rfl⟩
        have NW := Lib.hid (hear_k _ _ _ _ _ _ _ _ _ _ _ _ _ w3 C R.z hN)
        have c1 := R.c1
        have c2 := R.c2
        have L := Lib.hid (less_k d c s p q r)
        rcases hear_cases hN with ⟨he, rfl, rfl, rfl⟩ | ⟨rfl, b1, b2, b3, b4, b5, hl⟩
        · clear hN R
          refine NW.out.mono ?_
          rintro e w4 ⟨rfl, C4, g4⟩
          have S4 := Lib.hid (S.keptR g4 (by simp))
          have C4 := Lib.hid C4
          have g5 := g3.andThen g4 (by rintro j ⟨⟩; exact .inl hbl)
          clear g4 S C P NW L
          go_wp2_with fail
          go_roundw
          case rel => exact ⟨k + 1, day, d', c', s', rfl, by go_num, by omega, by omega, R2.out, C4.out, S4.out, g5⟩
          case measure => simp [intOf]; omega
        · clear hN R
          refine NW.out.mono ?_
          rintro e w4 ⟨rfl, C4, g4⟩
          have P4 := P.keptR g4 (by simp; omega)
          have S4 := S.keptR g4 (by simp)
          have g5 := g3.andThen g4 (by rintro j ⟨⟩; exact .inl hbl)
          have y1 := P4.c1
          have y2 := P4.c2
          have y3 := P4.c3
          have y4 := P4.c4
          have a0 := S4.c0
          have a1 := S4.c1
          have a2 := S4.c2
          have C4 := Lib.hid C4
          clear g4 S C P NW
          rcases hl with ⟨hl, rfl, rfl, rfl⟩ | ⟨hl, rfl, rfl, rfl⟩
          · rw [hl] at L
            clear hl
            go_wp2_with fail
            all_goals
              refine (L.out _).mono ?_
              rintro e w6 ⟨rfl, g6⟩
              have GG := g5.trans g6
              have CC := Lib.hid (C4.out.kept g6)
              have SS := S4.kept g6
              have P5 := P4.kept g6
              have y2 := P5.c2
              have y3 := P5.c3
              have y4 := P5.c4
              have a0 := SS.c0
              have a1 := SS.c1
              have a2 := SS.c2
              have af := SS.fz
              have al := SS.lt
              have SS := Lib.hid SS
              clear P5 g6
              go_wp2_with fail
              go_roundw
              case rel => exact ⟨k + 1, _, _, _, _, rfl, by go_num, by omega, by omega, ⟨by omega, by omega, by omega, by omega, by omega, by omega, by omega⟩, ((CC.out.far hnb.symm).far hnb.symm).far hnb.symm, SS.out.set _ _ _, grown_set (grown_set (grown_set GG (.inl hll)) (.inl hll)) (.inl hll)⟩
              case measure => simp [intOf]; omega
          · rw [hl] at L
            clear hl
            have hz := R2.out.z
            go_wp2_with fail
            all_goals
              refine (L.out _).mono ?_
              rintro e w6 ⟨rfl, g6⟩
              have GG := g5.trans g6
              have CC := Lib.hid (C4.out.kept g6)
              have SS := Lib.hid (S4.kept g6)
              clear g6
              go_wp2_with fail
              go_roundw
              case rel => exact ⟨k + 1, _, _, _, _, rfl, by go_num, by omega, by omega, ⟨hz, by omega, by omega, by omega, by omega, by omega, by omega⟩, CC.out, SS.out, GG⟩
              case measure => simp [intOf]; omega
    · have hge : n ≤ k ∨ 30 ≤ k := by omega
      clear hlt
      by_cases hkn : k < n
      · have hk3 : k = 30 := by omega
        subst hk3
        go_wp2_with fail
        go_ret
        exact ⟨rfl, g⟩
      · go_wp2_with fail
        go_ret
        exact ⟨rfl, g⟩
end Go.Proofs.Ytgfifpbmjkjnpaa
