/-
  The reference's Same and Clash.
-/
import Derived.Test.YtnkemoicgadefaaRmt
namespace Go.Proofs.Ytnkemoicgadefaa
open Go.RowKit
attribute [local go_sem] get_mk extract_mk
set_option maxRecDepth 100000 in
set_option maxHeartbeats 2000000 in
/-- two offers that read as the same one -/
theorem same_r (u v : V) (o : O) (w : World) (hu : VIs w u o) (hv : VIs w v o) :
    Calls Try.prog 22 #[.agg u.cells, .agg v.cells] w fun e w' => e = .returned (.bool true) ∧ w.grownBy w' none := by
  obtain ⟨uc, ur, up, uA, un, ud, xA, xn, xd⟩ := u
  obtain ⟨vc, vr, vp, sA, sn, sd, nA, nn, nd⟩ := v
  obtain ⟨rfl, rfl, rfl, _, us, ux, _⟩ := hu
  obtain ⟨h1, h2, h3, _, vs, vx, _⟩ := hv
  dsimp only at h1 h2 h3 us ux vs vx
  subst h1 h2 h3
  simp only [V.cells]
  obtain ⟨w1, e1, HP, g1⟩ := row_of w 35 #[.string ⟨o.code.toArray⟩, .int .i64 o.cr, .int .i64 o.pl, .slice uA un ud, .slice xA xn xd]
  obtain ⟨w2, e2, HR, g2⟩ := row_of w1 35 #[.string ⟨o.code.toArray⟩, .int .i64 o.cr, .int .i64 o.pl, .slice sA sn sd, .slice nA nn nd]
  have s1 : w1.heap.size = w.heap.size + 1 := by rw [e1]; simp
  rw [s1] at HR
  replace HP := HP.kept g2
  have G := Lib.hid (g1.trans g2)
  have E1 := Lib.hid e1
  have E2 := Lib.hid e2
  have SU := Lib.hid us
  have SX := Lib.hid ux
  have TV := Lib.hid vs
  have TX := Lib.hid vx
  clear e1 e2 g1 g2 s1 us ux vs vx
  go_enter Try.func22, Try.ntmps22
  go_upto_region 1 with fail
  rw [← E1.out, ← E2.out]
  clear E1 E2
  generalize w.heap.size + 1 = R at *
  generalize w.heap.size = P at *
  have HP1 := Lib.hid HP
  have HR1 := Lib.hid HR
  have c0 := HP.c 0 rfl
  have c1 := HP.c 1 rfl
  have c2 := HP.c 2 rfl
  have c3 := HP.c 3 rfl
  have c4 := HP.c 4 rfl
  have d0 := HR.c 0 rfl
  have d1 := HR.c 1 rfl
  have d2 := HR.c 2 rfl
  have d3 := HR.c 3 rfl
  have d4 := HR.c 4 rfl
  clear HP HR
  go_wp2_with fail
  refine (sameI_r _ _ _ _ _ _ _ _ _ (SU.out.kept G.out) (TV.out.kept G.out)).mono ?_
  rintro e w3 ⟨rfl, g3⟩
  rw [decide_eq_true rfl]
  have HP := HP1.out.kept g3
  have HR := HR1.out.kept g3
  have G3 := Lib.hid (G.out.trans g3)
  have g3h := Lib.hid g3
  clear g3 c0 c1 c2 c3 c4 d0 d1 d2 d3 d4
  have c0 := HP.c 0 rfl
  have c1 := HP.c 1 rfl
  have c2 := HP.c 2 rfl
  have c3 := HP.c 3 rfl
  have c4 := HP.c 4 rfl
  have d0 := HR.c 0 rfl
  have d1 := HR.c 1 rfl
  have d2 := HR.c 2 rfl
  have d3 := HR.c 3 rfl
  have d4 := HR.c 4 rfl
  clear HP HR
  go_wp2_with fail
  refine (sameT_r _ _ _ _ _ _ _ _ _ (SX.out.kept G3.out) (TX.out.kept G3.out)).mono ?_
  rintro e w4 ⟨rfl, g4⟩
  rw [decide_eq_true rfl]
  have HP := HP1.out.kept (g3h.out.trans g4)
  have HR := HR1.out.kept (g3h.out.trans g4)
  have G4 := Lib.hid (G3.out.trans g4)
  clear g4 c0 c1 c2 c3 c4 d0 d1 d2 d3 d4
  have c0 := HP.c 0 rfl
  have c1 := HP.c 1 rfl
  have c2 := HP.c 2 rfl
  have c3 := HP.c 3 rfl
  have c4 := HP.c 4 rfl
  have d0 := HR.c 0 rfl
  have d1 := HR.c 1 rfl
  have d2 := HR.c 2 rfl
  have d3 := HR.c 3 rfl
  have d4 := HR.c 4 rfl
  clear HP HR
  go_wp2_with fail
  go_ret
  exact ⟨rfl, G4.out⟩
set_option maxRecDepth 100000 in
set_option maxHeartbeats 2000000 in
theorem clash_r (u v : V) (a b : List Int) (w : World) (ha : Ints w u.sA u.sn u.sc a) (hb : Ints w v.sA v.sn v.sc b) : Calls Try.prog 28 #[.agg u.cells, .agg v.cells] w fun e w' => e = .returned (.bool (b.any fun n => decide (n ∈ a))) ∧ w.grownBy w' none := by
  obtain ⟨uc, ur, up, uA, un, ud, xA, xn, xd⟩ := u
  obtain ⟨vc, vr, vp, sA, sn, sd, nA, nn, nd⟩ := v
  dsimp only at ha hb
  simp only [V.cells]
  have hle := ha.v.le
  have hcap := ha.v.cap
  have hle2 := hb.v.le
  have hcap2 := hb.v.cap
  have HN := Lib.hid ha.len
  have HM := Lib.hid hb.len
  obtain ⟨w1, e1, HP, g1⟩ := row_of w 35 #[.string ⟨uc.toArray⟩, .int .i64 ur, .int .i64 up, .slice uA un ud, .slice xA xn xd]
  obtain ⟨w2, e2, HR, g2⟩ := row_of w1 35 #[.string ⟨vc.toArray⟩, .int .i64 vr, .int .i64 vp, .slice sA sn sd, .slice nA nn nd]
  have s1 : w1.heap.size = w.heap.size + 1 := by rw [e1]; simp
  rw [s1] at HR
  have HPh := Lib.hid (HP.kept g2)
  have HRh := Lib.hid HR
  have G := Lib.hid (g1.trans g2)
  have HA := Lib.hid (fun W (g : w2.grownBy W none) => ha.kept (G.out.trans g))
  have HB := Lib.hid (fun W (g : w2.grownBy W none) => hb.kept (G.out.trans g))
  have E1 := Lib.hid e1
  have E2 := Lib.hid e2
  clear e1 e2 g1 g2 s1 ha hb HP HR
  go_enter Try.func28, Try.ntmps28
  go_upto_region 1 with fail
  rw [← E1.out, ← E2.out]
  clear E1 E2
  generalize w.heap.size + 1 = R at *
  generalize w.heap.size = P at *
  go_wp2_with fail
  go_loopw [5] (fun z wr => ∃ k : Nat, k ≤ un ∧ z = .int .i64 (k : Int) ∧ Hid (∀ x ∈ a.take k, x ∉ b) ∧ Hid (w2.grownBy wr none)) (fun z _ => un - (intOf z).toNat)
  case atStart => exact ⟨0, Nat.zero_le _, rfl, Lib.hid (by simp), Lib.hid (grown_refl _)⟩
  case round =>
    obtain ⟨k, hk, rfl, HT, HG⟩ := hrel
    have cp := (HPh.out.kept HG.out).c 3 rfl
    have cr := (HRh.out.kept HG.out).c 3 rfl
    by_cases hlt : k < un
    · obtain ⟨ad, x, hx, _, rfl, _, cx⟩ := (HA.out _ HG.out).at k hlt
      have HX := Lib.hid hx
      have k1 : (0 : Int) ≤ (k : Int) := by omega
      have k2 : (k : Int) < (un : Int) := by omega
      have k3 : decide ((k : Int) < (un : Int)) = true := decide_eq_true k2
      have k5 : IntKind.i64.wrap (k : Int) = (k : Int) := by rw [IntKind.wrap_i64]; omega
      have k6 : IntKind.i64.wrap ((k : Int) + 1) = (k : Int) + 1 := by rw [IntKind.wrap_i64]; omega
      clear hx cx
      go_wp2_with fail
      clear cp cr
      go_loopw [6] (fun z wr => ∃ i : Nat, i ≤ sn ∧ z = .int .i64 (i : Int) ∧ Hid (x ∉ b.take i) ∧ Hid (w2.grownBy wr none)) (fun z _ => sn - (intOf z).toNat)
      case atStart => exact ⟨0, Nat.zero_le _, rfl, Lib.hid (by simp), HG⟩
      case round =>
        clear HG
        obtain ⟨i, hi, rfl, HI, HG⟩ := hrel
        have cp := (HPh.out.kept HG.out).c 3 rfl
        have cr := (HRh.out.kept HG.out).c 3 rfl
        by_cases hl2 : i < sn
        · obtain ⟨ad2, x2, hx2, _, e2, _, cx⟩ := (HA.out _ HG.out).at k hlt
          obtain rfl := Option.some.inj e2
          rw [HX.out] at hx2
          obtain rfl := Option.some.inj hx2
          obtain ⟨bd, y, hy, _, rfl, _, cy⟩ := (HB.out _ HG.out).at i hl2
          have HY := Lib.hid hy
          have j1 : (0 : Int) ≤ (i : Int) := by omega
          have j2 : (i : Int) < (sn : Int) := by omega
          have j5 : IntKind.i64.wrap (i : Int) = (i : Int) := by rw [IntKind.wrap_i64]; omega
          have j6 : IntKind.i64.wrap ((i : Int) + 1) = (i : Int) + 1 := by rw [IntKind.wrap_i64]; omega
          clear hx2 hy e2
          by_cases hxy : x = y
          · subst hxy
            have HQ : Hid ((b.any fun n => decide (n ∈ a)) = true) := Lib.hid (List.any_eq_true.2 ⟨x, List.mem_of_getElem? HY.out, decide_eq_true (List.mem_of_getElem? HX.out)⟩)
            clear HT HI HX HY HN HM
            go_wp2_with fail
            go_region
            go_wp2_with fail
            go_ret
            exact ⟨by rw [HQ.out]; rfl, G.out.trans (grown_dr HG.out)⟩
          · have HI2 : Hid (x ∉ b.take (i + 1)) := Lib.hid (by
              rw [take_snoc HY.out]
              intro hm
              rcases List.mem_append.1 hm with hm | hm
              · exact HI.out hm
              · exact hxy (List.mem_singleton.1 hm))
            have q1 : (x == y) = false := by simpa using hxy
            clear HI HY hxy
            go_wp2_with fail
            go_region
            go_wp2_with fail
            go_roundw
            case rel => exact ⟨i + 1, by omega, by go_num, HI2, Lib.hid (grown_dr HG.out)⟩
            case measure => simp [intOf]; omega
        · have HT2 : Hid (∀ x ∈ a.take (k + 1), x ∉ b) := Lib.hid (by
            rw [take_snoc HX.out]
            intro z hz
            rcases List.mem_append.1 hz with hz | hz
            · exact HT.out z hz
            · rw [List.mem_singleton.1 hz]
              have := HI.out
              rwa [List.take_of_length_le (by have := HM.out; omega)] at this)
          have j3 : decide ((i : Int) < (sn : Int)) = false := decide_eq_false (by omega)
          clear HI HX HT
          go_wp2_with fail
          go_roundw
          case rel => exact ⟨k + 1, by omega, by go_num, HT2, HG⟩
          case measure => simp [intOf]; omega
    · obtain rfl : un = k := by omega
      have HQ : Hid ((b.any fun n => decide (n ∈ a)) = false) := Lib.hid (by
        rw [Bool.eq_false_iff]
        intro h
        obtain ⟨x, h1, h2⟩ := List.any_eq_true.1 h
        have := HT.out x (by rw [HN.out, List.take_length]; exact of_decide_eq_true h2)
        exact this h1)
      clear HT HN HM
      go_wp2_with fail
      go_ret
      exact ⟨by rw [HQ.out]; rfl, G.out.trans HG.out⟩
end Go.Proofs.Ytnkemoicgadefaa
