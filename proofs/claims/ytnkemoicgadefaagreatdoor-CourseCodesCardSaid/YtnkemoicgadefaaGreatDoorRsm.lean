/-
  The reference's Same and Clash.
-/
import Derived.Test.YtnkemoicgadefaaGreatDoorRfb
namespace Go.Proofs.YtnkemoicgadefaaGreatDoor
open Go.RowKit
attribute [local go_sem] get_mk extract_mk
set_option maxRecDepth 100000 in
set_option maxHeartbeats 2000000 in
/-- two offers that read as the same one -/
theorem same_r (u v : V) (o : O) (w : World) (hu : VIs w u o) (hv : VIs w v o) :
    Calls Tryz.prog 39 #[.agg u.cells, .agg v.cells] w fun e w' => e = .returned (.bool true) ∧ w.grownBy w' none := by
  obtain ⟨uc, ur, up, uA, un, ud, xA, xn, xd⟩ := u
  obtain ⟨vc, vr, vp, sA, sn, sd, nA, nn, nd⟩ := v
  obtain ⟨rfl, rfl, rfl, _, us, ux, _⟩ := hu
  obtain ⟨h1, h2, h3, _, vs, vx, _⟩ := hv
  dsimp only at h1 h2 h3 us ux vs vx
  subst h1 h2 h3
  simp only [V.cells]
  obtain ⟨w1, e1, HP, g1⟩ := row_of w 41 #[.string ⟨o.code.toArray⟩, .int .i64 o.cr, .int .i64 o.pl, .slice uA un ud, .slice xA xn xd]
  obtain ⟨w2, e2, HR, g2⟩ := row_of w1 41 #[.string ⟨o.code.toArray⟩, .int .i64 o.cr, .int .i64 o.pl, .slice sA sn sd, .slice nA nn nd]
  have s1 : w1.heap.size = w.heap.size + 1 := by rw [e1]; simp
  rw [s1] at HR
  replace HP := HP.kept g2
  have G := Lib.hid (g1.trans g2)
  have E1 := Lib.hid e1
  have E2 := Lib.hid e2
  have SU := Lib.hid us
  have SX := Lib.hid ux
  have TV := Lib.hid vs
  have TX := Lib.hid vx
  clear e1 e2 g1 g2 s1 us ux vs vx
  go_enter Tryz.func39, Tryz.ntmps39
  go_upto_region 1 with fail
  rw [← E1.out, ← E2.out]
  clear E1 E2
  generalize w.heap.size + 1 = R at *
  generalize w.heap.size = P at *
  have HP1 := Lib.hid HP
  have HR1 := Lib.hid HR
  have c0 := HP.c 0 rfl
  have c1 := HP.c 1 rfl
  have c2 := HP.c 2 rfl
  have c3 := HP.c 3 rfl
  have c4 := HP.c 4 rfl
  have d0 := HR.c 0 rfl
  have d1 := HR.c 1 rfl
  have d2 := HR.c 2 rfl
  have d3 := HR.c 3 rfl
  have d4 := HR.c 4 rfl
  clear HP HR
  go_wp2_with fail
  refine (sameI_r _ _ _ _ _ _ _ _ _ (SU.out.kept G.out) (TV.out.kept G.out)).mono ?_
  rintro e w3 ⟨rfl, g3⟩
  rw [decide_eq_true rfl]
  have HP := HP1.out.kept g3
  have HR := HR1.out.kept g3
  have G3 := Lib.hid (G.out.trans g3)
  have g3h := Lib.hid g3
  clear g3 c0 c1 c2 c3 c4 d0 d1 d2 d3 d4
  have c0 := HP.c 0 rfl
  have c1 := HP.c 1 rfl
  have c2 := HP.c 2 rfl
  have c3 := HP.c 3 rfl
  have c4 := HP.c 4 rfl
  have d0 := HR.c 0 rfl
  have d1 := HR.c 1 rfl
  have d2 := HR.c 2 rfl
  have d3 := HR.c 3 rfl
  have d4 := HR.c 4 rfl
  clear HP HR
  go_wp2_with fail
  refine (sameT_r _ _ _ _ _ _ _ _ _ (SX.out.kept G3.out) (TX.out.kept G3.out)).mono ?_
  rintro e w4 ⟨rfl, g4⟩
  rw [decide_eq_true rfl]
  have HP := HP1.out.kept (g3h.out.trans g4)
  have HR := HR1.out.kept (g3h.out.trans g4)
  have G4 := Lib.hid (G3.out.trans g4)
  clear g4 c0 c1 c2 c3 c4 d0 d1 d2 d3 d4
  have c0 := HP.c 0 rfl
  have c1 := HP.c 1 rfl
  have c2 := HP.c 2 rfl
  have c3 := HP.c 3 rfl
  have c4 := HP.c 4 rfl
  have d0 := HR.c 0 rfl
  have d1 := HR.c 1 rfl
  have d2 := HR.c 2 rfl
  have d3 := HR.c 3 rfl
  have d4 := HR.c 4 rfl
  clear HP HR
  go_wp2_with fail
  go_ret
  exact ⟨rfl, G4.out⟩
end Go.Proofs.YtnkemoicgadefaaGreatDoor
