/-
  The reference's Round, whatever it is given.
-/
import Derived.Test.YtekhdcfnpgkodaaDoorRndR
namespace Go.Proofs.YtekhdcfnpgkodaaDoor
open Go.RowKit
set_option maxRecDepth 100000 in
theorem roundr_na (n d how : Int) (hn : i64 n) (hd : i64 d) (hr : rightB n d = false) (w : World) :
    Calls Tryd.prog 23 #[.agg #[.int .i64 n, .int .i64 d], .int .i64 how] w fun e w' => e = .returned (.tuple #[.int .i64 0, .int .i64 1]) ∧ w.grownBy w' none := by
  have Kr := Lib.hid (right_r n d hn hd)
  rw [hr] at Kr
  clear hr
  have gg := World.grownBy_alloc w (.cells #[.int .i64 n, .int .i64 d] 24) none
  go_enter Tryd.func23, Tryd.ntmps23
  go_wp2_with fail
  refine (Kr.out _).mono ?_
  rintro e w1 ⟨rfl, g⟩
  have gg := gg.trans g
  clear g Kr
  go_wp2_with fail
  go_ret2
  exact ⟨rfl, gg⟩
set_option maxRecDepth 100000 in
theorem roundr_nb (n d how : Int) (hn : i64 n) (hd : i64 d) (hr : rightB n d = true) (h1 : how < 1) (w : World) :
    Calls Tryd.prog 23 #[.agg #[.int .i64 n, .int .i64 d], .int .i64 how] w fun e w' => e = .returned (.tuple #[.int .i64 0, .int .i64 1]) ∧ w.grownBy w' none := by
  have Kr := Lib.hid (right_r n d hn hd)
  rw [hr] at Kr
  clear hr
  have gg := World.grownBy_alloc w (.cells #[.int .i64 n, .int .i64 d] 24) none
  go_enter Tryd.func23, Tryd.ntmps23
  go_wp2_with fail
  refine (Kr.out _).mono ?_
  rintro e w1 ⟨rfl, g⟩
  have gg := gg.trans g
  clear g Kr
  go_wp2_with fail
  go_ret2
  exact ⟨rfl, gg⟩
set_option maxRecDepth 100000 in
theorem roundr_nc (n d how : Int) (hn : i64 n) (hd : i64 d) (hr : rightB n d = true) (h1 : 4 < how) (w : World) :
    Calls Tryd.prog 23 #[.agg #[.int .i64 n, .int .i64 d], .int .i64 how] w fun e w' => e = .returned (.tuple #[.int .i64 0, .int .i64 1]) ∧ w.grownBy w' none := by
  have Kr := Lib.hid (right_r n d hn hd)
  rw [hr] at Kr
  clear hr
  have gg := World.grownBy_alloc w (.cells #[.int .i64 n, .int .i64 d] 24) none
  have h2 : ¬ how < 1 := by omega
  go_enter Tryd.func23, Tryd.ntmps23
  go_wp2_with fail
  refine (Kr.out _).mono ?_
  rintro e w1 ⟨rfl, g⟩
  have gg := gg.trans g
  clear g Kr
  go_wp2_with fail
  go_ret2
  exact ⟨rfl, gg⟩
theorem round_r (n d how : Int) (hn : i64 n) (hd : i64 d) (w : World) :
    Calls Tryd.prog 23 #[.agg #[.int .i64 n, .int .i64 d], .int .i64 how] w fun e w' => e = .returned (.tuple #[.int .i64 (rndV n d how), .int .i64 (rndE n d how)]) ∧ w.grownBy w' none := by
  cases hr : rightB n d with
  | false =>
    have e1 : rndV n d how = 0 := by unfold rndV; simp [hr]
    have e2 : rndE n d how = 1 := by unfold rndE; simp [hr]
    rw [e1, e2]; exact roundr_na n d how hn hd hr w
  | true =>
    rcases Int.lt_or_le how 1 with h1 | h1
    · have e1 : rndV n d how = 0 := by unfold rndV; simp [hr, show ¬ 1 ≤ how by omega]
      have e2 : rndE n d how = 1 := by unfold rndE; simp [hr, show ¬ 1 ≤ how by omega]
      rw [e1, e2]; exact roundr_nb n d how hn hd hr h1 w
    · rcases Int.lt_or_le 4 how with h4 | h4
      · have e1 : rndV n d how = 0 := by unfold rndV; simp [hr, show ¬ how ≤ 4 by omega]
        have e2 : rndE n d how = 1 := by unfold rndE; simp [hr, show ¬ how ≤ 4 by omega]
        rw [e1, e2]; exact roundr_nc n d how hn hd hr h4 w
      · have e1 : rndV n d how = rndQ how n d := by unfold rndV; simp [hr, h1, h4]
        have e2 : rndE n d how = 0 := by unfold rndE; simp [hr, h1, h4]
        rw [e1, e2]
        rcases (show how = 1 ∨ how = 2 ∨ how = 3 ∨ how = 4 by omega) with rfl | rfl | rfl | rfl
        all_goals
          rcases Int.lt_or_le (n.tmod d) 0 with hs | hs
          · first
            | exact roundr_1n n d _ hn hd hr hs rfl w
            | exact roundr_2n n d _ hn hd hr hs rfl w
            | exact roundr_3n n d _ hn hd hr hs rfl w
            | exact roundr_4n n d _ hn hd hr hs rfl w
          · first
            | exact roundr_1p n d _ hn hd hr hs rfl w
            | exact roundr_2p n d _ hn hd hr hs rfl w
            | exact roundr_3p n d _ hn hd hr hs rfl w
            | exact roundr_4p n d _ hn hd hr hs rfl w
end Go.Proofs.YtekhdcfnpgkodaaDoor
