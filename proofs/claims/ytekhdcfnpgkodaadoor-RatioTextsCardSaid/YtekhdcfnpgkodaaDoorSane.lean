/-
  The laws' sanity, by its contract.
-/
import Derived.Test.YtekhdcfnpgkodaaDoorParse
import Derived.Test.YtekhdcfnpgkodaaDoorSub
import Derived.Test.YtekhdcfnpgkodaaDoorRndK
namespace Go.Proofs.YtekhdcfnpgkodaaDoor
open Go.RowKit
set_option maxRecDepth 100000 in
theorem of_yes_k (n d u l er : Int) (hn : i64 n) (hd : i64 d) (h1 : ofN n d = u) (h2 : ofD n d = l) (h3 : ofE n d = er) (w : World) :
    Calls Tryd.prog 28 #[.int .i64 n, .int .i64 d, .int .i64 u, .int .i64 l, .int .i64 er] w fun e w' => e = .returned (.bool true) ∧ w.grownBy w' none := by
  have K := Lib.hid (of_k n d hn hd)
  rw [h1, h2, h3] at K
  clear h1 h2 h3
  go_enter Tryd.func28, Tryd.ntmps28
  go_wp2_with fail
  refine (K.out _).mono ?_
  rintro e w1 ⟨rfl, g⟩
  go_wp2_with fail
  go_ret
  exact ⟨rfl, grown_al g⟩
set_option maxRecDepth 100000 in
theorem rounds_k (n d : Int) (ts : List Int) (hl : ts.length = 4) (B c : Nat) (hn : i64 n) (hd : i64 d) (hv : ∀ (k : Nat) (h : k < ts.length), rndV n d ((k : Int) + 1) = ts[k] ∧ rndE n d ((k : Int) + 1) = 0) (w : World)
    (hc : ∀ i (h : i < ts.length), w.cell? ⟨B, i, none⟩ = some (.int .i64 ts[i])) :
    Calls Tryd.prog 29 #[.agg #[.int .i64 n, .int .i64 d], .slice (some ⟨B, 0, none⟩) ts.length c] w fun e w' => e = .returned (.bool true) ∧ w.grownBy w' none := by
  have R := R2.new w n d
  have gg := World.grownBy_alloc w (.cells #[.int .i64 n, .int .i64 d] 24) none
  have HC := Lib.hid hc
  have HV := Lib.hid hv
  have HL := Lib.hid hl
  have hl4 : ts.length ≤ 4 := by omega
  have K := Lib.hid (fun how => round_k n d how hn hd)
  clear hc hv hl
  obtain ⟨b, hb⟩ : ∃ b, b = w.heap.size := ⟨_, rfl⟩
  have HBs := Lib.hid hb
  go_enter Tryd.func29, Tryd.ntmps29
  go_wp2_with fail
  rw [← hb] at R ⊢
  clear hb
  generalize w.alloc (.cells #[.int .i64 n, .int .i64 d] 24) = wi at *
  go_loopw [11] (fun i wr => ∃ k : Nat, k ≤ ts.length ∧ i = .int .i64 k ∧ R2 wr b n d ∧ w.grownBy wr none) (fun i _ => ts.length - (intOf i).toNat)
  case atStart => exact ⟨0, Nat.zero_le _, rfl, R, gg⟩
  case round =>
    clear R gg
    obtain ⟨k, hk, rfl, R, gg⟩ := hrel
    by_cases hlt : k < ts.length
    · have cl := gcell gg (HC.out k hlt)
      obtain ⟨v1, v2⟩ := HV.out k hlt
      have K1 := Lib.hid (K.out ((k : Int) + 1))
      rw [v1, v2] at K1
      clear v1 v2 K HV
      generalize ts[k] = x at *
      have c0 := R.c0
      have c1 := R.c1
      go_wp2_with fail
      refine (K1.out _).mono ?_
      rintro e w1 ⟨rfl, g⟩
      have R := R.kept g
      have gg := gg.trans g
      clear c0 c1 cl g
      go_wp2_with fail
      go_roundw
      case rel => exact ⟨k + 1, by omega, by go_num, R, gg⟩
      case measure => simp [intOf]; omega
    · go_wp2_with fail
      go_ret
      exact ⟨rfl, gg⟩
theorem s_of1 (w : World) : Calls Tryd.prog 28 #[.int .i64 6, .int .i64 (-4), .int .i64 (-3), .int .i64 2, .int .i64 0] w fun e w' => e = .returned (.bool true) ∧ w.grownBy w' none :=
  of_yes_k 6 (-4) (-3) 2 0 ⟨by decide, by decide⟩ ⟨by decide, by decide⟩ (by decide +kernel) (by decide +kernel) (by decide +kernel) w
theorem s_of2 (w : World) : Calls Tryd.prog 28 #[.int .i64 0, .int .i64 7, .int .i64 0, .int .i64 1, .int .i64 0] w fun e w' => e = .returned (.bool true) ∧ w.grownBy w' none :=
  of_yes_k 0 7 0 1 0 ⟨by decide, by decide⟩ ⟨by decide, by decide⟩ (by decide +kernel) (by decide +kernel) (by decide +kernel) w
theorem s_of3 (w : World) : Calls Tryd.prog 28 #[.int .i64 1, .int .i64 0, .int .i64 0, .int .i64 0, .int .i64 1] w fun e w' => e = .returned (.bool true) ∧ w.grownBy w' none :=
  of_yes_k 1 0 0 0 1 ⟨by decide, by decide⟩ ⟨by decide, by decide⟩ (by decide +kernel) (by decide +kernel) (by decide +kernel) w
theorem s_of4 (w : World) : Calls Tryd.prog 28 #[.int .i64 2147483648, .int .i64 1, .int .i64 0, .int .i64 0, .int .i64 3] w fun e w' => e = .returned (.bool true) ∧ w.grownBy w' none :=
  of_yes_k 2147483648 1 0 0 3 ⟨by decide, by decide⟩ ⟨by decide, by decide⟩ (by decide +kernel) (by decide +kernel) (by decide +kernel) w
theorem s_of5 (w : World) : Calls Tryd.prog 28 #[.int .i64 2147483648, .int .i64 2, .int .i64 1073741824, .int .i64 1, .int .i64 0] w fun e w' => e = .returned (.bool true) ∧ w.grownBy w' none :=
  of_yes_k 2147483648 2 1073741824 1 0 ⟨by decide, by decide⟩ ⟨by decide, by decide⟩ (by decide +kernel) (by decide +kernel) (by decide +kernel) w
theorem s_add (w : World) : Calls Tryd.prog 13 #[.agg #[.int .i64 1, .int .i64 2], .agg #[.int .i64 1, .int .i64 3]] w fun e w' => e = .returned (.tuple #[.agg #[.int .i64 5, .int .i64 6], .int .i64 0]) ∧ w.grownBy w' none :=
  add_at 1 2 1 3 5 6 0 ⟨by decide, by decide⟩ ⟨by decide, by decide⟩ ⟨by decide, by decide⟩ ⟨by decide, by decide⟩ w (by decide +kernel) (by decide +kernel) (by decide +kernel)
theorem s_mul (w : World) : Calls Tryd.prog 19 #[.agg #[.int .i64 1, .int .i64 2], .agg #[.int .i64 1, .int .i64 3]] w fun e w' => e = .returned (.tuple #[.agg #[.int .i64 1, .int .i64 6], .int .i64 0]) ∧ w.grownBy w' none :=
  mul_at 1 2 1 3 1 6 0 ⟨by decide, by decide⟩ ⟨by decide, by decide⟩ ⟨by decide, by decide⟩ ⟨by decide, by decide⟩ w (by decide +kernel) (by decide +kernel) (by decide +kernel)
theorem s_far (w : World) : Calls Tryd.prog 13 #[.agg #[.int .i64 1, .int .i64 1073741823], .agg #[.int .i64 1, .int .i64 2]] w fun e w' => e = .returned (.tuple #[.agg #[.int .i64 0, .int .i64 0], .int .i64 3]) ∧ w.grownBy w' none :=
  add_at 1 1073741823 1 2 0 0 3 ⟨by decide, by decide⟩ ⟨by decide, by decide⟩ ⟨by decide, by decide⟩ ⟨by decide, by decide⟩ w (by decide +kernel) (by decide +kernel) (by decide +kernel)
theorem s_sub (w : World) : Calls Tryd.prog 15 #[.agg #[.int .i64 1, .int .i64 2], .agg #[.int .i64 1, .int .i64 3]] w fun e w' => e = .returned (.tuple #[.agg #[.int .i64 1, .int .i64 6], .int .i64 0]) ∧ w.grownBy w' none := by
  have K := sub_k 1 2 1 3 ⟨by decide, by decide⟩ ⟨by decide, by decide⟩ ⟨by decide, by decide⟩ w
  rw [show addN 1 2 (wrap64 (-1)) 3 = 1 by decide +kernel, show addD 1 2 (wrap64 (-1)) 3 = 6 by decide +kernel, show addE 1 2 (wrap64 (-1)) 3 = 0 by decide +kernel] at K
  exact K
theorem s_rd1 (B c : Nat) (w : World) (h0 : w.cell? ⟨B, 0, none⟩ = some (.int .i64 (-3))) (h1 : w.cell? ⟨B, 1, none⟩ = some (.int .i64 (-2))) (h2 : w.cell? ⟨B, 2, none⟩ = some (.int .i64 (-2))) (h3 : w.cell? ⟨B, 3, none⟩ = some (.int .i64 (-2))) : Calls Tryd.prog 29 #[.agg #[.int .i64 (-5), .int .i64 2], .slice (some ⟨B, 0, none⟩) 4 c] w fun e w' => e = .returned (.bool true) ∧ w.grownBy w' none :=
  rounds_k (-5) 2 [(-3), (-2), (-2), (-2)] rfl B c ⟨by decide, by decide⟩ ⟨by decide, by decide⟩ (fun k h => by
    have h' : k < 4 := h
    rcases (show k = 0 ∨ k = 1 ∨ k = 2 ∨ k = 3 by omega) with rfl | rfl | rfl | rfl
    · exact ⟨show rndV (-5) 2 1 = (-3) by decide +kernel, show rndE (-5) 2 1 = 0 by decide +kernel⟩
    · exact ⟨show rndV (-5) 2 2 = (-2) by decide +kernel, show rndE (-5) 2 2 = 0 by decide +kernel⟩
    · exact ⟨show rndV (-5) 2 3 = (-2) by decide +kernel, show rndE (-5) 2 3 = 0 by decide +kernel⟩
    · exact ⟨show rndV (-5) 2 4 = (-2) by decide +kernel, show rndE (-5) 2 4 = 0 by decide +kernel⟩) w (fun i h => by
    have h' : i < 4 := h
    rcases (show i = 0 ∨ i = 1 ∨ i = 2 ∨ i = 3 by omega) with rfl | rfl | rfl | rfl
    · exact h0
    · exact h1
    · exact h2
    · exact h3)
theorem s_rd2 (B c : Nat) (w : World) (h0 : w.cell? ⟨B, 0, none⟩ = some (.int .i64 2)) (h1 : w.cell? ⟨B, 1, none⟩ = some (.int .i64 3)) (h2 : w.cell? ⟨B, 2, none⟩ = some (.int .i64 3)) (h3 : w.cell? ⟨B, 3, none⟩ = some (.int .i64 2)) : Calls Tryd.prog 29 #[.agg #[.int .i64 5, .int .i64 2], .slice (some ⟨B, 0, none⟩) 4 c] w fun e w' => e = .returned (.bool true) ∧ w.grownBy w' none :=
  rounds_k 5 2 [2, 3, 3, 2] rfl B c ⟨by decide, by decide⟩ ⟨by decide, by decide⟩ (fun k h => by
    have h' : k < 4 := h
    rcases (show k = 0 ∨ k = 1 ∨ k = 2 ∨ k = 3 by omega) with rfl | rfl | rfl | rfl
    · exact ⟨show rndV 5 2 1 = 2 by decide +kernel, show rndE 5 2 1 = 0 by decide +kernel⟩
    · exact ⟨show rndV 5 2 2 = 3 by decide +kernel, show rndE 5 2 2 = 0 by decide +kernel⟩
    · exact ⟨show rndV 5 2 3 = 3 by decide +kernel, show rndE 5 2 3 = 0 by decide +kernel⟩
    · exact ⟨show rndV 5 2 4 = 2 by decide +kernel, show rndE 5 2 4 = 0 by decide +kernel⟩) w (fun i h => by
    have h' : i < 4 := h
    rcases (show i = 0 ∨ i = 1 ∨ i = 2 ∨ i = 3 by omega) with rfl | rfl | rfl | rfl
    · exact h0
    · exact h1
    · exact h2
    · exact h3)
theorem s_par1 (w : World) (hb : Base w) : Calls Tryd.prog 25 #[.string ⟨#[52, 47, 50]⟩] w fun e w' => e = .returned (.tuple #[.agg #[.int .i64 0, .int .i64 0], .bool false]) ∧ w.grownBy w' none := by
  have K := parse_k [52, 47, 50] (by decide) w hb
  rw [show parN [52, 47, 50] = 0 by decide +kernel, show parD [52, 47, 50] = 0 by decide +kernel, show parB [52, 47, 50] = false by decide +kernel] at K
  exact K
theorem s_par2 (w : World) (hb : Base w) : Calls Tryd.prog 25 #[.string ⟨#[45, 55]⟩] w fun e w' => e = .returned (.tuple #[.agg #[.int .i64 (-7), .int .i64 1], .bool true]) ∧ w.grownBy w' none := by
  have K := parse_k [45, 55] (by decide) w hb
  rw [show parN [45, 55] = (-7) by decide +kernel, show parD [45, 55] = 1 by decide +kernel, show parB [45, 55] = true by decide +kernel] at K
  exact K
theorem s_tx1 (w : World) (hb : Base w) : Calls Tryd.prog 24 #[.agg #[.int .i64 (-3), .int .i64 2]] w fun e w' => e = .returned (.string ⟨#[45, 51, 47, 50]⟩) ∧ w.grownBy w' none := by
  have K := text_k (-3) 2 ⟨by decide, by decide⟩ ⟨by decide, by decide⟩ w hb
  rw [show textV (-3) 2 = [45, 51, 47, 50] by decide +kernel] at K
  exact K
theorem s_tx2 (w : World) (hb : Base w) : Calls Tryd.prog 24 #[.agg #[.int .i64 7, .int .i64 1]] w fun e w' => e = .returned (.string ⟨#[55]⟩) ∧ w.grownBy w' none := by
  have K := text_k 7 1 ⟨by decide, by decide⟩ ⟨by decide, by decide⟩ w hb
  rw [show textV 7 1 = [55] by decide +kernel] at K
  exact K
set_option maxRecDepth 100000 in
set_option maxHeartbeats 4000000 in
/-- quadriviumlaw04.sanity -/
theorem sane_k (w : World) (hb : Base w) : Calls Tryd.prog 9 #[] w fun e w' => e = .returned (.bool true) ∧ w.grownBy w' none := by
  obtain ⟨w0, hw0, Ra, Rb, gg, hsz⟩ := box2 w 1 2 1 3
  have H0 := Lib.hid hw0
  have HS := Lib.hid hsz
  have HB := Lib.hid hb
  clear hw0 hsz hb
  go_enter Tryd.func9, Tryd.ntmps9
  go_wp2_with fail
  rw [← H0.out]
  have Ra0 := Ra.c0
  have Ra1 := Ra.c1
  have Rb0 := Rb.c0
  have Rb1 := Rb.c1
  go_wp2_with fail
  refine (s_of1 _).mono ?_
  rintro e x1 ⟨rfl, g⟩
  clear Ra0 Ra1 Rb0 Rb1
  have Ra := Ra.kept g
  have Rb := Rb.kept g
  have gg := gg.trans g
  clear g
  have Ra0 := Ra.c0
  have Ra1 := Ra.c1
  have Rb0 := Rb.c0
  have Rb1 := Rb.c1
  go_wp2_with fail
  refine (s_of2 _).mono ?_
  rintro e x2 ⟨rfl, g⟩
  clear Ra0 Ra1 Rb0 Rb1
  have Ra := Ra.kept g
  have Rb := Rb.kept g
  have gg := gg.trans g
  clear g
  have Ra0 := Ra.c0
  have Ra1 := Ra.c1
  have Rb0 := Rb.c0
  have Rb1 := Rb.c1
  go_wp2_with fail
  refine (s_of3 _).mono ?_
  rintro e x3 ⟨rfl, g⟩
  clear Ra0 Ra1 Rb0 Rb1
  have Ra := Ra.kept g
  have Rb := Rb.kept g
  have gg := gg.trans g
  clear g
  have Ra0 := Ra.c0
  have Ra1 := Ra.c1
  have Rb0 := Rb.c0
  have Rb1 := Rb.c1
  go_wp2_with fail
  refine (s_of4 _).mono ?_
  rintro e x4 ⟨rfl, g⟩
  clear Ra0 Ra1 Rb0 Rb1
  have Ra := Ra.kept g
  have Rb := Rb.kept g
  have gg := gg.trans g
  clear g
  have Ra0 := Ra.c0
  have Ra1 := Ra.c1
  have Rb0 := Rb.c0
  have Rb1 := Rb.c1
  go_wp2_with fail
  refine (s_of5 _).mono ?_
  rintro e x5 ⟨rfl, g⟩
  clear Ra0 Ra1 Rb0 Rb1
  have Ra := Ra.kept g
  have Rb := Rb.kept g
  have gg := gg.trans g
  clear g
  have Ra0 := Ra.c0
  have Ra1 := Ra.c1
  have Rb0 := Rb.c0
  have Rb1 := Rb.c1
  go_wp2_with fail
  refine (s_add _).mono ?_
  rintro e x6 ⟨rfl, g⟩
  clear Ra0 Ra1 Rb0 Rb1
  have Ra := Ra.kept g
  have Rb := Rb.kept g
  have gg := gg.trans g
  clear g
  have Rc := R2.new x6 5 6
  have g := World.grownBy_alloc x6 (.cells #[.int .i64 5, .int .i64 6] 24) none
  have Ra := Ra.kept g
  have Rb := Rb.kept g
  have gg := gg.trans g
  clear g
  have Ra0 := Ra.c0
  have Ra1 := Ra.c1
  have Rb0 := Rb.c0
  have Rb1 := Rb.c1
  have Rc0 := Rc.c0
  have Rc1 := Rc.c1
  go_wp2_with fail
  refine (s_sub _).mono ?_
  rintro e x7 ⟨rfl, g⟩
  clear Ra0 Ra1 Rb0 Rb1 Rc0 Rc1
  have Ra := Ra.kept g
  have Rb := Rb.kept g
  have Rc := Rc.kept g
  have gg := gg.trans g
  clear g
  have Rd := R2.new x7 1 6
  have g := World.grownBy_alloc x7 (.cells #[.int .i64 1, .int .i64 6] 24) none
  have Ra := Ra.kept g
  have Rb := Rb.kept g
  have Rc := Rc.kept g
  have gg := gg.trans g
  clear g
  have Ra0 := Ra.c0
  have Ra1 := Ra.c1
  have Rb0 := Rb.c0
  have Rb1 := Rb.c1
  have Rc0 := Rc.c0
  have Rc1 := Rc.c1
  have Rd0 := Rd.c0
  have Rd1 := Rd.c1
  go_wp2_with fail
  refine (s_mul _).mono ?_
  rintro e x8 ⟨rfl, g⟩
  clear Ra0 Ra1 Rb0 Rb1 Rc0 Rc1 Rd0 Rd1
  have Ra := Ra.kept g
  have Rb := Rb.kept g
  have Rc := Rc.kept g
  have Rd := Rd.kept g
  have gg := gg.trans g
  clear g
  have Re := R2.new x8 1 6
  have g := World.grownBy_alloc x8 (.cells #[.int .i64 1, .int .i64 6] 24) none
  have Ra := Ra.kept g
  have Rb := Rb.kept g
  have Rc := Rc.kept g
  have Rd := Rd.kept g
  have gg := gg.trans g
  clear g
  have Ra0 := Ra.c0
  have Ra1 := Ra.c1
  have Rb0 := Rb.c0
  have Rb1 := Rb.c1
  have Rc0 := Rc.c0
  have Rc1 := Rc.c1
  have Rd0 := Rd.c0
  have Rd1 := Rd.c1
  have Re0 := Re.c0
  have Re1 := Re.c1
  go_wp2_with fail
  refine (s_far _).mono ?_
  rintro e x9 ⟨rfl, g⟩
  clear Ra0 Ra1 Rb0 Rb1 Rc0 Rc1 Rd0 Rd1 Re0 Re1
  have Ra := Ra.kept g
  have Rb := Rb.kept g
  have Rc := Rc.kept g
  have Rd := Rd.kept g
  have Re := Re.kept g
  have gg := gg.trans g
  clear g
  have Rf := R2.new x9 0 0
  have g := World.grownBy_alloc x9 (.cells #[.int .i64 0, .int .i64 0] 24) none
  have Ra := Ra.kept g
  have Rb := Rb.kept g
  have Rc := Rc.kept g
  have Rd := Rd.kept g
  have Re := Re.kept g
  have gg := gg.trans g
  clear g
  have Ra0 := Ra.c0
  have Ra1 := Ra.c1
  have Rb0 := Rb.c0
  have Rb1 := Rb.c1
  have Rc0 := Rc.c0
  have Rc1 := Rc.c1
  have Rd0 := Rd.c0
  have Rd1 := Rd.c1
  have Re0 := Re.c0
  have Re1 := Re.c1
  have Rf0 := Rf.c0
  have Rf1 := Rf.c1
  go_wp2_with fail
  refine (s_rd1 _ _ _ ((cell_at (by simp)).trans rfl) ((cell_at (by simp)).trans rfl) ((cell_at (by simp)).trans rfl) ((cell_at (by simp)).trans rfl)).mono ?_
  rintro e x10 ⟨rfl, g⟩
  have g := (World.grownBy_alloc _ _ none).trans g
  clear Ra0 Ra1 Rb0 Rb1 Rc0 Rc1 Rd0 Rd1 Re0 Re1 Rf0 Rf1
  have Ra := Ra.kept g
  have Rb := Rb.kept g
  have Rc := Rc.kept g
  have Rd := Rd.kept g
  have Re := Re.kept g
  have Rf := Rf.kept g
  have gg := gg.trans g
  clear g
  have Ra0 := Ra.c0
  have Ra1 := Ra.c1
  have Rb0 := Rb.c0
  have Rb1 := Rb.c1
  have Rc0 := Rc.c0
  have Rc1 := Rc.c1
  have Rd0 := Rd.c0
  have Rd1 := Rd.c1
  have Re0 := Re.c0
  have Re1 := Re.c1
  have Rf0 := Rf.c0
  have Rf1 := Rf.c1
  go_wp2_with fail
  refine (s_rd2 _ _ _ ((cell_at (by simp)).trans rfl) ((cell_at (by simp)).trans rfl) ((cell_at (by simp)).trans rfl) ((cell_at (by simp)).trans rfl)).mono ?_
  rintro e x11 ⟨rfl, g⟩
  have g := (World.grownBy_alloc _ _ none).trans g
  clear Ra0 Ra1 Rb0 Rb1 Rc0 Rc1 Rd0 Rd1 Re0 Re1 Rf0 Rf1
  have Ra := Ra.kept g
  have Rb := Rb.kept g
  have Rc := Rc.kept g
  have Rd := Rd.kept g
  have Re := Re.kept g
  have Rf := Rf.kept g
  have gg := gg.trans g
  clear g
  have Ra0 := Ra.c0
  have Ra1 := Ra.c1
  have Rb0 := Rb.c0
  have Rb1 := Rb.c1
  have Rc0 := Rc.c0
  have Rc1 := Rc.c1
  have Rd0 := Rd.c0
  have Rd1 := Rd.c1
  have Re0 := Re.c0
  have Re1 := Re.c1
  have Rf0 := Rf.c0
  have Rf1 := Rf.c1
  go_wp2_with fail
  refine (s_par1 _ (HB.out.none_ gg)).mono ?_
  rintro e x12 ⟨rfl, g⟩
  clear Ra0 Ra1 Rb0 Rb1 Rc0 Rc1 Rd0 Rd1 Re0 Re1 Rf0 Rf1
  have Ra := Ra.kept g
  have Rb := Rb.kept g
  have Rc := Rc.kept g
  have Rd := Rd.kept g
  have Re := Re.kept g
  have Rf := Rf.kept g
  have gg := gg.trans g
  clear g
  have Rg := R2.new x12 0 0
  have g := World.grownBy_alloc x12 (.cells #[.int .i64 0, .int .i64 0] 24) none
  have Ra := Ra.kept g
  have Rb := Rb.kept g
  have Rc := Rc.kept g
  have Rd := Rd.kept g
  have Re := Re.kept g
  have Rf := Rf.kept g
  have gg := gg.trans g
  clear g
  have Ra0 := Ra.c0
  have Ra1 := Ra.c1
  have Rb0 := Rb.c0
  have Rb1 := Rb.c1
  have Rc0 := Rc.c0
  have Rc1 := Rc.c1
  have Rd0 := Rd.c0
  have Rd1 := Rd.c1
  have Re0 := Re.c0
  have Re1 := Re.c1
  have Rf0 := Rf.c0
  have Rf1 := Rf.c1
  have Rg0 := Rg.c0
  have Rg1 := Rg.c1
  go_wp2_with fail
  refine (s_par2 _ (HB.out.none_ gg)).mono ?_
  rintro e x13 ⟨rfl, g⟩
  clear Ra0 Ra1 Rb0 Rb1 Rc0 Rc1 Rd0 Rd1 Re0 Re1 Rf0 Rf1 Rg0 Rg1
  have Ra := Ra.kept g
  have Rb := Rb.kept g
  have Rc := Rc.kept g
  have Rd := Rd.kept g
  have Re := Re.kept g
  have Rf := Rf.kept g
  have Rg := Rg.kept g
  have gg := gg.trans g
  clear g
  have Rh := R2.new x13 (-7) 1
  have g := World.grownBy_alloc x13 (.cells #[.int .i64 (-7), .int .i64 1] 24) none
  have Ra := Ra.kept g
  have Rb := Rb.kept g
  have Rc := Rc.kept g
  have Rd := Rd.kept g
  have Re := Re.kept g
  have Rf := Rf.kept g
  have Rg := Rg.kept g
  have gg := gg.trans g
  clear g
  have Ra0 := Ra.c0
  have Ra1 := Ra.c1
  have Rb0 := Rb.c0
  have Rb1 := Rb.c1
  have Rc0 := Rc.c0
  have Rc1 := Rc.c1
  have Rd0 := Rd.c0
  have Rd1 := Rd.c1
  have Re0 := Re.c0
  have Re1 := Re.c1
  have Rf0 := Rf.c0
  have Rf1 := Rf.c1
  have Rg0 := Rg.c0
  have Rg1 := Rg.c1
  have Rh0 := Rh.c0
  have Rh1 := Rh.c1
  go_wp2_with fail
  refine (s_tx1 _ (HB.out.none_ gg)).mono ?_
  rintro e x14 ⟨rfl, g⟩
  clear Ra0 Ra1 Rb0 Rb1 Rc0 Rc1 Rd0 Rd1 Re0 Re1 Rf0 Rf1 Rg0 Rg1 Rh0 Rh1
  have Ra := Ra.kept g
  have Rb := Rb.kept g
  have Rc := Rc.kept g
  have Rd := Rd.kept g
  have Re := Re.kept g
  have Rf := Rf.kept g
  have Rg := Rg.kept g
  have Rh := Rh.kept g
  have gg := gg.trans g
  clear g
  have Ra0 := Ra.c0
  have Ra1 := Ra.c1
  have Rb0 := Rb.c0
  have Rb1 := Rb.c1
  have Rc0 := Rc.c0
  have Rc1 := Rc.c1
  have Rd0 := Rd.c0
  have Rd1 := Rd.c1
  have Re0 := Re.c0
  have Re1 := Re.c1
  have Rf0 := Rf.c0
  have Rf1 := Rf.c1
  have Rg0 := Rg.c0
  have Rg1 := Rg.c1
  have Rh0 := Rh.c0
  have Rh1 := Rh.c1
  go_wp2_with fail
  refine (s_tx2 _ (HB.out.none_ gg)).mono ?_
  rintro e x15 ⟨rfl, g⟩
  clear Ra0 Ra1 Rb0 Rb1 Rc0 Rc1 Rd0 Rd1 Re0 Re1 Rf0 Rf1 Rg0 Rg1 Rh0 Rh1
  have Ra := Ra.kept g
  have Rb := Rb.kept g
  have Rc := Rc.kept g
  have Rd := Rd.kept g
  have Re := Re.kept g
  have Rf := Rf.kept g
  have Rg := Rg.kept g
  have Rh := Rh.kept g
  have gg := gg.trans g
  clear g
  have Ra0 := Ra.c0
  have Ra1 := Ra.c1
  have Rb0 := Rb.c0
  have Rb1 := Rb.c1
  have Rc0 := Rc.c0
  have Rc1 := Rc.c1
  have Rd0 := Rd.c0
  have Rd1 := Rd.c1
  have Re0 := Re.c0
  have Re1 := Re.c1
  have Rf0 := Rf.c0
  have Rf1 := Rf.c1
  have Rg0 := Rg.c0
  have Rg1 := Rg.c1
  have Rh0 := Rh.c0
  have Rh1 := Rh.c1
  go_wp2_with fail
  go_ret
  exact ⟨rfl, gg⟩
end Go.Proofs.YtekhdcfnpgkodaaDoor
