/-
  Text of the reference, by its contract.
-/
import Derived.Test.YtekhdcfnpgkodaaDoorNumb
import Derived.Test.YtekhdcfnpgkodaaDoorDag
namespace Go.Proofs.YtekhdcfnpgkodaaDoor
open Go.RowKit
attribute [local go_sem] get_mk extract_mk
set_option maxRecDepth 100000 in
set_option maxHeartbeats 1000000 in
theorem text_r (n d : Int) (hn : i64 n) (hd : i64 d) (w : World) :
    Calls Tryd.prog 26 #[.agg #[.int .i64 n, .int .i64 d]] w fun e w' => e = .returned (.string ⟨(textV n d).toArray⟩) ∧ w.grownBy w' none := by
  have Kr := Lib.hid (right_r n d hn hd)
  have gg := World.grownBy_alloc w (.cells #[.int .i64 n, .int .i64 d] 24) none
  have R := R2.new w n d
  have hl := itoa_len hn
  have hl2 := itoa_len hd
  have hl' : ¬ 9223372036854775807 < (Lib.itoa n).length + 1 := by omega
  have hl2' : ¬ 9223372036854775807 < (Lib.itoa n).length + 1 + (Lib.itoa d).length := by omega
  cases hr : rightB n d with
  | false =>
    have e1 : textV n d = [] := by unfold textV; simp [hr]
    rw [e1]
    rw [hr] at Kr
    clear hr e1
    go_enter Tryd.func26, Tryd.ntmps26
    go_wp2_with fail
    refine (Kr.out _).mono ?_
    rintro e w1 ⟨rfl, g⟩
    have gg := gg.trans g
    clear g Kr
    go_wp2_with fail
    go_ret
    exact ⟨rfl, gg⟩
  | true =>
    have e1 : Hid (textV n d = textL n d) := Lib.hid (by unfold textV; simp [hr])
    obtain ⟨r1, r2, r3, r4, _⟩ := (right_iff n d).1 hr
    rw [hr] at Kr
    have Kn := Lib.hid (decimal_k n (by omega) (by omega))
    have Kd := Lib.hid (decimal_k d (by omega) (by omega))
    clear hr r1 r2 r3 r4 hn hd
    by_cases hd1 : d = 1
    · subst hd1
      go_enter Tryd.func26, Tryd.ntmps26
      go_wp2_with fail
      refine (Kr.out _).mono ?_
      rintro e w1 ⟨rfl, g⟩
      have R := R.kept g
      have gg := gg.trans g
      clear g Kr
      have c0 := R.c0
      have c1 := R.c1
      go_wp2_with fail
      refine (Kn.out _).mono ?_
      rintro e w2 ⟨rfl, g⟩
      have gg := gg.trans g
      clear g Kn c0 c1
      go_wp2_with fail
      go_ret
      exact ⟨ret_str (by rw [e1.out]; rfl), gg⟩
    · have hd2 : (d == 1) = false := by simpa using hd1
      have e2 : Hid (textL n d = Lib.itoa n ++ 47 :: Lib.itoa d) := Lib.hid (by unfold textL; rw [if_neg hd1])
      clear hd1
      go_enter Tryd.func26, Tryd.ntmps26
      go_wp2_with fail
      refine (Kr.out _).mono ?_
      rintro e w1 ⟨rfl, g⟩
      have R := R.kept g
      have gg := gg.trans g
      clear g Kr
      have c0 := R.c0
      have c1 := R.c1
      go_wp2_with fail
      refine wp_region_noPanic ?_
      refine wp_region_held_drew (S := (fun w' => w1.grownBy w' none)) (by kernel_rfl) ?_ (fun hHeld => ?_)
      · (try dsimp only); (repeat (first | assumption | exact grown_refl _ | refine grown_dr ?_ | refine grown_al ?_))
      refine wpAnyH_take (i := 0) (oi := _) (v := ?_) rfl (by kernel_rfl) (by kernel_rfl) (by kernel_rfl) (fun _ _ _ h => h) (Or.inl ⟨by rfl, ?_⟩) (by assumption) ?_
      rotate_left 1
      · (intro w hSw; (try dsimp only at hSw); go_simp; first | done | with_reducible rfl)
      try go_simp
      refine wpAnyH_take (i := 1) (oi := _) (v := .int .i64 n) rfl (by kernel_rfl) (by kernel_rfl) (by kernel_rfl) (fun _ _ _ h => h) (Or.inl ⟨by kernel_rfl, ?_⟩) (by assumption) ?_
      · (intro w hSw; (try dsimp only at hSw); go_simp; have y := gcell hSw c0; clear hSw; go_simp; first | done | with_reducible rfl)
      try go_simp
      refine wpAnyH_take (i := 4) (oi := _) (v := ?_) rfl (by kernel_rfl) (by kernel_rfl) (by kernel_rfl) (fun _ _ _ h => h) (Or.inl ⟨by rfl, ?_⟩) (by assumption) ?_
      rotate_left 1
      · (intro w hSw; (try dsimp only at hSw); go_simp; first | done | with_reducible rfl)
      try go_simp
      refine wpAnyH_take (i := 5) (oi := _) (v := .int .i64 d) rfl (by kernel_rfl) (by kernel_rfl) (by kernel_rfl) (fun _ _ _ h => h) (Or.inl ⟨by kernel_rfl, ?_⟩) (by assumption) ?_
      · (intro w hSw; (try dsimp only at hSw); go_simp; have y := gcell hSw c1; clear hSw; go_simp; first | done | with_reducible rfl)
      try go_simp
      refine wpAnyH_ready (rs := [2]) (by kernel_rfl) (by simp) ?_
      refine AllReadyH.cons (o := _) rfl (fun K hK => ?_) AllReadyH.nil
      go_simp
      refine (Kn.out _).mono ?_
      rintro e t1 ⟨rfl, g⟩
      have gt1 : w1.grownBy t1 none := (grown_dr (grown_refl _)).trans g
      clear g
      first | (refine hK.out _ _ ?_ (fun hHeld => ?_)) | (go_wp2_with fail; refine hK.out _ _ ?_ (fun hHeld => ?_))
      · (try dsimp only); (repeat (first | assumption | exact grown_refl _ | refine grown_dr ?_ | refine grown_al ?_))
      clear hK K
      refine wpAnyH_take (i := 3) (oi := _) (v := .string ⟨(Lib.itoa n ++ [47]).toArray⟩) rfl (by kernel_rfl) (by kernel_rfl) (by kernel_rfl) (fun _ _ _ h => h) (Or.inl ⟨by kernel_rfl, ?_⟩) (by assumption) ?_
      · (intro w hSw; (try dsimp only at hSw); go_simp; all_goals (first | done | (simp only [str_app]; done) | (rw [str_app _ [47]]) | skip))
      try go_simp
      refine wpAnyH_ready (rs := [6]) (by kernel_rfl) (by simp) ?_
      refine AllReadyH.cons (o := _) rfl (fun K hK => ?_) AllReadyH.nil
      go_simp
      refine (Kd.out _).mono ?_
      rintro e t2 ⟨rfl, g⟩
      have gt2 : w1.grownBy t2 none := gt1.trans g
      clear g
      first | (refine hK.out _ _ ?_ (fun hHeld => ?_)) | (go_wp2_with fail; refine hK.out _ _ ?_ (fun hHeld => ?_))
      · (try dsimp only); (repeat (first | assumption | exact grown_refl _ | refine grown_dr ?_ | refine grown_al ?_))
      clear hK K
      refine wpAnyH_take (i := 7) (oi := _) (v := .string ⟨(Lib.itoa n ++ 47 :: Lib.itoa d).toArray⟩) rfl (by kernel_rfl) (by kernel_rfl) (by kernel_rfl) (fun _ _ _ h => h) (Or.inl ⟨by kernel_rfl, ?_⟩) (by assumption) ?_
      · (intro w hSw; (try dsimp only at hSw); go_simp; all_goals (first | done | (rw [str_app, List.append_assoc]; rfl)))
      try go_simp
      refine wpAnyH_take (i := 8) (oi := _) (v := ?_) rfl (by kernel_rfl) (by kernel_rfl) (by kernel_rfl) (fun _ _ _ h => h) (Or.inl ⟨by rfl, ?_⟩) (by assumption) ?_
      rotate_left 1
      · (intro w hSw; (try dsimp only at hSw); go_simp; first | done | with_reducible rfl)
      try go_simp
      refine wpAnyH_done (by kernel_rfl) ?_ _
      refine NoPanic.normal ?_
      go_simp
      go_wp2_with fail
      go_ret
      exact ⟨ret_str (by rw [e1.out, e2.out]), gg.trans gt2⟩
end Go.Proofs.YtekhdcfnpgkodaaDoor
