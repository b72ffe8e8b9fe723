/-
  The law DigestOf.
-/
import Derived.Test.YtljjmoeplfcblaaRef
import Derived.Test.YtljjmoeplfcblaaSane
namespace Go.Proofs.Ytljjmoeplfcblaa
open Go.RowKit Go.Shelf
attribute [local go_sem] get_mk extract_mk
set_option maxRecDepth 100000 in
theorem cut_k (s : Str) (hs : s.length ≤ 9223372036854775807) (w : World) : Calls Try.prog 11 #[.string ⟨s.toArray⟩] w fun e w' => e = .returned (.string ⟨(s.take 200).toArray⟩) ∧ w' = w := by
  by_cases h : 200 < s.length
  · go_enter Try.func11, Try.ntmps11
    go_wp2_with fail
    go_ret
    exact ⟨rfl, rfl⟩
  · have hE := Lib.hid (List.take_of_length_le (l := s) (i := 200) (by omega))
    rw [hE.out]
    go_enter Try.func11, Try.ntmps11
    go_wp2_with fail
    go_ret
    exact ⟨rfl, rfl⟩
set_option maxRecDepth 100000 in
set_option maxHeartbeats 4000000 in
theorem dof_in (a b m : Str) (ha : a.length ≤ 200) (hb : b.length ≤ 200) (w : World) (x y z : Str) (hx : x.length ≤ 9223372036854775807) (hy : y.length ≤ 9223372036854775807) (hz : z.length ≤ 9223372036854775807) (ex : x.take 200 = a) (ey : y.take 200 = b) (ez : z.take 200 = m) :
    Calls Try.prog 3 #[.string ⟨x.toArray⟩, .string ⟨y.toArray⟩, .string ⟨z.toArray⟩] w fun e w' => e = .returned (.bool true) ∧ w.grownBy w' none := by
  have C1 := Lib.hid (cut_k x hx)
  have C2 := Lib.hid (cut_k y hy)
  have C3 := Lib.hid (cut_k z hz)
  rw [ex] at C1
  rw [ey] at C2
  rw [ez] at C3
  clear ex ey ez
  go_enter Try.func3, Try.ntmps3
  go_wp2_with fail
  refine (sane_k w).mono ?_
  rintro e w1 ⟨rfl, g1⟩
  go_wp2_with fail
  refine (C1.out w1).mono ?_
  rintro e w' ⟨rfl, rfl⟩
  go_wp2_with fail
  refine (C2.out w').mono ?_
  rintro e w1 ⟨rfl, rfl⟩
  go_wp2_with fail
  refine (C3.out w1).mono ?_
  rintro e w2 ⟨rfl, rfl⟩
  go_wp2_with fail
  clear C1 C2 C3 hx hy hz
  refine (mark_r a b (by omega) (by omega) _).mono ?_
  rintro e w3 ⟨rfl, g3⟩
  go_wp2_with fail
  refine (of_k a (by omega) _).mono ?_
  rintro e w4 ⟨rfl, g4⟩
  go_wp2_with fail
  refine (of_r a (by omega) _).mono ?_
  rintro e w5 ⟨rfl, g5⟩
  have g15 := (((g1.trans g3).trans g4).trans g5)
  clear g1 g3 g4 g5
  go_wp2_with fail
  refine (chain_k a b (by omega) (by omega) _).mono ?_
  rintro e w6 ⟨rfl, g6⟩
  go_wp2_with fail
  refine (chain_r a b (by omega) (by omega) _).mono ?_
  rintro e w7 ⟨rfl, g7⟩
  have g17 := ((g15.trans g6).trans g7)
  clear g15 g6 g7
  go_wp2_with fail
  refine (of_k b (by omega) _).mono ?_
  rintro e w8 ⟨rfl, g8⟩
  go_wp2_with fail
  have hd := dg_len b
  refine (chain_k (dg b) a (by omega) (by omega) _).mono ?_
  rintro e w9 ⟨rfl, g9⟩
  go_wp2_with fail
  refine (of_r b (by omega) _).mono ?_
  rintro e w10 ⟨rfl, g10⟩
  go_wp2_with fail
  refine (chain_r (dg b) a (by omega) (by omega) _).mono ?_
  rintro e w11 ⟨rfl, g11⟩
  have g111 := ((((g17.trans g8).trans g9).trans g10).trans g11)
  clear g17 g8 g9 g10 g11
  go_wp2_with fail
  refine (mark_k a b (by omega) (by omega) _).mono ?_
  rintro e w12 ⟨rfl, g12⟩
  go_wp2_with fail
  have HC := check_k a b (mark a b) (by omega) (by omega) w12
  simp only [beq_self_eq_true, Bool.and_true] at HC
  rw [show (a != []) = !a.isEmpty from by cases a <;> rfl] at HC
  refine HC.mono ?_
  rintro e w13 ⟨rfl, g13⟩
  have g113 := (g111.trans g12).trans g13
  clear g111 g12 g13
  go_wp2_with fail
  have K1 := check_k a b m (by omega) (by omega) w13
  have K2 := Lib.hid (check_r a b m (by omega) (by omega))
  generalize (a != [] && m == mark a b) = q1 at K1 K2
  refine K1.mono ?_
  rintro e w14 ⟨rfl, g14⟩
  go_wp2_with fail
  refine (K2.out w14).mono ?_
  rintro e w15 ⟨rfl, g15⟩
  have g115 := (g113.trans g14).trans g15
  clear g113 g14 g15 K2 K1
  go_wp2_with fail
  have K1 := check_k b a (mark a b) (by omega) (by omega) w15
  have K2 := Lib.hid (check_r b a (mark a b) (by omega) (by omega))
  generalize (b != [] && mark a b == mark b a) = q2 at K1 K2
  refine K1.mono ?_
  rintro e w16 ⟨rfl, g16⟩
  go_wp2_with fail
  refine (K2.out w16).mono ?_
  rintro e w17 ⟨rfl, g17⟩
  go_wp2_with fail
  go_ret
  exact ⟨rfl, (g115.trans g16).trans g17⟩
theorem dof_walk (a b m : Str) (w : World) (ha : a.length ≤ 9223372036854775807) (hb : b.length ≤ 9223372036854775807) (hm : m.length ≤ 9223372036854775807) :
    Calls Try.prog 3 #[.string ⟨a.toArray⟩, .string ⟨b.toArray⟩, .string ⟨m.toArray⟩] w fun e w' => e = .returned (.bool true) ∧ w.grownBy w' none :=
  dof_in (a.take 200) (b.take 200) (m.take 200) (List.length_take_le _ _) (List.length_take_le _ _) w a b m ha hb hm rfl rfl rfl
end Go.Proofs.Ytljjmoeplfcblaa
