/-
  The reference's Leaf, node and root, by their contracts.
-/
import Derived.Test.YtljjmoeplfcblaaRef
namespace Go.Proofs.Ytljjmoeplfcblaa
open Go.RowKit Go.Shelf
attribute [local go_sem] get_mk extract_mk
set_option maxRecDepth 100000 in
/-- the reference's Leaf -/
theorem leaf_r (s : Str) (hs : s.length ≤ 1152921504606846976) (w : World) : Calls Try.prog 60 #[.string ⟨s.toArray⟩] w fun e w' => e = .returned (.string ⟨(leafD s).toArray⟩) ∧ w.grownBy w' none := by
  have HO := Lib.hid (of_r ([3] ++ s) (by simp; omega))
  go_enter Try.func60, Try.ntmps60
  go_wp2_with fail
  have HO := HO.out w
  rw [← str_app] at HO
  refine HO.mono ?_
  rintro e w1 ⟨rfl, g1⟩
  go_wp2_with fail
  go_ret
  exact ⟨rfl, g1⟩
set_option maxRecDepth 100000 in
/-- the reference's node -/
theorem node_r (a b : Str) (ha : a.length ≤ 1152921504606846976) (hb : b.length ≤ 1152921504606846976) (w : World) : Calls Try.prog 65 #[.string ⟨a.toArray⟩, .string ⟨b.toArray⟩] w fun e w' => e = .returned (.string ⟨(pairD a b).toArray⟩) ∧ w.grownBy w' none := by
  have HO := Lib.hid (of_r ([4] ++ a ++ b) (by simp; omega))
  go_enter Try.func65, Try.ntmps65
  go_wp2_with fail
  have HO := HO.out w
  rw [← str_app, ← str_app] at HO
  refine HO.mono ?_
  rintro e w1 ⟨rfl, g1⟩
  go_wp2_with fail
  go_ret
  exact ⟨rfl, g1⟩
set_option maxRecDepth 100000 in
/-- the reference's root -/
theorem rootn_r (n : Nat) (hn : n ≤ 1099511627776) (t : Str) (ht : t.length ≤ 1152921504606846976) (w : World) : Calls Try.prog 49 #[.int .i64 n, .string ⟨t.toArray⟩] w fun e w' => e = .returned (.string ⟨(dg (6 :: (be n 8 ++ t))).toArray⟩) ∧ w.grownBy w' none := by
  have l1 : (be n 8).length = 8 := be_len _ _
  have HO := Lib.hid (of_r ([6] ++ be n 8 ++ t) (by simp [be_len]; omega))
  go_enter Try.func49, Try.ntmps49
  go_wp2_with fail
  refine (eight_r n (by omega) w).mono ?_
  rintro e w1 ⟨rfl, g1⟩
  go_wp2_with fail
  have HO := HO.out w1
  rw [← str_app, ← str_app] at HO
  refine HO.mono ?_
  rintro e w2 ⟨rfl, g2⟩
  go_wp2_with fail
  go_ret
  exact ⟨rfl, g1.trans g2⟩
end Go.Proofs.Ytljjmoeplfcblaa
