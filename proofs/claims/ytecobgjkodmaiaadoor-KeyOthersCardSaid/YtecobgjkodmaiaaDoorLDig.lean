/-
  The laws' digits.
-/
import Derived.Test.YtecobgjkodmaiaaDoorLMath
import Derived.Deep.RegionHeld3
namespace Go.Proofs.YtecobgjkodmaiaaDoor
open Go.RowKit
attribute [local go_sem] get_mk extract_mk
set_option maxRecDepth 100000 in
theorem digits_nat (u : Nat) (h9 : u < 10) (w : World) : Calls Tryd.prog 25 #[.int .i64 (u : Int)] w fun e w' => e = .returned (.string ⟨(Lib.itoa u).toArray⟩) ∧ w.grownBy w' none := by
  have hu : (UInt8.ofNat (48 + u)).toNat = 48 + u := by rw [UInt8.toNat_ofNat']; omega
  have hk := run_convert_bytes_back (P := Tryd.prog) (w.alloc (.cells #[.int .u8 (48 + (u : Int))] 5)) 84 9 5 ⟨w.heap.size, 0, none⟩ 1 [UInt8.ofNat (48 + u)] Tryd.underlying84 Tryd.underlying5 Tryd.underlying9 (by
    intro j hj
    obtain rfl : j = 0 := by simpa using hj
    refine (cell_at (i := 0) rfl).trans ?_
    show some (Value.int .u8 (48 + (u : Int))) = some (.int .u8 (((UInt8.ofNat (48 + u)).toNat : Nat) : Int))
    rw [hu]; simp)
  have HE : Hid (Lib.itoa (u : Int) = [UInt8.ofNat (48 + u)]) := Lib.hid (by rw [itoa_nat, dec_small h9])
  simp only [List.length_singleton] at hk
  clear hu
  have m10 : (u : Int).tmod 10 = u := by rw [Int.tmod_eq_emod_of_nonneg (by omega)]; omega
  have hw1 : IntKind.i64.wrap (u : Int) = u := by rw [IntKind.wrap_i64]; omega
  have hw2 : IntKind.i64.wrap (48 + (u : Int)) = 48 + u := by rw [IntKind.wrap_i64]; omega
  go_enter Tryd.func25, Tryd.ntmps25
  go_wp2_with fail
  go_ret
  exact ⟨ret_str (by rw [HE.out]; first | rfl | (rw [UInt8.ofNat_add]; rfl)), grown_al (grown_refl _)⟩
theorem digits_c (z : Int) (hz : 0 ≤ z ∧ z < 10) (w : World) : Calls Tryd.prog 25 #[.int .i64 z] w fun e w' => e = .returned (.string ⟨(Lib.itoa z).toArray⟩) ∧ w.grownBy w' none := by
  obtain ⟨u, rfl⟩ := Int.eq_ofNat_of_zero_le hz.1
  exact digits_nat u (by omega) w
end Go.Proofs.YtecobgjkodmaiaaDoor
