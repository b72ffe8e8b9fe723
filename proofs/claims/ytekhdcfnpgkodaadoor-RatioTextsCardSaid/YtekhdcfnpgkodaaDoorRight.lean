/-
  Right ratios, of the program and of the reference, by their contracts; words for worlds.
-/
import Derived.Test.YtekhdcfnpgkodaaDoorNum
import Derived.Laws.Tables
import Derived.Laws.Rows
import Derived.Maps.RangeWalk
import Derived.Maps.AppendAt
import Derived.Maps.Range
namespace Go.Proofs.YtekhdcfnpgkodaaDoor
open Go.RowKit
theorem grown_al {a w : World} {o : Obj} (h : a.grownBy w none) : a.grownBy (w.alloc o) none := h.trans (World.grownBy_alloc w o none)
theorem grown_dr {a w : World} (h : a.grownBy w none) : a.grownBy w.drew none := ⟨h.os, h.tape, h.output, h.size, h.block⟩
theorem grown_drewN (w : World) (k : Nat) (row : Option Nat) : w.grownBy (w.drewN k) row := ⟨rfl, rfl, rfl, Nat.le_refl _, fun _ _ _ => rfl⟩
theorem grown_dn {a w : World} {k : Nat} (h : a.grownBy w none) : a.grownBy (w.drewN k) none := h.trans (grown_drewN _ _ _)
theorem gcell {w w' : World} {a : Addr} {v : Value} (h : w.grownBy w' none) (c : w.cell? a = some v) : w'.cell? a = some v := h.cell c (by simp)
theorem cell_at {w : World} {b i : Nat} {cs : Array Value} {t : TypeId} (h : b = w.heap.size) : (w.alloc (.cells cs t)).cell? ⟨b, i, none⟩ = cs[i]? := by
  subst h; exact World.cell?_alloc_new ..
theorem grown_refl (w : World) : w.grownBy w none := ⟨rfl, rfl, rfl, Nat.le_refl _, fun _ _ _ => rfl⟩
theorem grown_setCell (w : World) (b i : Nat) (v : Value) : w.grownBy (w.setCell ⟨b, i, none⟩ v) (some b) :=
  ⟨rfl, rfl, rfl, by simp [World.setCell], fun k _ hne => Below.heap_setCell w _ v k (by rintro rfl; exact hne rfl)⟩
theorem grown_set {a x : World} {row : Option Nat} {o i : Nat} {v : Value} (h : a.grownBy x row) (ho : a.heap.size ≤ o ∨ row = some o) : a.grownBy (x.setCell ⟨o, i, none⟩ v) row :=
  h.andThen (grown_setCell x o i v) (by rintro j ⟨⟩; exact ho)
theorem right_eq (n d : Int) : rightB n d = (decide (1 ≤ d) && (fitsB n.natAbs d.natAbs && ((Nat.gcd n.natAbs d.natAbs : Int) == 1))) := by
  rw [Bool.eq_iff_iff]
  unfold rightB fitsB
  simp only [Bool.and_eq_true, decide_eq_true_eq, beq_iff_eq]
  constructor
  · rintro ⟨h1, h2, h3, h4, h5⟩; exact ⟨h1, ⟨by omega, by omega⟩, by omega⟩
  · rintro ⟨h1, ⟨h2, h3⟩, h4⟩; exact ⟨h1, by omega, by omega, by omega, by omega⟩
theorem right_k (n d : Int) (hn : i64 n) (hd : i64 d) (w : World) : Calls Tryd.prog 33 #[.agg #[.int .i64 n, .int .i64 d]] w fun e w' => e = .returned (.bool (rightB n d)) ∧ w.grownBy w' none := by
  have HE := Lib.hid (right_eq n d)
  have hn' : n.natAbs ≤ 9223372036854775808 := by unfold i64 at hn; omega
  have hd' : d.natAbs ≤ 9223372036854775808 := by unfold i64 at hd; omega
  have g1 := World.grownBy_alloc w (.cells #[.int .i64 n, .int .i64 d] 24) none
  have q0 : (w.alloc (.cells #[.int .i64 n, .int .i64 d] 24)).cell? ⟨w.heap.size, 0, none⟩ = some (.int .i64 n) := cell_at rfl
  have q1 : (w.alloc (.cells #[.int .i64 n, .int .i64 d] 24)).cell? ⟨w.heap.size, 1, none⟩ = some (.int .i64 d) := cell_at rfl
  by_cases h1 : 1 ≤ d
  · have K := Lib.hid (fits_k n.natAbs d.natAbs)
    have D := Lib.hid (divisor_k n.natAbs d.natAbs hn' hd')
    have HE2 : Hid (rightB n d = (fitsB n.natAbs d.natAbs && ((Nat.gcd n.natAbs d.natAbs : Int) == 1))) := Lib.hid (by rw [HE.out]; simp [h1])
    clear HE
    generalize fitsB n.natAbs d.natAbs = f at *
    cases f
    · go_enter Tryd.func33, Tryd.ntmps33
      go_wp2_with fail
      go_quiet ((go_at_call 45; exact Calls.quiet_of_same ((size_k _ ‹_› _).mono fun _ _ h => ⟨h.1, h.2.symm⟩)))
      go_wp2_with fail
      refine (K.out _).mono ?_
      rintro e w' ⟨rfl, rfl⟩
      go_wp2_with fail
      go_ret
      exact ⟨ret_bool (by rw [HE2.out]; rfl), grown_dn g1⟩
    · go_enter Tryd.func33, Tryd.ntmps33
      go_wp2_with fail
      go_quiet ((go_at_call 45; exact Calls.quiet_of_same ((size_k _ ‹_› _).mono fun _ _ h => ⟨h.1, h.2.symm⟩)))
      go_wp2_with fail
      refine (K.out _).mono ?_
      rintro e w' ⟨rfl, rfl⟩
      go_wp2_with fail
      refine (D.out _).mono ?_
      rintro e w' ⟨rfl, m, rfl⟩
      go_wp2_with fail
      go_ret
      exact ⟨ret_bool (by rw [HE2.out]; rfl), grown_dn g1⟩
  · have HE2 : Hid (rightB n d = false) := Lib.hid (by unfold rightB; simp; omega)
    go_enter Tryd.func33, Tryd.ntmps33
    go_wp2_with fail
    go_quiet ((go_at_call 45; exact Calls.quiet_of_same ((size_k _ ‹_› _).mono fun _ _ h => ⟨h.1, h.2.symm⟩)))
    go_wp2_with fail
    go_ret
    exact ⟨ret_bool HE2.out.symm, grown_dn g1⟩
theorem right_r (n d : Int) (hn : i64 n) (hd : i64 d) (w : World) : Calls Tryd.prog 34 #[.agg #[.int .i64 n, .int .i64 d]] w fun e w' => e = .returned (.bool (rightB n d)) ∧ w.grownBy w' none := by
  have hn' : n.natAbs ≤ 9223372036854775808 := by unfold i64 at hn; omega
  have hd' : d.natAbs ≤ 9223372036854775808 := by unfold i64 at hd; omega
  have g1 := World.grownBy_alloc w (.cells #[.int .i64 n, .int .i64 d] 24) none
  have q0 : (w.alloc (.cells #[.int .i64 n, .int .i64 d] 24)).cell? ⟨w.heap.size, 0, none⟩ = some (.int .i64 n) := cell_at rfl
  have q1 : (w.alloc (.cells #[.int .i64 n, .int .i64 d] 24)).cell? ⟨w.heap.size, 1, none⟩ = some (.int .i64 d) := cell_at rfl
  have ret : ∀ (b : Bool) (w' : World), rightB n d = b → w.grownBy w' none → Ending.returned (.bool b) = .returned (.bool (rightB n d)) ∧ w.grownBy w' none := fun _ _ h g => ⟨by rw [h], g⟩
  have HR := Lib.hid ret
  clear ret
  by_cases h1 : 1 ≤ d
  · have e1 : decide (1 ≤ d) = true := by simpa using h1
    by_cases h2 : d ≤ 1073741824
    · have e2 : decide (d ≤ 1073741824) = true := by simpa using h2
      by_cases h3 : -1073741824 ≤ n
      · have e3 : decide (-1073741824 ≤ n) = true := by simpa using h3
        by_cases h4 : n ≤ 1073741824
        · have e4 : decide (n ≤ 1073741824) = true := by simpa using h4
          have HE : Hid (rightB n d = ((Nat.gcd n.natAbs d.natAbs : Int) == 1)) := Lib.hid (by
            rw [Bool.eq_iff_iff]; unfold rightB; simp only [decide_eq_true_eq, beq_iff_eq]
            constructor
            · rintro ⟨_, _, _, _, h5⟩; omega
            · intro h; exact ⟨h1, h2, h3, h4, by omega⟩)
          go_enter Tryd.func34, Tryd.ntmps34
          go_wp2_with fail
          go_quiet ((first | (go_at_call 32; exact Calls.quiet_of_same ((size_r _ ‹_› _).mono fun _ _ h => ⟨h.1, h.2.symm⟩)) | (go_at_call 31; exact Calls.quiet_of (gcd_r _ _ ‹_› ‹_› _))))
          go_wp2_with fail
          go_ret
          exact HR.out _ _ (by rw [HE.out]) (grown_dn g1)
        · have e4 : decide (n ≤ 1073741824) = false := by simpa using h4
          have HE : Hid (rightB n d = false) := Lib.hid (by unfold rightB; simp; omega)
          go_enter Tryd.func34, Tryd.ntmps34
          go_wp2_with fail
          go_quiet (fail)
          go_wp2_with fail
          go_ret
          exact HR.out _ _ HE.out (grown_dn g1)
      · have e3 : decide (-1073741824 ≤ n) = false := by simpa using h3
        have HE : Hid (rightB n d = false) := Lib.hid (by unfold rightB; simp; omega)
        go_enter Tryd.func34, Tryd.ntmps34
        go_wp2_with fail
        go_quiet (fail)
        go_wp2_with fail
        go_ret
        exact HR.out _ _ HE.out (grown_dn g1)
    · have e2 : decide (d ≤ 1073741824) = false := by simpa using h2
      have HE : Hid (rightB n d = false) := Lib.hid (by unfold rightB; simp; omega)
      go_enter Tryd.func34, Tryd.ntmps34
      go_wp2_with fail
      go_quiet (fail)
      go_wp2_with fail
      go_ret
      exact HR.out _ _ HE.out (grown_dn g1)
  · have e1 : decide (1 ≤ d) = false := by simpa using h1
    have HE : Hid (rightB n d = false) := Lib.hid (by unfold rightB; simp; omega)
    go_enter Tryd.func34, Tryd.ntmps34
    go_wp2_with fail
    go_quiet (fail)
    go_wp2_with fail
    go_ret
    exact HR.out _ _ HE.out (grown_dn g1)
end Go.Proofs.YtekhdcfnpgkodaaDoor
