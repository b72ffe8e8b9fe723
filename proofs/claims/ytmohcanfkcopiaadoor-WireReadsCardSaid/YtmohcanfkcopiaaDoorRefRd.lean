/-
  The reference's reader: its cells; New, Left, Bad, fail and byte, by their contracts.
-/
import Derived.Test.YtmohcanfkcopiaaDoorRef
import Derived.Deep.QuietTactic
import Derived.BigQuiet
namespace Go.Proofs.YtmohcanfkcopiaaDoor
open Go.RowKit
attribute [local go_sem] get_mk extract_mk

theorem grown_any {w w' : World} (g : w.grownBy w' none) (row : Option Nat) : w.grownBy w' row := ⟨g.os, g.tape, g.output, g.size, fun i hi _ => g.block i hi (by simp)⟩

/-- what the reference's reader of s holds -/
def Rf (w : World) (b : Nat) (s : List UInt8) (p : Nat) (bad : Bool) : Prop :=
  w.heap[b]? = some (.cells #[.string ⟨s.toArray⟩, .int .i64 p, .bool bad] 59 (0, 0))

theorem Rf.c0 {w : World} {b p : Nat} {s : List UInt8} {d : Bool} (h : Rf w b s p d) : w.cell? ⟨b, 0, none⟩ = some (.string ⟨s.toArray⟩) := by
  unfold Rf at h; simp [World.cell?, h]
theorem Rf.c1 {w : World} {b p : Nat} {s : List UInt8} {d : Bool} (h : Rf w b s p d) : w.cell? ⟨b, 1, none⟩ = some (.int .i64 p) := by
  unfold Rf at h; simp [World.cell?, h]
theorem Rf.c2 {w : World} {b p : Nat} {s : List UInt8} {d : Bool} (h : Rf w b s p d) : w.cell? ⟨b, 2, none⟩ = some (.bool d) := by
  unfold Rf at h; simp [World.cell?, h]
theorem Rf.fz {w : World} {b p : Nat} {s : List UInt8} {d : Bool} (h : Rf w b s p d) (i : Nat) : w.frozen? ⟨b, i, none⟩ = false := by
  unfold Rf at h; simp [World.frozen?, h]
theorem Rf.lt {w : World} {b p : Nat} {s : List UInt8} {d : Bool} (h : Rf w b s p d) : b < w.heap.size := by
  rcases Nat.lt_or_ge b w.heap.size with hlt | hge
  · exact hlt
  · unfold Rf at h; rw [Array.getElem?_eq_none hge] at h; cases h
theorem Rf.grown {w w' : World} {b p : Nat} {s : List UInt8} {d : Bool} {row : Option Nat} (h : Rf w b s p d) (hg : w.grownBy w' row) (hne : some b ≠ row) : Rf w' b s p d :=
  (hg.block b h.lt hne).trans h
theorem Rf.set1 {w : World} {b p : Nat} {s : List UInt8} {d : Bool} (h : Rf w b s p d) (q : Nat) : Rf (w.setCell ⟨b, 1, none⟩ (.int .i64 q)) b s q d := by
  unfold Rf at h ⊢
  simp [World.setCell, Array.getElem?_modify, h]
theorem Rf.set2 {w : World} {b p : Nat} {s : List UInt8} {d : Bool} (h : Rf w b s p d) : Rf (w.setCell ⟨b, 2, none⟩ (.bool true)) b s p true := by
  unfold Rf at h ⊢
  simp [World.setCell, Array.getElem?_modify, h]

/-- the same, as what is left -/
def Rr (w : World) (b : Nat) (s : List UInt8) (st : Option (List UInt8)) : Prop :=
  ∃ p d, Rf w b s p d ∧ p ≤ s.length ∧ (d = true → st = none) ∧ (d = false → st = some (s.drop p))

theorem Rr.grown {w w' : World} {b : Nat} {s : List UInt8} {st : Option (List UInt8)} {row : Option Nat} (h : Rr w b s st) (hg : w.grownBy w' row) (hne : some b ≠ row) : Rr w' b s st := by
  obtain ⟨p, d, h, h2⟩ := h
  exact ⟨p, d, h.grown hg hne, h2⟩
theorem Rr.lt {w : World} {b : Nat} {s : List UInt8} {st : Option (List UInt8)} (h : Rr w b s st) : b < w.heap.size := by
  obtain ⟨p, d, h, h2⟩ := h
  exact h.lt

set_option maxHeartbeats 400000 in
theorem rNew (l : List UInt8) (w : World) : Calls Tryd.prog 21 #[.string ⟨l.toArray⟩] w fun e w' => e = .returned (.pointer (some ⟨w.heap.size, 0, none⟩)) ∧ Rr w' w.heap.size l (some l) ∧ w.grownBy w' none ∧ w.heap.size < w'.heap.size := by
  go_enter Tryd.func21, Tryd.ntmps21
  go_wp2
  go_ret
  exact ⟨rfl, ⟨0, false, heap_alloc_new w _, by omega, by simp, by simp⟩, World.grownBy_alloc w _ none, by simp⟩
set_option maxHeartbeats 400000 in
theorem rBad (w : World) (b : Nat) (s : List UInt8) (st : Option (List UInt8)) (h : Rr w b s st) : Calls Tryd.prog 35 #[.pointer (some ⟨b, 0, none⟩)] w fun e w' => e = .returned (.bool st.isNone) ∧ w = w' := by
  obtain ⟨p, d, h, hp, h1, h2⟩ := h
  have c2 := h.c2
  cases d with
  | true =>
    obtain rfl := h1 rfl
    go_enter Tryd.func35, Tryd.ntmps35
    go_wp2
    go_ret
    exact ⟨rfl, rfl⟩
  | false =>
    obtain rfl := h2 rfl
    go_enter Tryd.func35, Tryd.ntmps35
    go_wp2
    go_ret
    exact ⟨rfl, rfl⟩
set_option maxHeartbeats 400000 in
theorem rLeft (w : World) (b : Nat) (s : List UInt8) (hs : s.length ≤ 1000000) (st : Option (List UInt8)) (h : Rr w b s st) : Calls Tryd.prog 33 #[.pointer (some ⟨b, 0, none⟩)] w fun e w' => e = .returned (.int .i64 (st.getD []).length) ∧ w.grownBy w' none := by
  obtain ⟨p, d, h, hp, h1, h2⟩ := h
  have c0 := h.c0
  have c1 := h.c1
  have c2 := h.c2
  cases d with
  | true =>
    obtain rfl := h1 rfl
    go_enter Tryd.func33, Tryd.ntmps33
    go_wp2
    go_ret
    exact ⟨rfl, World.grownBy.refl _ _⟩
  | false =>
    obtain rfl := h2 rfl
    have he : ((s.length : Int) - (p : Int)) = (((some (s.drop p)).getD []).length : Int) := by simp; omega
    have He := Lib.hid he
    clear he
    go_enter Tryd.func33, Tryd.ntmps33
    go_wp2
    go_quiet (fail)
    go_wp2
    go_ret
    exact ⟨by rw [← He.out]; rfl, grown_drewN _ nq _⟩
set_option maxHeartbeats 400000 in
theorem rFail (w : World) (b : Nat) (s : List UInt8) (st : Option (List UInt8)) (h : Rr w b s st) : Calls Tryd.prog 44 #[.pointer (some ⟨b, 0, none⟩)] w fun e w' => e = .returned (.tuple #[]) ∧ Rr w' b s none ∧ w.grownBy w' (some b) := by
  obtain ⟨p, d, h, hp, h1, h2⟩ := h
  have c2 := h.c2
  have f2 := h.fz 2
  go_enter Tryd.func44, Tryd.ntmps44
  go_wp2
  go_end0
  exact ⟨rfl, ⟨p, true, h.set2, hp, by simp, by simp⟩, grown_setCell _ _ _ _⟩

set_option maxHeartbeats 400000 in
theorem rByte_f (w : World) (b : Nat) (s : List UInt8) (hs : s.length ≤ 1000000) (k : Int) (c : UInt8) (hk : k = c.toNat) (st : Option (List UInt8)) (h : Rr w b s st) (hne : ∀ l, st ≠ some (c :: l)) :
    Calls Tryd.prog 47 #[.pointer (some ⟨b, 0, none⟩), .int .u8 k] w fun e w' => e = .returned (.bool false) ∧ w.grownBy w' none := by
  subst hk
  have HL := rLeft w b s hs st h
  obtain ⟨p, d, h, hp, h1, h2⟩ := h
  by_cases hz : (st.getD []).length = 0
  · rw [hz] at HL
    have HL := Lib.hid HL
    clear hne h1 h2
    go_enter Tryd.func47, Tryd.ntmps47
    go_wp2_with (go_at_call 33; refine HL.out.mono ?_; rintro e w1 ⟨rfl, g1⟩)
    go_quiet (fail)
    go_wp2
    go_ret
    exact ⟨rfl, g1.trans (grown_drewN _ nq _)⟩
  · cases d with
    | true => obtain rfl := h1 rfl; simp at hz
    | false =>
      obtain rfl := h2 rfl
      simp at hz
      have hpl : p < s.length := by omega
      have hx : s[p]'hpl ≠ c := fun e => hne (s.drop (p + 1)) (by rw [← e, List.drop_eq_getElem_cons hpl])
      rw [show ((some (s.drop p)).getD []).length = s.length - p by simp] at HL
      have HL := Lib.hid HL
      have hb0 : (((s.length - p : Nat) : Int) == 0) = false := by rw [beq_eq_false_iff_ne]; omega
      have hb1 : (((s[p]'hpl).toNat : Int) != (c.toNat : Int)) = true := by
        rw [bne_iff_ne]
        intro e
        exact hx (UInt8.toNat_inj.1 (by omega))
      have hi1 : (p : Int) < (s.length : Int) := by omega
      clear hne hx h1 h2
      go_enter Tryd.func47, Tryd.ntmps47
      go_wp2_with (go_at_call 33; refine HL.out.mono ?_; rintro e w1 ⟨rfl, g1⟩)
      have h' := h.grown g1 (by simp)
      have c0 := h'.c0
      have c1 := h'.c1
      go_quiet (fail)
      go_wp2
      go_ret
      exact ⟨rfl, g1.trans (grown_drewN _ nq _)⟩
set_option maxHeartbeats 400000 in
theorem rByte_t (w : World) (b : Nat) (s : List UInt8) (hs : s.length ≤ 1000000) (k : Int) (c : UInt8) (hk : k = c.toNat) (l : List UInt8) (h : Rr w b s (some (c :: l))) :
    Calls Tryd.prog 47 #[.pointer (some ⟨b, 0, none⟩), .int .u8 k] w fun e w' => e = .returned (.bool true) ∧ Rr w' b s (some l) ∧ w.grownBy w' (some b) := by
  subst hk
  have HL := Lib.hid (rLeft w b s hs _ h)
  obtain ⟨p, d, h, hp, h1, h2⟩ := h
  cases d with
  | true => cases h1 rfl
  | false =>
    have h3 := h2 rfl
    injection h3 with h3
    have hpl : p < s.length := by
      rcases Nat.lt_or_ge p s.length with h | h
      · exact h
      · rw [List.drop_eq_nil_of_le h] at h3; cases h3
    have h4 := h3
    rw [List.drop_eq_getElem_cons hpl] at h4
    injection h4 with h5 h6
    have hb0 : ((l.length : Int) + 1 == 0) = false := by rw [beq_eq_false_iff_ne]; omega
    have hb1 : (((s[p]'hpl).toNat : Int) != (c.toNat : Int)) = false := by rw [h5]; simp
    have hi1 : (p : Int) < (s.length : Int) := by omega
    have H6 := Lib.hid h6
    clear h1 h2 h3 h5 h6
    go_enter Tryd.func47, Tryd.ntmps47
    go_wp2_with (go_at_call 33; refine HL.out.mono ?_; rintro e w1 ⟨rfl, g1⟩)
    have h' := h.grown g1 (by simp)
    have c0 := h'.c0
    have c1 := h'.c1
    have f1 := h'.fz 1
    go_quiet (fail)
    go_wp2
    go_ret
    exact ⟨rfl, ⟨p + 1, false, Rf.set1 (h'.grown (grown_drewN w1 nq none) (by simp)) (p + 1), by omega, by simp, fun _ => by rw [H6.out]⟩, (grown_any (g1.trans (grown_drewN _ nq _)) _).trans (grown_setCell _ _ _ _)⟩
end Go.Proofs.YtmohcanfkcopiaaDoor
