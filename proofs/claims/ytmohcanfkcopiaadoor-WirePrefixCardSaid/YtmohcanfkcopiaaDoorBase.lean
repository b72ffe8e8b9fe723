/-
  The world that every call of this seat begins in, and the library's contracts in its words.
-/
import Derived.Test.YtmohcanfkcopiaaDoorShelf
import Derived.Test.YtmohcanfkcopiaaDoorMath
import Derived.WalkKit
import Derived.WalkSpells
import Derived.WalkLawsBesides
import Derived.Lib.Hide
import Derived.Maps.AppendAt
import Derived.Maps.Range
namespace Go.Proofs.YtmohcanfkcopiaaDoor
open Go.RowKit

/-- what the package-level variables hold that the library reads -/
structure Base (w : World) : Prop where
  tab : Lib.TabIs Tryd.prog w "internal/strconv.uint64pow10" .u64 Lib.pow10Tab
  syn : ∃ t p, w.cell? ⟨2, 0, none⟩ = some (.iface t p)
  ran : ∃ t p, w.cell? ⟨3, 0, none⟩ = some (.iface t p)
  size : 6 ≤ w.heap.size

theorem gTab : Tryd.prog.globalNamed "internal/strconv.uint64pow10" = some 0 := by kernel_rfl

theorem grown_of_below {w w' : World} (h : Below w.heap.size w w') : w.grownBy w' none := ⟨h.os, h.tape, h.output, h.size, fun i hi _ => h.block i hi⟩
theorem below_of_grown {w w' : World} (h : w.grownBy w' none) : Below w.heap.size w w' := ⟨h.os, h.tape, h.output, h.size, fun i hi => h.block i hi (by simp)⟩

theorem Base.grown {w w' : World} {row : Option Nat} (h : Base w) (hg : w.grownBy w' row) (hr : ∀ b, row = some b → 6 ≤ b) : Base w' := by
  have hs := h.size
  have hb : ∀ i, i < 6 → w'.heap[i]? = w.heap[i]? := fun i hi => hg.block i (by omega) (fun e => by have := hr i e.symm; omega)
  refine ⟨?_, ?_, ?_, Nat.le_trans h.size hg.size⟩
  · have ht := h.tab
    unfold Lib.TabIs World.var? at ht ⊢
    rw [gTab] at ht ⊢
    simp only [Option.bind_some] at ht ⊢
    rw [hb 0 (by omega)]
    exact ht
  · obtain ⟨t, p, hc⟩ := h.syn
    exact ⟨t, p, (World.cell?_of_block (hb 2 (by omega))).trans hc⟩
  · obtain ⟨t, p, hc⟩ := h.ran
    exact ⟨t, p, (World.cell?_of_block (hb 3 (by omega))).trans hc⟩
theorem Base.none_ {w w' : World} (h : Base w) (hg : w.grownBy w' none) : Base w' := h.grown hg (by simp)

theorem grown_drewN (w : World) (k : Nat) (row : Option Nat) : w.grownBy (w.drewN k) row := ⟨rfl, rfl, rfl, Nat.le_refl _, fun _ _ _ => rfl⟩
theorem grown_grow (w : World) (os : Array Obj) (row : Option Nat) : w.grownBy (Go.Sort.grow w os) row :=
  ⟨rfl, rfl, rfl, by simp, fun i hi _ => Go.Sort.heap_grow_old w os hi⟩

/-- strconv.Itoa -/
theorem itoa_k (n : Int) (h : I64 n) (w : World) (hb : Base w) :
    Calls Tryd.prog 38 #[.int .i64 n] w fun e w' => e = .returned (.string ⟨(Lib.itoa n).toArray⟩) ∧ w.grownBy w' none :=
  (Tryd.strconv_Itoa n h.1 h.2 w hb.tab).mono fun _ _ ⟨he, k, os, hw⟩ => ⟨he, by rw [hw]; exact (grown_drewN w k none).trans (grown_grow _ os none)⟩


theorem str_app (a b : List UInt8) : (⟨a.toArray⟩ : ByteArray) ++ ⟨b.toArray⟩ = ⟨(a ++ b).toArray⟩ := by
  apply ByteArray.ext; simp
theorem get_mk (l : List UInt8) (i : Nat) (h : i < (⟨l.toArray⟩ : ByteArray).size) : (⟨l.toArray⟩ : ByteArray)[i]'h = l[i]'(by simpa [ByteArray.size] using h) := rfl
theorem extract_mk (l : List UInt8) (i j : Nat) : (⟨l.toArray⟩ : ByteArray).extract i j = ⟨((l.take j).drop i).toArray⟩ := by
  apply ByteArray.ext
  simp [List.drop_take]
attribute [local go_sem] get_mk extract_mk
theorem ret_str {a b : ByteArray} (h : a = b) : Ending.returned (.string a) = .returned (.string b) := by rw [h]

set_option maxHeartbeats 400000 in
/-- wire.Int -/
theorem wInt (n : Int) (h : I64 n) (w : World) (hb : Base w) :
    Calls Tryd.prog 12 #[.int .i64 n] w fun e w' => e = .returned (.string ⟨(serI n).toArray⟩) ∧ w.grownBy w' none := by
  have hl := itoa_len h
  have hl' : ¬ 9223372036854775807 < (Lib.itoa n).length + 1 := by omega
  go_enter Tryd.func12, Tryd.ntmps12
  go_wp2_with (go_at_call 38; refine (itoa_k n h w hb).mono ?_; rintro e w' ⟨rfl, hg⟩)
  go_ret
  exact ⟨ret_str (str_app _ [59]), hg⟩

set_option maxHeartbeats 400000 in
/-- wire.Text -/
theorem wText (l : List UInt8) (hl : l.length ≤ 4611686018427387904) (w : World) (hb : Base w) :
    Calls Tryd.prog 14 #[.string ⟨l.toArray⟩] w fun e w' => e = .returned (.string ⟨(serT l).toArray⟩) ∧ w.grownBy w' none := by
  have hi : I64 (l.length : Int) := ⟨by omega, by omega⟩
  have hk := itoa_len hi
  go_enter Tryd.func14, Tryd.ntmps14
  go_wp2_with (go_at_call 38; refine (itoa_k _ hi w hb).mono ?_; rintro e w' ⟨rfl, hg⟩)
  go_ret
  exact ⟨ret_str (by rw [str_app _ [58], str_app, serT, List.append_assoc]; rfl), hg⟩

/-- what a reader holds: what is left, or nothing, if it is bad -/
def Rd (w : World) (b : Nat) (st : Option (List UInt8)) : Prop :=
  w.heap[b]? = some (.cells #[.string ⟨(st.getD []).toArray⟩, .bool st.isNone] 53 (0, 0))

theorem Rd.c0 {w : World} {b : Nat} {st : Option (List UInt8)} (h : Rd w b st) : w.cell? ⟨b, 0, none⟩ = some (.string ⟨(st.getD []).toArray⟩) := by
  unfold Rd at h; simp [World.cell?, h]
theorem Rd.c1 {w : World} {b : Nat} {st : Option (List UInt8)} (h : Rd w b st) : w.cell? ⟨b, 1, none⟩ = some (.bool st.isNone) := by
  unfold Rd at h; simp [World.cell?, h]
theorem Rd.fz {w : World} {b : Nat} {st : Option (List UInt8)} (h : Rd w b st) (i : Nat) : w.frozen? ⟨b, i, none⟩ = false := by
  unfold Rd at h; simp [World.frozen?, h]
theorem Rd.lt {w : World} {b : Nat} {st : Option (List UInt8)} (h : Rd w b st) : b < w.heap.size := by
  rcases Nat.lt_or_ge b w.heap.size with hlt | hge
  · exact hlt
  · unfold Rd at h; rw [Array.getElem?_eq_none hge] at h; cases h
theorem Rd.grown {w w' : World} {b : Nat} {st : Option (List UInt8)} {row : Option Nat} (h : Rd w b st) (hg : w.grownBy w' row) (hne : some b ≠ row) : Rd w' b st :=
  (hg.block b h.lt hne).trans h
theorem Rd.set0 {w : World} {b : Nat} {l : List UInt8} (h : Rd w b (some l)) (m : List UInt8) : Rd (w.setCell ⟨b, 0, none⟩ (.string ⟨m.toArray⟩)) b (some m) := by
  unfold Rd at h ⊢
  simp [World.setCell, Array.getElem?_modify, h]
theorem Rd.bad {w : World} {b : Nat} {st : Option (List UInt8)} (h : Rd w b st) : Rd ((w.setCell ⟨b, 0, none⟩ (.string ⟨#[]⟩)).setCell ⟨b, 1, none⟩ (.bool true)) b none := by
  unfold Rd at h ⊢
  simp [World.setCell, Array.getElem?_modify, h]
theorem grown_setCell (w : World) (b i : Nat) (v : Value) : w.grownBy (w.setCell ⟨b, i, none⟩ v) (some b) :=
  ⟨rfl, rfl, rfl, by simp [World.setCell], fun k _ hne => Below.heap_setCell w _ v k (by rintro rfl; exact hne rfl)⟩

set_option maxHeartbeats 400000 in
theorem Bad_nil (w : World) : Calls Tryd.prog 34 #[.pointer none] w fun e w' => e = .returned (.bool true) ∧ w = w' := by
  go_enter Tryd.func34, Tryd.ntmps34
  go_wp2
  go_ret
  exact ⟨rfl, rfl⟩
set_option maxHeartbeats 400000 in
theorem Bad_at (w : World) (b : Nat) (v : Bool) (h : w.cell? ⟨b, 1, none⟩ = some (.bool v)) : Calls Tryd.prog 34 #[.pointer (some ⟨b, 0, none⟩)] w fun e w' => e = .returned (.bool v) ∧ w = w' := by
  go_enter Tryd.func34, Tryd.ntmps34
  go_wp2
  go_ret
  exact ⟨rfl, rfl⟩
set_option maxHeartbeats 400000 in
theorem Left_at (w : World) (b : Nat) (l : List UInt8) (h0 : w.cell? ⟨b, 0, none⟩ = some (.string ⟨l.toArray⟩)) (h : w.cell? ⟨b, 1, none⟩ = some (.bool false)) : Calls Tryd.prog 32 #[.pointer (some ⟨b, 0, none⟩)] w fun e w' => e = .returned (.int .i64 l.length) ∧ w = w' := by
  go_enter Tryd.func32, Tryd.ntmps32
  go_wp2_with (go_at_call 34; refine (Bad_at w b false h).mono ?_; rintro e w' ⟨rfl, rfl⟩)
  go_ret
  exact ⟨rfl, rfl⟩

set_option maxHeartbeats 400000 in
theorem Left_bad (w : World) (b : Nat) (h : w.cell? ⟨b, 1, none⟩ = some (.bool true)) : Calls Tryd.prog 32 #[.pointer (some ⟨b, 0, none⟩)] w fun e w' => e = .returned (.int .i64 0) ∧ w = w' := by
  go_enter Tryd.func32, Tryd.ntmps32
  go_wp2_with (go_at_call 34; refine (Bad_at w b true h).mono ?_; rintro e w' ⟨rfl, rfl⟩)
  go_ret
  exact ⟨rfl, rfl⟩
set_option maxHeartbeats 400000 in
theorem Left_nil (w : World) : Calls Tryd.prog 32 #[.pointer none] w fun e w' => e = .returned (.int .i64 0) ∧ w = w' := by
  go_enter Tryd.func32, Tryd.ntmps32
  go_wp2_with (go_at_call 34; refine (Bad_nil w).mono ?_; rintro e w' ⟨rfl, rfl⟩)
  go_ret
  exact ⟨rfl, rfl⟩
set_option maxHeartbeats 400000 in
theorem fail_nil (w : World) : Calls Tryd.prog 45 #[.pointer none] w fun e w' => e = .returned (.tuple #[]) ∧ w = w' := by
  go_enter Tryd.func45, Tryd.ntmps45
  go_wp2
  go_end0
  exact ⟨rfl, rfl⟩
set_option maxHeartbeats 400000 in
theorem fail_at (w : World) (b : Nat) (st : Option (List UInt8)) (h : Rd w b st) : Calls Tryd.prog 45 #[.pointer (some ⟨b, 0, none⟩)] w fun e w' => e = .returned (.tuple #[]) ∧ Rd w' b none ∧ w.grownBy w' (some b) := by
  have h0 := h.c0
  have h1 := h.c1
  have f0 := h.fz 0
  have f1 := h.fz 1
  go_enter Tryd.func45, Tryd.ntmps45
  go_wp2
  go_end0
  exact ⟨rfl, h.bad, (grown_setCell _ _ _ _).trans (grown_setCell _ _ _ _)⟩

set_option maxHeartbeats 400000 in
theorem skip_nil (w : World) (k : Int) : Calls Tryd.prog 55 #[.pointer none, .int .u8 k] w fun e w' => e = .returned (.bool false) ∧ w = w' := by
  go_enter Tryd.func55, Tryd.ntmps55
  go_wp2_with (go_at_call 34; refine (Bad_nil w).mono ?_; rintro e w' ⟨rfl, rfl⟩)
  go_ret
  exact ⟨rfl, rfl⟩
set_option maxHeartbeats 400000 in
theorem skip_bad (w : World) (b : Nat) (k : Int) (h : Rd w b none) : Calls Tryd.prog 55 #[.pointer (some ⟨b, 0, none⟩), .int .u8 k] w fun e w' => e = .returned (.bool false) ∧ w = w' := by
  have h1 := h.c1
  go_enter Tryd.func55, Tryd.ntmps55
  go_wp2_with (go_at_call 34; refine (Bad_at w b true h1).mono ?_; rintro e w' ⟨rfl, rfl⟩)
  go_ret
  exact ⟨rfl, rfl⟩
set_option maxHeartbeats 400000 in
theorem skip_empty (w : World) (b : Nat) (k : Int) (h : Rd w b (some [])) : Calls Tryd.prog 55 #[.pointer (some ⟨b, 0, none⟩), .int .u8 k] w fun e w' => e = .returned (.bool false) ∧ w = w' := by
  have h0 := h.c0
  have h1 := h.c1
  simp only [Option.getD_some] at h0
  go_enter Tryd.func55, Tryd.ntmps55
  go_wp2_with (go_at_call 34; refine (Bad_at w b false h1).mono ?_; rintro e w' ⟨rfl, rfl⟩)
  go_ret
  exact ⟨rfl, rfl⟩
set_option maxHeartbeats 400000 in
theorem skip_no (w : World) (b : Nat) (k : Int) (c : UInt8) (l : List UInt8) (hk' : ((c.toNat : Int) != k) = true) (h : Rd w b (some (c :: l))) : Calls Tryd.prog 55 #[.pointer (some ⟨b, 0, none⟩), .int .u8 k] w fun e w' => e = .returned (.bool false) ∧ w = w' := by
  have h0 := h.c0
  have h1 := h.c1
  simp only [Option.getD_some] at h0
  go_enter Tryd.func55, Tryd.ntmps55
  go_wp2_with (go_at_call 34; refine (Bad_at w b false h1).mono ?_; rintro e w' ⟨rfl, rfl⟩)

  go_ret
  exact ⟨rfl, rfl⟩
set_option maxHeartbeats 400000 in
theorem skip_yes (w : World) (b : Nat) (k : Int) (c : UInt8) (l : List UInt8) (hk' : ((c.toNat : Int) != k) = false) (h : Rd w b (some (c :: l))) : Calls Tryd.prog 55 #[.pointer (some ⟨b, 0, none⟩), .int .u8 k] w fun e w' => e = .returned (.bool true) ∧ Rd w' b (some l) ∧ w.grownBy w' (some b) := by
  have h0 := h.c0
  have h1 := h.c1
  have f0 := h.fz 0
  simp only [Option.getD_some] at h0
  go_enter Tryd.func55, Tryd.ntmps55
  go_wp2_with (go_at_call 34; refine (Bad_at w b false h1).mono ?_; rintro e w' ⟨rfl, rfl⟩)

  go_ret
  exact ⟨rfl, h.set0 l, grown_setCell _ _ _ _⟩
end Go.Proofs.YtmohcanfkcopiaaDoor
