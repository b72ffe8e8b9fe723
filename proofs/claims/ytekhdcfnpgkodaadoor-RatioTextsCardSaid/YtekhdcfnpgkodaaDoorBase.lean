/-
  The world that every call of this seat begins in, and the library's contracts in its words.
-/
import Derived.Test.YtekhdcfnpgkodaaDoorShelf
import Derived.Test.YtekhdcfnpgkodaaDoorDec
import Derived.Test.YtekhdcfnpgkodaaDoorRight
namespace Go.Proofs.YtekhdcfnpgkodaaDoor
open Go.RowKit

/-- what the package-level variables hold that the library reads -/
structure Base (w : World) : Prop where
  tab : Lib.TabIs Tryd.prog w "internal/strconv.uint64pow10" .u64 Lib.pow10Tab
  syn : ∃ t p, w.cell? ⟨1, 0, none⟩ = some (.iface t p)
  ran : ∃ t p, w.cell? ⟨2, 0, none⟩ = some (.iface t p)
  mx : ∃ m, w.cell? ⟨0, 0, none⟩ = some (.int .i64 m)
  size : 6 ≤ w.heap.size

theorem gTab : Tryd.prog.globalNamed "internal/strconv.uint64pow10" = some 3 := by kernel_rfl

theorem grown_of_below {w w' : World} (h : Below w.heap.size w w') : w.grownBy w' none := ⟨h.os, h.tape, h.output, h.size, fun i hi _ => h.block i hi⟩
theorem below_of_grown {w w' : World} (h : w.grownBy w' none) : Below w.heap.size w w' := ⟨h.os, h.tape, h.output, h.size, fun i hi => h.block i hi (by simp)⟩

theorem Base.grown {w w' : World} {row : Option Nat} (h : Base w) (hg : w.grownBy w' row) (hr : ∀ b, row = some b → 6 ≤ b) : Base w' := by
  have hs := h.size
  have hb : ∀ i, i < 6 → w'.heap[i]? = w.heap[i]? := fun i hi => hg.block i (by omega) (fun e => by have := hr i e.symm; omega)
  refine ⟨?_, ?_, ?_, ?_, Nat.le_trans h.size hg.size⟩
  · have ht := h.tab
    unfold Lib.TabIs World.var? at ht ⊢
    rw [gTab] at ht ⊢
    simp only [Option.bind_some] at ht ⊢
    rw [hb 3 (by omega)]
    exact ht
  · obtain ⟨t, p, hc⟩ := h.syn
    exact ⟨t, p, (World.cell?_of_block (hb 1 (by omega))).trans hc⟩
  · obtain ⟨t, p, hc⟩ := h.ran
    exact ⟨t, p, (World.cell?_of_block (hb 2 (by omega))).trans hc⟩
  · obtain ⟨m, hc⟩ := h.mx
    exact ⟨m, (World.cell?_of_block (hb 0 (by omega))).trans hc⟩
theorem Base.none_ {w w' : World} (h : Base w) (hg : w.grownBy w' none) : Base w' := h.grown hg (by simp)

theorem grown_grow (w : World) (os : Array Obj) (row : Option Nat) : w.grownBy (Go.Sort.grow w os) row :=
  ⟨rfl, rfl, rfl, by simp, fun i hi _ => Go.Sort.heap_grow_old w os hi⟩
/-- strconv.Itoa -/
theorem itoa_k (n : Int) (h : i64 n) (w : World) (hb : Base w) :
    Calls Tryd.prog 40 #[.int .i64 n] w fun e w' => e = .returned (.string ⟨(Lib.itoa n).toArray⟩) ∧ w.grownBy w' none :=
  (Tryd.strconv_Itoa n h.1 h.2 w hb.tab).mono fun _ _ ⟨he, k, os, hw⟩ => ⟨he, by rw [hw]; exact (grown_drewN w k none).trans (grown_grow _ os none)⟩
theorem str_app (a b : List UInt8) : (⟨a.toArray⟩ : ByteArray) ++ ⟨b.toArray⟩ = ⟨(a ++ b).toArray⟩ := by
  apply ByteArray.ext; simp
theorem ret_str {a b : ByteArray} (h : a = b) : Ending.returned (.string a) = .returned (.string b) := by rw [h]
/-- strings.Cut at a slash -/
theorem cut_k (s : List UInt8) (hs : s.length < 4294967281) (w : World) (hb : Base w) :
    Calls Tryd.prog 41 #[.string ⟨s.toArray⟩, .string ⟨#[47]⟩] w fun e w' => e = .returned (.tuple #[.string ⟨(Lib.cut s [47]).1.toArray⟩, .string ⟨(Lib.cut s [47]).2.1.toArray⟩, .bool (Lib.cut s [47]).2.2]) ∧ w.grownBy w' none := by
  obtain ⟨m, hm⟩ := hb.mx
  have := Tryd.strings_Cut ⟨s.toArray⟩ ⟨#[47]⟩ m w (by show s.toArray.size < _; simpa using hs) hm
  refine this.mono ?_
  rintro e w' ⟨rfl, n, rfl⟩
  exact ⟨by simp, grown_drewN w n none⟩
/-- strconv.Atoi: a number, or an error -/
theorem atoi_k (f : List UInt8) (hf : f.length ≤ 4294967296) (v : Int) (h : numO f = some v) (w : World) :
    Calls Tryd.prog 42 #[.string ⟨f.toArray⟩] w fun e w' => e = .returned (.tuple #[.int .i64 v, .nilIface]) ∧ w.grownBy w' none :=
  (Tryd.strconv_Atoi_ok ⟨f.toArray⟩ (by show f.toArray.size ≤ _; simp; omega) v (by simpa using numO_ok h) w).mono fun _ _ ⟨he, hw⟩ => ⟨he, by
    rcases hw with rfl | ⟨t, rfl⟩
    · exact World.grownBy.refl _ _
    · exact grown_of_below (Lib.bytesWorld_below _ _ _)⟩
def AtoiNo (w : World) (e : Ending) (w' : World) : Prop := ∃ v N, e = .returned (.tuple #[.int .i64 v, .iface 86 (.pointer (some ⟨N, 0, none⟩))]) ∧ w.grownBy w' none
theorem atoi_no (f : List UInt8) (hf : f.length ≤ 4294967296) (h : numO f = none) (w : World) (hb : Base w) : Calls Tryd.prog 42 #[.string ⟨f.toArray⟩] w (AtoiNo w) := by
  unfold numO at h
  cases hx : Lib.atoiAll f with
  | ok v => rw [hx] at h; cases h
  | range =>
    obtain ⟨t, p, hc⟩ := hb.ran
    exact (Tryd.strconv_Atoi_range ⟨f.toArray⟩ (by show f.toArray.size ≤ _; simp; omega) (by simpa using hx) _ w hc (.inr ⟨t, p, rfl⟩)).mono fun _ _ ⟨N, he, _, _, hw⟩ => ⟨_, N, he, grown_of_below hw⟩
  | _ =>
    obtain ⟨t, p, hc⟩ := hb.syn
    exact (Any.strconv_Atoi_syntax Tryd.laysC172 ⟨f.toArray⟩ (by show f.toArray.size ≤ _; simp; omega) (by simpa using hx) _ w hc (.inr ⟨t, p, rfl⟩)).mono fun _ _ ⟨N, he, _, _, hw⟩ => ⟨0, N, he, grown_of_below hw⟩
end Go.Proofs.YtekhdcfnpgkodaaDoor
