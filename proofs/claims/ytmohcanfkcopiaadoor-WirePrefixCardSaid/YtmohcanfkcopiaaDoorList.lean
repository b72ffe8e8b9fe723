/-
  wire.list at int and at string, Ints and Texts, by their contracts.
-/
import Derived.Test.YtmohcanfkcopiaaDoorBase
import Derived.Deep.LoopGhost
import Derived.OwnWalk
namespace Go.Proofs.YtmohcanfkcopiaaDoor
open Go.RowKit
attribute [local go_sem] get_mk extract_mk

/-- a slice value that reads as a list of cells -/
def Sl (w : World) (v : Value) (xs : List Value) : Prop :=
  ∃ A c, v = .slice A xs.length c ∧ xs.length ≤ c ∧ c ≤ maxLen ∧ (0 < xs.length → ∃ ad, A = some ad ∧ ad.block < w.heap.size ∧ ∀ j u, xs[j]? = some u → w.cell? (ad.add j) = some u)

theorem add_block (a : Addr) (n : Nat) : (a.add n).block = a.block := by unfold Addr.add; split <;> rfl

theorem builder_new (w : World) : Lib.IsBuilder 66 5 w.heap.size w.heap.size (Lib.byteCells []) (w.alloc (.cells #[.pointer none, .slice none 0 0] 66)) :=
  .inl ⟨Nat.le_refl _, _, heap_alloc_new w _, World.ownsRow_nil _ _ _ _, by simp [Value.ownBlock]⟩
theorem builder_kept {w w' : World} {T e : TypeId} {B b : Nat} {bs : List Value} (h : Lib.IsBuilder T e B b bs w) (hg : w.grownBy w' none) : Lib.IsBuilder T e B b bs w' := by
  have one : ∀ p, Lib.BuilderAt T e B b p bs w → Lib.BuilderAt T e B b p bs w' := by
    rintro p ⟨hB, v, hb, ho, hn⟩
    refine ⟨hB, v, ?_, ho.kept hg ?_, hn⟩
    · rw [hg.block b (Array.getElem?_eq_some_iff.1 hb).1 (by simp)]
      exact hb
    · cases v.ownBlock with
      | none => exact .inl rfl
      | some k => exact .inr (by simp)
  exact h.elim (fun x => .inl (one _ x)) (fun x => .inr (one _ x))

theorem write_byte (B b : Nat) (l : List UInt8) (c : UInt8) (w : World) (h : Lib.IsBuilder 66 5 B b (Lib.byteCells l) w) (hl : l.length < 2000000) (hB : B ≤ w.heap.size) :
    Calls Tryd.prog 50 #[.pointer (some ⟨b, 0, none⟩), .int .u8 c.toNat] w fun e w' => e = .returned .nilIface ∧ Lib.IsBuilder 66 5 B b (Lib.byteCells (l ++ [c])) w' ∧ Below B w w' :=
  (Tryd.Builder_WriteByte B b _ c.toNat w h (by rw [Lib.byteCells_length]; omega) hB).mono fun _ _ ⟨he, hbd, hw⟩ => ⟨he, .inr (by rw [Lib.byteCells_append]; exact hbd), hw⟩
theorem write_str (B b : Nat) (l s : List UInt8) (w : World) (h : Lib.IsBuilder 66 5 B b (Lib.byteCells l) w) (hl : l.length + s.length < 2000000) (hB : B ≤ w.heap.size) :
    Calls Tryd.prog 51 #[.pointer (some ⟨b, 0, none⟩), .string ⟨s.toArray⟩] w fun e w' => e = .returned (.tuple #[.int .i64 s.length, .nilIface]) ∧ Lib.IsBuilder 66 5 B b (Lib.byteCells (l ++ s)) w' ∧ Below B w w' := by
  have hs : (⟨s.toArray⟩ : ByteArray).size = s.length := by show s.toArray.size = _; simp
  refine (Tryd.Builder_WriteString B b _ ⟨s.toArray⟩ w h (by rw [Lib.byteCells_length, hs]; omega) hB).mono fun _ _ ⟨he, hbd, hw⟩ => ⟨by rw [he, hs], .inr ?_, hw⟩
  rw [Lib.byteCells_append]
  rw [Lib.strCells_eq] at hbd
  simpa using hbd

def ILoop (w : World) (l : List Int) (i : Value) (wr : World) : Prop :=
  ∃ k : Nat, k ≤ l.length ∧ i = .int .i64 k ∧ Lib.IsBuilder 66 5 w.heap.size w.heap.size (Lib.byteCells (91 :: (l.take k).flatMap serI)) wr ∧ Below w.heap.size w wr ∧ w.heap.size ≤ wr.heap.size

theorem take_one {α : Type} (l : List α) (k : Nat) (x : α) (h : l[k]? = some x) : l.take (k + 1) = l.take k ++ [x] := by
  obtain ⟨hk, rfl⟩ := List.getElem?_eq_some_iff.1 h
  rw [List.take_succ_eq_append_getElem hk]
theorem flat_take_le {α : Type} (f : α → List UInt8) (l : List α) (k : Nat) : ((l.take k).flatMap f).length ≤ (l.flatMap f).length := by
  have h := List.take_append_drop k l
  have : (l.flatMap f).length = ((l.take k).flatMap f).length + ((l.drop k).flatMap f).length := by rw [← List.length_append, ← List.flatMap_append, h]
  omega

set_option maxRecDepth 100000 in
set_option maxHeartbeats 1000000 in
theorem ilist_k (A : Option Addr) (c n : Nat) (l : List Int) (w : World) (hb : Base w) (hn : n = l.length) (hi : ∀ x ∈ l, I64 x) (hs : (l.flatMap serI).length < 1000000) (hc : n ≤ c) (hm : c ≤ maxLen)
    (hA : 0 < n → ∃ ad, A = some ad ∧ ad.block < w.heap.size ∧ ∀ j x, l[j]? = some x → w.cell? (ad.add j) = some (.int .i64 x)) :
    Calls Tryd.prog 40 #[.slice A n c, .func (.func 12) #[] #[]] w fun e w' => e = .returned (.string ⟨(serL serI l).toArray⟩) ∧ w.grownBy w' none := by
  have hb' := Lib.hid hb
  unfold maxLen at hm
  have hn' := Lib.hid hn
  have hle : n ≤ l.length := by omega
  have hge : l.length ≤ n := by omega
  clear hn
  have hbn := builder_new w
  go_enter Tryd.func40, Tryd.ntmps40
  go_wp2_with (go_at_call 50; refine (write_byte _ _ [] 91 _ hbn (by simp) (by simp)).mono ?_; rintro e w1 ⟨rfl, hbd1, hw1⟩)
  have hB1 : Below w.heap.size w w1 := ((Below.refl _ w).alloc (Nat.le_refl _) _).trans hw1
  go_loopw [11] (fun i wr => ILoop w l i wr) (fun i _ => n - (intOf i).toNat)
  case atStart => exact ⟨0, by omega, rfl, hbd1, hB1, hB1.size⟩
  case round =>
    obtain ⟨k, hk, rfl, hbd, hB, hsz⟩ := hrel
    by_cases hlt : k < n
    · obtain ⟨ad, rfl, hab, hcell⟩ := hA (by omega)
      obtain ⟨x, hx⟩ : ∃ x, l[k]? = some x := ⟨_, List.getElem?_eq_getElem (by omega)⟩
      have hcx := (hB.cell (p := ad.add k) (by rw [add_block]; exact hab)).trans (hcell k x hx)
      have hix : I64 x := hi x (List.mem_of_getElem? hx)
      have hbr : Base _ := hb'.out.none_ (grown_of_below hB)
      have hx' := Lib.hid hx
      clear hcell hx
      have H := Lib.hid (wInt x hix _ hbr)
      have hfl := flat_take_le serI l k
      have hfk := Lib.hid (flat_take_le serI l (k + 1))
      have hsx : ((l.take k).flatMap serI).length + (serI x).length = ((l.take (k + 1)).flatMap serI).length := by rw [take_one l k x hx'.out]; simp
      have hlen : (91 :: (l.take k).flatMap serI).length + (serI x).length < 2000000 := by
        have := hfk.out
        simp only [List.length_cons]
        omega
      have Hlen := Lib.hid hlen
      clear hlen hsx hfl
      go_wp2_with (first
        | (go_at_call 12; refine H.out.mono ?_; rintro e w2 ⟨rfl, hg2⟩; have hbd2 := builder_kept hbd hg2; have hsz2 := hg2.size)
        | (go_at_call 51; refine (write_str _ _ _ _ _ hbd2 Hlen.out (by omega)).mono ?_; rintro e w3 ⟨rfl, hbd3, hw3⟩))
      go_roundw
      case rel =>
        refine ⟨k + 1, by omega, by go_num, ?_, (hB.trans ((below_of_grown hg2).mono hsz)).trans hw3, by have := hw3.size; omega⟩
        rw [take_one l k x hx'.out, List.flatMap_append]
        simpa using hbd3
      case measure => simp [intOf]; omega
    · have hkn : l.take k = l := List.take_of_length_le (by omega)
      rw [hkn] at hbd
      have hl1 : (91 :: l.flatMap serI).length < 2000000 := by simp only [List.length_cons]; omega
      have Hl1 := Lib.hid hl1
      clear hl1 hkn
      go_wp2_with (first
        | (go_at_call 50; refine (write_byte _ _ _ 93 _ hbd Hl1.out (by omega)).mono ?_; rintro e w2 ⟨rfl, hbd2, hw2⟩; have hsz2 := hw2.size)
        | (go_at_call 52; refine (Tryd.Builder_String_any _ _ _ _ hbd2 (by omega)).mono ?_; rintro e w3 ⟨rfl, hw3⟩))
      go_ret
      exact ⟨rfl, grown_of_below (hB.trans (hw2.trans hw3))⟩
def TLoop (w : World) (l : List (List UInt8)) (i : Value) (wr : World) : Prop :=
  ∃ k : Nat, k ≤ l.length ∧ i = .int .i64 k ∧ Lib.IsBuilder 66 5 w.heap.size w.heap.size (Lib.byteCells (91 :: (l.take k).flatMap serT)) wr ∧ Below w.heap.size w wr ∧ w.heap.size ≤ wr.heap.size


set_option maxRecDepth 100000 in
set_option maxHeartbeats 1000000 in
theorem tlist_k (A : Option Addr) (c n : Nat) (l : List (List UInt8)) (w : World) (hb : Base w) (hn : n = l.length) (hi : ∀ x ∈ l, x.length ≤ 4611686018427387904) (hs : (l.flatMap serT).length < 1000000) (hc : n ≤ c) (hm : c ≤ maxLen)
    (hA : 0 < n → ∃ ad, A = some ad ∧ ad.block < w.heap.size ∧ ∀ j x, l[j]? = some x → w.cell? (ad.add j) = some (.string ⟨x.toArray⟩)) :
    Calls Tryd.prog 41 #[.slice A n c, .func (.func 14) #[] #[]] w fun e w' => e = .returned (.string ⟨(serL serT l).toArray⟩) ∧ w.grownBy w' none := by
  have hb' := Lib.hid hb
  unfold maxLen at hm
  have hn' := Lib.hid hn
  have hle : n ≤ l.length := by omega
  have hge : l.length ≤ n := by omega
  clear hn
  have hbn := builder_new w
  go_enter Tryd.func41, Tryd.ntmps41
  go_wp2_with (go_at_call 50; refine (write_byte _ _ [] 91 _ hbn (by simp) (by simp)).mono ?_; rintro e w1 ⟨rfl, hbd1, hw1⟩)
  have hB1 : Below w.heap.size w w1 := ((Below.refl _ w).alloc (Nat.le_refl _) _).trans hw1
  go_loopw [11] (fun i wr => TLoop w l i wr) (fun i _ => n - (intOf i).toNat)
  case atStart => exact ⟨0, by omega, rfl, hbd1, hB1, hB1.size⟩
  case round =>
    obtain ⟨k, hk, rfl, hbd, hB, hsz⟩ := hrel
    by_cases hlt : k < n
    · obtain ⟨ad, rfl, hab, hcell⟩ := hA (by omega)
      obtain ⟨x, hx⟩ : ∃ x, l[k]? = some x := ⟨_, List.getElem?_eq_getElem (by omega)⟩
      have hcx := (hB.cell (p := ad.add k) (by rw [add_block]; exact hab)).trans (hcell k x hx)
      have hix : x.length ≤ 4611686018427387904 := hi x (List.mem_of_getElem? hx)
      have hbr : Base _ := hb'.out.none_ (grown_of_below hB)
      have hx' := Lib.hid hx
      clear hcell hx
      have H := Lib.hid (wText x hix _ hbr)
      have hfl := flat_take_le serT l k
      have hfk := Lib.hid (flat_take_le serT l (k + 1))
      have hsx : ((l.take k).flatMap serT).length + (serT x).length = ((l.take (k + 1)).flatMap serT).length := by rw [take_one l k x hx'.out]; simp
      have hlen : (91 :: (l.take k).flatMap serT).length + (serT x).length < 2000000 := by
        have := hfk.out
        simp only [List.length_cons]
        omega
      have Hlen := Lib.hid hlen
      clear hlen hsx hfl
      go_wp2_with (first
        | (go_at_call 14; refine H.out.mono ?_; rintro e w2 ⟨rfl, hg2⟩; have hbd2 := builder_kept hbd hg2; have hsz2 := hg2.size)
        | (go_at_call 51; refine (write_str _ _ _ _ _ hbd2 Hlen.out (by omega)).mono ?_; rintro e w3 ⟨rfl, hbd3, hw3⟩))
      go_roundw
      case rel =>
        refine ⟨k + 1, by omega, by go_num, ?_, (hB.trans ((below_of_grown hg2).mono hsz)).trans hw3, by have := hw3.size; omega⟩
        rw [take_one l k x hx'.out, List.flatMap_append]
        simpa using hbd3
      case measure => simp [intOf]; omega
    · have hkn : l.take k = l := List.take_of_length_le (by omega)
      rw [hkn] at hbd
      have hl1 : (91 :: l.flatMap serT).length < 2000000 := by simp only [List.length_cons]; omega
      have Hl1 := Lib.hid hl1
      clear hl1 hkn
      go_wp2_with (first
        | (go_at_call 50; refine (write_byte _ _ _ 93 _ hbd Hl1.out (by omega)).mono ?_; rintro e w2 ⟨rfl, hbd2, hw2⟩; have hsz2 := hw2.size)
        | (go_at_call 52; refine (Tryd.Builder_String_any _ _ _ _ hbd2 (by omega)).mono ?_; rintro e w3 ⟨rfl, hw3⟩))
      go_ret
      exact ⟨rfl, grown_of_below (hB.trans (hw2.trans hw3))⟩

set_option maxHeartbeats 400000 in
/-- wire.Ints -/
theorem wInts (A : Option Addr) (c n : Nat) (l : List Int) (w : World) (hb : Base w) (hn : n = l.length) (hi : ∀ x ∈ l, I64 x) (hs : (l.flatMap serI).length < 1000000) (hc : n ≤ c) (hm : c ≤ maxLen)
    (hA : 0 < n → ∃ ad, A = some ad ∧ ad.block < w.heap.size ∧ ∀ j x, l[j]? = some x → w.cell? (ad.add j) = some (.int .i64 x)) :
    Calls Tryd.prog 16 #[.slice A n c] w fun e w' => e = .returned (.string ⟨(serL serI l).toArray⟩) ∧ w.grownBy w' none := by
  have H := Lib.hid (ilist_k A c n l w hb hn hi hs hc hm hA)
  clear hb hn hi hs hc hm hA
  go_enter Tryd.func16, Tryd.ntmps16
  go_wp2_with (go_at_call 40; refine H.out.mono ?_; rintro e w' ⟨rfl, hg⟩)
  go_ret
  exact ⟨rfl, hg⟩
set_option maxHeartbeats 400000 in
/-- wire.Texts -/
theorem wTexts (A : Option Addr) (c n : Nat) (l : List (List UInt8)) (w : World) (hb : Base w) (hn : n = l.length) (hi : ∀ x ∈ l, x.length ≤ 4611686018427387904) (hs : (l.flatMap serT).length < 1000000) (hc : n ≤ c) (hm : c ≤ maxLen)
    (hA : 0 < n → ∃ ad, A = some ad ∧ ad.block < w.heap.size ∧ ∀ j x, l[j]? = some x → w.cell? (ad.add j) = some (.string ⟨x.toArray⟩)) :
    Calls Tryd.prog 18 #[.slice A n c] w fun e w' => e = .returned (.string ⟨(serL serT l).toArray⟩) ∧ w.grownBy w' none := by
  have H := Lib.hid (tlist_k A c n l w hb hn hi hs hc hm hA)
  clear hb hn hi hs hc hm hA
  go_enter Tryd.func18, Tryd.ntmps18
  go_wp2_with (go_at_call 41; refine H.out.mono ?_; rintro e w' ⟨rfl, hg⟩)
  go_ret
  exact ⟨rfl, hg⟩
end Go.Proofs.YtmohcanfkcopiaaDoor
