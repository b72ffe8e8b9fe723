/-
  The laws' sorted, by its contract.
-/
import Derived.Test.YtljjmoeplfcblaaRPut
import Derived.Test.YtljjmoeplfcblaaGrows
namespace Go.Proofs.Ytljjmoeplfcblaa
open Go.RowKit Go.Shelf
attribute [local go_sem] get_mk extract_mk
theorem putL_len (l : List Str) (s : Str) : (putL l s).length ≤ l.length + 1 := by
  unfold putL
  have h := least_le' l s
  split
  · omega
  · simp only [List.length_append, List.length_take, List.length_drop, List.length_singleton]; omega
theorem putL_mem (l : List Str) (s y : Str) (h : y ∈ putL l s) : y ∈ l ∨ y = s := by
  unfold putL at h
  split at h
  · exact .inl h
  · rcases List.mem_append.1 h with h | h
    · rcases List.mem_append.1 h with h | h
      · exact .inl (List.mem_of_mem_take h)
      · exact .inr (List.mem_singleton.1 h)
    · exact .inl (List.mem_of_mem_drop h)
/-- the strings of a list, sorted, each once -/
def sortL (l : List Str) : List Str := l.foldl putL []
theorem sortL_snoc (l : List Str) (k : Nat) (x : Str) (h : l[k]? = some x) : sortL (l.take (k + 1)) = putL (sortL (l.take k)) x := by
  unfold sortL
  rw [take_one l k x h, List.foldl_append]
  rfl
theorem sortL_len : ∀ (l r : List Str), (l.foldl putL r).length ≤ r.length + l.length
  | [], r => by simp
  | x :: l, r => by
    have h1 := sortL_len l (putL r x)
    have h2 := putL_len r x
    simp only [List.foldl_cons, List.length_cons]
    omega
theorem sortL_mem : ∀ (l r : List Str) (y : Str), y ∈ l.foldl putL r → y ∈ r ∨ y ∈ l
  | [], _, _, h => .inl h
  | x :: l, r, y, h => by
    rcases sortL_mem l (putL r x) y h with h | h
    · rcases putL_mem r x y h with h | h
      · exact .inl h
      · exact .inr (h ▸ List.mem_cons_self)
    · exact .inr (List.mem_cons_of_mem _ h)
def SRel (w : World) (x : List Str) (v z : Value) (wr : World) : Prop :=
  ∃ k : Nat, k ≤ x.length ∧ z = .int .i64 k ∧ (∃ A n c, v = .slice A n c ∧ Strs wr A n c (sortL (x.take k)) ∧ (A = none → c = 0)) ∧ w.grownBy wr none
set_option maxRecDepth 100000 in
set_option maxHeartbeats 4000000 in
/-- the laws' sorted -/
theorem sort_k (A : Option Addr) (n c : Nat) (l : List Str) (w : World) (hn : n = l.length) (hcm : c ≤ maxLen) (hnc : n ≤ c) (hls : ∀ x ∈ l, x.length ≤ 9223372036854775807)
    (hA : 0 < n → ∃ ad, A = some ad ∧ ad.block < w.heap.size ∧ ∀ j x, l[j]? = some x → w.cell? (ad.add j) = some (.string ⟨x.toArray⟩)) :
    Calls Try.prog 21 #[.slice A n c] w fun e w' => ∃ A' n' c', e = .returned (.slice A' n' c') ∧ Strs w' A' n' c' (sortL (fewL l)) ∧ (A' = none → c' = 0) ∧ w.grownBy w' none := by
  have HF := Lib.hid (few_k A c n l w hn hcm hnc hls hA)
  clear hn hcm hnc hls hA
  have hl20 := few_len l
  have hl12 := few_12 l
  generalize fewL l = x at *
  go_enter Try.func21, Try.ntmps21
  go_wp2_with fail
  refine HF.out.mono ?_
  rintro e w2 ⟨v, rfl, o2, g2⟩
  obtain ⟨XA, xc, rfl, HX⟩ := own_strs o2 (fun s hs => Nat.le_trans (hl12 s hs) (by decide))
  have hxc := HX.le
  have hxcc := HX.cap
  obtain ⟨xn, hxn⟩ : ∃ k, x.length = k := ⟨_, rfl⟩
  rw [hxn] at HX hxc hl20
  rw [hxn]
  have Hxn := Lib.hid hxn
  have H12 := Lib.hid hl12
  have HX := Lib.hid (fun W (g : w2.grownBy W none) => HX.kept g)
  have G2 := Lib.hid g2
  clear o2 g2 hxn hl12 HF
  go_wp2_with fail
  go_loopw [3, 4] (fun v z wr => SRel w2 x v z wr) (fun _ z _ => xn - (intOf z).toNat)
  case atStart => exact ⟨0, Nat.zero_le _, rfl, ⟨none, 0, 0, rfl, ⟨rfl, Nat.le_refl _, by decide, fun s hs => (by cases hs), fun h => (by omega)⟩, fun _ => rfl⟩, World.grownBy.refl _ _⟩
  case round =>
    obtain ⟨k, hk, rfl, ⟨SA, sn, sc, rfl, hS, hSA⟩, hg⟩ := hrel
    by_cases hlt : k < xn
    · obtain ⟨y, hy⟩ : ∃ y, x[k]? = some y := ⟨_, List.getElem?_eq_getElem (by have := Hxn.out; omega)⟩
      obtain ⟨ad, rfl, _, hc⟩ := (HX.out _ hg).cell (by omega)
      have hcx := hc k y hy
      have r1 : (0 : Int) ≤ (k : Int) := by omega
      have r2 : (k : Int) < (xn : Int) := by omega
      have r3 : IntKind.i64.wrap ((k : Int) + 1) = (k : Int) + 1 := by rw [IntKind.wrap_i64]; omega
      have hsn : sn ≤ 20 := by
        have h1 := hS.len
        have h2 := sortL_len (x.take k) []
        unfold sortL at h1
        rw [List.length_take] at h2
        have := Hxn.out
        simp at h2
        omega
      have HPK := Lib.hid (put_r SA sn sc (sortL (x.take k)) y (by omega) (Nat.le_trans (H12.out y (List.mem_of_getElem? hy)) (by decide)) hSA wr hS)
      have HY := Lib.hid (sortL_snoc x k y hy)
      have HG := Lib.hid hg
      clear hc hy hS hSA hg
      go_wp2_with fail
      refine HPK.out.mono ?_
      rintro e w5 ⟨TA, tn, tc, rfl, hT, hTA, g5⟩
      rw [← HY.out] at hT
      have HT := Lib.hid hT
      have HTA := Lib.hid hTA
      clear hT hTA
      go_wp2_with fail
      exact ⟨⟨k + 1, by have := Hxn.out; omega, by go_num, ⟨TA, tn, tc, rfl, HT.out, HTA.out⟩, HG.out.trans g5⟩, by simp [intOf]; omega⟩
    · obtain rfl : k = xn := by have := Hxn.out; omega
      have htk : x.take k = x := List.take_of_length_le (by have := Hxn.out; omega)
      rw [htk] at hS
      have HS := Lib.hid hS
      have HSA := Lib.hid hSA
      clear hS hSA
      go_wp2_with fail
      go_ret
      exact ⟨SA, sn, sc, rfl, HS.out, HSA.out, G2.out.trans hg⟩
end Go.Proofs.Ytljjmoeplfcblaa
