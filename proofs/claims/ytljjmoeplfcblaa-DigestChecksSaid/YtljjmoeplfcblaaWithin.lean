/-
  digest.Within, by its contract.
-/
import Derived.Test.YtljjmoeplfcblaaAround
namespace Go.Proofs.Ytljjmoeplfcblaa
open Go.RowKit Go.Shelf
attribute [local go_sem] get_mk extract_mk

def between (a b : Str) (s : Str) : Bool := !(Op.bytesLess s a) && Op.bytesLess s b
def edge1 (i : Nat) (a : Str) (L : List Str) : Bool := i == 0 || (match L with | [] => false | x :: _ => Op.bytesLess x a)
def edge2 (n i : Nat) (b : Str) (L : List Str) : Bool := !(decide (i + L.length < n)) || (match L.getLast? with | none => false | some x => !(Op.bytesLess x b))
theorem filter_snoc (p : Str → Bool) (l : List Str) (k : Nat) (x : Str) (hx : l[k]? = some x) : (l.take (k + 1)).filter p = (l.take k).filter p ++ (if p x then [x] else []) := by
  rw [take_one l k x hx, List.filter_append]
  cases h : p x <;> simp [h]
set_option maxRecDepth 100000 in
set_option maxHeartbeats 4000000 in
/-- digest.Within, where the numbers fit, the proof is accepted, the leaves are sorted, and the edges show that nothing is left out -/
theorem within_k (r : Str) (n i : Nat) (a b : Str) (LA : Option Addr) (lm lc : Nat) (LL : List Str) (PA : Option Addr) (p pc : Nat) (PL : List Str) (h40 : n ≤ 1099511627776) (hin : i + lm ≤ n) (hlm : lm ≤ 1000) (hp : p ≤ 1000) (w : World)
    (hL : Strs w LA lm lc LL) (hP : Strs w PA p pc PL) (hv : verB r n i LL PL = true) (hs : sortedB LL = true) (he1 : edge1 i a LL = true) (he2 : edge2 n i b LL = true) :
    Calls Try.prog 34 #[.string ⟨r.toArray⟩, .int .i64 n, .string ⟨a.toArray⟩, .string ⟨b.toArray⟩, .int .i64 i, .slice LA lm lc, .slice PA p pc] w fun e w' => ∃ v, e = .returned (.tuple #[v, .bool true]) ∧
      w'.ownsRow w.heap.size 9 1 v (LL.filter (between a b)).length ((LL.filter (between a b)).map fun s => .string ⟨s.toArray⟩) ∧ w.grownBy w' none := by
  obtain ⟨i0, hi0, hz0, hz1, hz2⟩ := info_parts info9
  have H1 := Lib.hid (verify_k r n i LA lm lc LL PA p pc PL h40 hin hlm hp w hL hP)
  rw [hv] at H1
  have H2 := Lib.hid (fun w' (g : w.grownBy w' none) => sorted_k LA lm lc LL w' (hL.kept g))
  rw [hs] at H2
  have HL := Lib.hid (fun w' (g : w.grownBy w' none) => hL.kept g)
  have Hlen := Lib.hid hL.len
  have hlc := hL.le
  have hlc2 := hL.cap
  have He1 := Lib.hid he1
  have He2 := Lib.hid he2
  have q1 : IntKind.i64.wrap ((i : Int) + (lm : Int)) = (i : Int) + (lm : Int) := by rw [IntKind.wrap_i64]; omega
  have q2 : IntKind.i64.wrap ((lm : Int) - 1) = (lm : Int) - 1 := by rw [IntKind.wrap_i64]; omega
  clear hL hP hv hs he1 he2
  go_enter Try.func34, Try.ntmps34
  go_wp2_with fail
  refine H1.out.mono ?_
  rintro e w1 ⟨rfl, g1⟩
  go_wp2_with fail
  refine (H2.out w1 g1).mono ?_
  rintro e w2 ⟨rfl, g2⟩
  have g2 := g1.trans g2
  go_upto_region 4 with fail
  go_cut [47] (fun q wx => q = .bool false ∧ w.grownBy wx none)
  case first =>
    by_cases hi : i = 0
    · have hd : decide (0 < i) = false := by simp [hi]
      have hd2 : ¬ 0 < i := by omega
      have Hi := Lib.hid hi
      clear hi
      go_wp2_with fail
      go_meet
      exact ⟨rfl, g2⟩
    · obtain ⟨x, hx, hxa⟩ : ∃ x, LL[0]? = some x ∧ Op.bytesLess x a = true := by
        have := He1.out
        unfold edge1 at this
        cases hL : LL with
        | nil => rw [hL] at this; simp [hi] at this
        | cons x t => rw [hL] at this; exact ⟨x, rfl, by simpa [hi] using this⟩
      have hl0 : 0 < lm := by have := (List.getElem?_eq_some_iff.1 hx).1; have := Hlen.out; omega
      obtain ⟨ad, rfl, _, hc⟩ := (HL.out w2 g2).cell hl0
      have hcx := hc 0 x hx
      have hi1 : (0 : Int) < (i : Int) := by omega
      have hl1 : (0 : Int) < (lm : Int) := by omega
      have hl2 : ¬ ((lm : Int) - 1 < 0) := by omega
      have hadd : ad.add 0 = ad := by simp [Addr.add]
      rw [hadd] at hcx
      clear hc hx hi hadd
      go_wp2_with fail
      go_meet
      exact ⟨rfl, g2⟩
  case rest =>
  obtain ⟨rfl, g3⟩ := hcut
  clear g1 g2
  go_upto_region 6 with fail
  go_cut [65] (fun q wx => q = .bool false ∧ w.grownBy wx none)
  case first =>
    by_cases hn : i + lm < n
    · obtain ⟨x, hx, hxb⟩ : ∃ x, LL[lm - 1]? = some x ∧ Op.bytesLess x b = false := by
        have := He2.out
        unfold edge2 at this
        have hlm' := Hlen.out
        rw [← hlm'] at this
        rw [List.getLast?_eq_getElem?, ← hlm'] at this
        cases hL : LL[lm - 1]? with
        | none => rw [hL] at this; simp [hn] at this
        | some x => rw [hL] at this; exact ⟨x, rfl, by simpa [hn] using this⟩
      have hl0 : 0 < lm := by have := (List.getElem?_eq_some_iff.1 hx).1; have := Hlen.out; omega
      obtain ⟨ad, rfl, _, hc⟩ := (HL.out wc g3).cell hl0
      have hcx := hc _ x hx
      have hn1 : (i : Int) + (lm : Int) < (n : Int) := by omega
      have hl2 : ¬ ((lm : Int) - 1 < 0) := by omega
      have hl3 : (0 : Int) ≤ (lm : Int) - 1 := by omega
      have hl4 : (lm : Int) - 1 < (lm : Int) := by omega
      have hl5 : ((lm : Int) - 1).toNat = lm - 1 := by omega
      clear hc hx
      go_wp2_with fail
      go_meet
      exact ⟨rfl, g3⟩
    · have hn1 : decide ((i : Int) + (lm : Int) < (n : Int)) = false := by simp; omega
      clear hn
      go_wp2_with fail
      go_meet
      exact ⟨rfl, g3⟩
  case rest =>
  obtain ⟨rfl, g4⟩ := hcut
  clear g3
  go_wp2_with fail
  go_loopw [17, 68] (fun v z wr => ∃ k : Nat, k ≤ lm ∧ z = .int .i64 k ∧ wr.ownsRow w.heap.size 9 1 v ((LL.take k).filter (between a b)).length (((LL.take k).filter (between a b)).map fun s => .string ⟨s.toArray⟩) ∧ w.grownBy wr none) (fun _ z _ => lm - (intOf z).toNat)
  case atStart => exact ⟨0, Nat.zero_le _, rfl, World.ownsRow_nil _ _ _ _, g4⟩
  case round =>
    obtain ⟨k, hk, rfl, ho, hg⟩ := hrel
    by_cases hlt : k < lm
    · obtain ⟨x, hx⟩ : ∃ x, LL[k]? = some x := ⟨_, List.getElem?_eq_getElem (by have := Hlen.out; omega)⟩
      obtain ⟨ad, rfl, _, hc⟩ := (HL.out wr hg).cell (by omega)
      have hcx := hc k x hx
      have r1 : (0 : Int) ≤ (k : Int) := by omega
      have r2 : (k : Int) < (lm : Int) := by omega
      have HF := Lib.hid (filter_snoc (between a b) LL k x hx)
      have hfl : ((LL.take k).filter (between a b)).length ≤ 1000 := by
        have h1 := List.length_filter_le (between a b) (LL.take k)
        have h2 : (LL.take k).length ≤ k := by rw [List.length_take]; omega
        omega
      generalize hT : (LL.take k).filter (between a b) = T at *
      have Ho := Lib.hid ho
      have Hg := Lib.hid hg
      clear hc hx ho hT
      cases h1 : Op.bytesLess x a with
      | true =>
        have HB : Hid (between a b x = false) := Lib.hid (by simp [between, h1])
        go_wp2_with fail
        refine ⟨⟨k + 1, by omega, by go_num, ?_, hg⟩, by simp [intOf]; omega⟩
        rw [HF.out, HB.out]
        simpa using Ho.out
      | false =>
        cases h2 : Op.bytesLess x b with
        | false =>
          have HB : Hid (between a b x = false) := Lib.hid (by simp [between, h2])
          go_wp2_with fail
          refine ⟨⟨k + 1, by omega, by go_num, ?_, hg⟩, by simp [intOf]; omega⟩
          rw [HF.out, HB.out]
          simpa using Ho.out
        | true =>
          have HB : Hid (between a b x = true) := Lib.hid (by simp [between, h1, h2])
          have hsz := hg.size
          go_wp2_with (at_builtin; refine wpList_append_own_at _ rfl _ _ 29 rfl w.heap.size 9 i0 _ 1 16 Try.underlying29 hi0 hz0 hz1 hz2 rfl (by omega) _ T.length _ rfl (Ho.out.alloc _) ⟨wr.heap.size, 0, none⟩ 1 1 [.string ⟨x.toArray⟩] rfl rfl (World.news_of_block (cs := #[.string ⟨x.toArray⟩]) (t := 9) (fr := (0, 0)) (heap_alloc_new wr _)) (by intro u hu; rw [List.mem_singleton] at hu; rw [hu]; rfl) (by simp only [maxLen]; omega) (by omega) (by simp; omega) ?_; intro v9 w9 hown9 hgrow9 hnil9 hloc9)
          have gw9 := (Hg.out.trans (World.grownBy_alloc wr (.cells #[.string ⟨x.toArray⟩] 9) none)).andThen hgrow9 (fun r e => .inl (Ho.out.lt r e).1)
          refine ⟨⟨k + 1, by omega, by go_num, ?_, gw9⟩, by simp [intOf]; omega⟩
          rw [HF.out, HB.out]
          simpa using hown9
    · have htk : LL.take k = LL := List.take_of_length_le (by have := Hlen.out; omega)
      rw [htk] at ho
      have Ho := Lib.hid ho
      clear ho htk
      go_wp2_with fail
      refine bodyPost_ret (results_tmp2 rfl _ _ _) rfl ?_
      exact ⟨_, rfl, Ho.out, hg⟩
end Go.Proofs.Ytljjmoeplfcblaa
