/-
  digest.Around and the reference's, by their contracts, for any sorted list.
-/
import Derived.Test.YtljjmoeplfcblaaAround
import Derived.Test.YtljjmoeplfcblaaAppS
import Derived.Test.YtljjmoeplfcblaaRefC
import Derived.Test.YtljjmoeplfcblaaRefD
import Derived.Test.YtljjmoeplfcblaaRProve
namespace Go.Proofs.Ytljjmoeplfcblaa
open Go.RowKit Go.Shelf
attribute [local go_sem] get_mk extract_mk
set_option maxRecDepth 100000 in
set_option maxHeartbeats 4000000 in
/-- digest.Around, where it is -/
theorem around_g (A : Option Addr) (n c : Nat) (l : List Str) (a b : Str) (hn : n ≤ 1000) (hA : A = none → c = 0) (w : World) (hl : Strs w A n c l) (hs : sortedB l = true) :
    Calls Try.prog 26 #[.slice A n c, .string ⟨a.toArray⟩, .string ⟨b.toArray⟩] w fun e w' => ∃ v1 v2, e = .returned (.tuple #[.int .i64 (arI l a : Nat), v1, v2, .bool true]) ∧
      w'.ownsRow w.heap.size 9 1 v1 ((l.drop (arI l a)).take (arJ l a b - arI l a)).length (((l.drop (arI l a)).take (arJ l a b - arI l a)).map fun s => .string ⟨s.toArray⟩) ∧
      w'.ownsRow w.heap.size 9 1 v2 (proofL l (arI l a) (arJ l a b)).length ((proofL l (arI l a) (arJ l a b)).map fun s => .string ⟨s.toArray⟩) ∧ w.grownBy w' none := by
  have HA := Lib.hid hA
  clear hA
  have HS := Lib.hid (sorted_k A n c l w hl)
  rw [hs] at HS
  have hlen := hl.len
  have hle := hl.le
  have hcap := hl.cap
  have la := least_le l a
  have lb := least_le l b
  have HLa := Lib.hid (fun w' (g : w.grownBy w' none) => least_k A n c l a w' (hl.kept g))
  have HLb := Lib.hid (fun w' (g : w.grownBy w' none) => least_k A n c l b w' (hl.kept g))
  have hij : arI l a ≤ arJ l a b := by unfold arI arJ; omega
  have hjn : arJ l a b ≤ n := by unfold arJ; omega
  have hin : arI l a ≤ n := by unfold arI; omega
  have HPr := Lib.hid (fun w' (g : w.grownBy w' none) => prove_k A n c l hn (arI l a) (arJ l a b) hij hjn w' (hl.kept g))
  have HSl := Lib.hid (fun w' (g : w.grownBy w' none) => ((hl.kept g).drop hin).take (show arJ l a b - arI l a ≤ n - arI l a by omega))
  have E1 : Hid (arI l a = leastD l a - 1 ∧ arJ l a b = min (max (leastD l a) (leastD l b) + 1) n ∧ leastD l a ≤ n ∧ leastD l b ≤ n) := Lib.hid ⟨rfl, by rw [hlen]; rfl, by omega, by omega⟩
  have Hlen := Lib.hid hlen
  clear hl hs hlen la lb
  generalize leastD l a = x at *
  generalize leastD l b = y at *
  generalize hI : arI l a = i at *
  generalize hJ : arJ l a b = j at *
  have f1 : (0 : Int) ≤ (i : Int) := by omega
  have f2 : (i : Int) ≤ (j : Int) := by omega
  have f3 : (j : Int) ≤ (c : Int) := by omega
  have f5 : (i : Int) ≤ (c : Int) := by omega
  clear hI hJ
  go_enter Try.func26, Try.ntmps26
  go_wp2_with fail
  refine HS.out.mono ?_
  rintro e w1 ⟨rfl, g1⟩
  go_wp2_with fail
  refine (HLa.out w1 g1).mono ?_
  rintro e w2 ⟨rfl, g2⟩
  have g2 := g1.trans g2
  go_upto_region 4 with fail
  go_cut [11] (fun q wx => q = .int .i64 (max x y : Nat) ∧ w.grownBy wx none)
  case first =>
    go_wp2_with fail
    refine (HLb.out w2 g2).mono ?_
    rintro e w3 ⟨rfl, g3⟩
    have g3 := g2.trans g3
    go_wp2_with fail
    all_goals go_meet
    all_goals exact ⟨by congr 1; omega, g3⟩
  case rest =>
  obtain ⟨rfl, g3⟩ := hcut
  obtain ⟨E2, E3, E4, E5⟩ := E1.out
  have hmx : max x y ≤ 1000 := by omega
  generalize hM : max x y = M at *
  have k1 : IntKind.i64.wrap ((M : Int) + 1) = (M : Int) + 1 := by rw [IntKind.wrap_i64]; omega
  have k2 : IntKind.i64.wrap ((x : Int) - 1) = (x : Int) - 1 := by rw [IntKind.wrap_i64]; omega
  go_upto_region 5 with fail
  go_cut [12, 13] (fun p q wx => p = .int .i64 i ∧ q = .int .i64 j ∧ w.grownBy wx none)
  case first =>
    go_wp2_with fail
    all_goals go_meet
    all_goals exact ⟨by congr 1; omega, by congr 1; omega, g3⟩
  case rest =>
  obtain ⟨rfl, rfl, g3⟩ := hcut
  clear E2 E3 E4 E5 hM k1 k2 hmx
  by_cases hci : c = i
  · obtain rfl : n = c := by omega
    obtain rfl : i = n := by omega
    obtain rfl : j = i := by omega
    go_wp2_with fail
    refine (HPr.out wc g3).mono ?_
    rintro e w4 ⟨v2, rfl, o2, g4⟩
    have g4 := g3.trans g4
    have hsl := HSl.out w4 g4
    rw [if_pos trivial, Nat.sub_self] at hsl
    have HSX := Lib.hid hsl
    have HAX : Hid (A = none → 0 = 0) := Lib.hid (fun _ => rfl)
    have hsz := g4.size
    have Hg := Lib.hid g4
    have Ho2 := Lib.hid (own_base o2 g3.size)
    clear hsl o2 g4
    go_wp2_with (at_builtin; refine wpList_append_strs rfl _ _ rfl w.heap.size (.slice none 0 0) [] rfl (World.ownsRow_nil _ _ _ _) A 0 0 ((l.drop j).take 0) rfl HSX.out (fun _ => rfl) (by first | (simp; done) | (simp only [List.length_nil]; omega)) hsz ?_; intro v9 w9 hown9 hgrow9 hloc9 _)
    refine bodyPost_ret (results_tmp4 rfl _ _ _) rfl ?_
    refine ⟨v9, v2, rfl, ?_, Ho2.out.kept hgrow9 (Classical.em _), Hg.out.trans hgrow9⟩
    rw [List.nil_append] at hown9
    simpa using hown9
  · go_wp2_with fail
    refine (HPr.out wc g3).mono ?_
    rintro e w4 ⟨v2, rfl, o2, g4⟩
    have g4 := g3.trans g4
    have hsl := HSl.out w4 g4
    rw [if_neg hci] at hsl
    have HSX := Lib.hid hsl
    have HAX : Hid ((A.map fun x => x.add i) = none → (c - i) = 0) := Lib.hid (fun e => by cases A with
        | none => have := HA.out rfl; omega
        | some a => cases e)
    have hsz := g4.size
    have Hg := Lib.hid g4
    have Ho2 := Lib.hid (own_base o2 g3.size)
    clear hsl o2 g4
    go_wp2_with (at_builtin; refine wpList_append_strs rfl _ _ rfl w.heap.size (.slice none 0 0) [] rfl (World.ownsRow_nil _ _ _ _) (A.map fun x => x.add i) (j - i) (c - i) ((l.drop i).take (j - i)) rfl HSX.out HAX.out (by first | (simp; done) | (simp only [List.length_nil]; omega)) hsz ?_; intro v9 w9 hown9 hgrow9 hloc9 _)
    refine bodyPost_ret (results_tmp4 rfl _ _ _) rfl ?_
    refine ⟨v9, v2, rfl, ?_, Ho2.out.kept hgrow9 (Classical.em _), Hg.out.trans hgrow9⟩
    rw [List.nil_append] at hown9
    simpa using hown9
set_option maxHeartbeats 1000000 in
/-- the reference's Around, where the list is not sorted -/
theorem around_rno (A : Option Addr) (n c : Nat) (l : List Str) (a b : Str) (w : World) (hl : Strs w A n c l) (hs : sortedB l = false) :
    Calls Try.prog 27 #[.slice A n c, .string ⟨a.toArray⟩, .string ⟨b.toArray⟩] w fun e w' => e = .returned (.tuple #[.int .i64 0, .slice none 0 0, .slice none 0 0, .bool false]) ∧ w.grownBy w' none := by
  have HS := Lib.hid (sorted_r A n c l w hl)
  rw [hs] at HS
  clear hl hs
  go_enter Try.func27, Try.ntmps27
  go_wp2_with fail
  refine HS.out.mono ?_
  rintro e w1 ⟨rfl, g1⟩
  go_wp2_with fail
  refine bodyPost_ret (results_tmp4 rfl _ _ _) rfl ?_
  exact ⟨rfl, g1⟩
end Go.Proofs.Ytljjmoeplfcblaa
