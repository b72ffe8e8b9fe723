/-
  digest.Around, by its contract.
-/
import Derived.Test.YtljjmoeplfcblaaLeast
import Derived.Deep.DeepCutAuto
namespace Go.Proofs.Ytljjmoeplfcblaa
open Go.RowKit Go.Shelf
attribute [local go_sem] get_mk extract_mk

theorem own_base {w : World} {b b' e size n : Nat} {v : Value} {xs : List Value} (h : w.ownsRow b e size v n xs) (hb : b' ≤ b) : w.ownsRow b' e size v n xs := by
  refine ⟨h.1, ?_⟩
  rcases h.2 with h | ⟨g, cap, cur, h1, h2, h3⟩
  · exact .inl h
  · exact .inr ⟨g, cap, cur, h1, Nat.le_trans hb h2, h3⟩
theorem least_le (l : List Str) (s : Str) : leastD l s ≤ l.length := by
  unfold leastD
  exact List.Sublist.length_le (List.takeWhile_sublist _)
def arI (l : List Str) (a : Str) : Nat := leastD l a - 1
def arJ (l : List Str) (a b : Str) : Nat := min (max (leastD l a) (leastD l b) + 1) l.length
theorem results_tmp4 {fn : Func} {t u v x : Tmp} (h : fn.results = #[.tmp t, .tmp u, .tmp v, .tmp x]) (tmps : Array Value) (P : Program) (w : World) :
    (results fn tmps).run P w = .ok (.tuple #[tmps.getD t undef, tmps.getD u undef, tmps.getD v undef, tmps.getD x undef]) w := by
  simp [results, h]
set_option maxHeartbeats 1000000 in
/-- digest.Around, where the list is not sorted -/
theorem around_no (A : Option Addr) (n c : Nat) (l : List Str) (a b : Str) (w : World) (hl : Strs w A n c l) (hs : sortedB l = false) :
    Calls Try.prog 26 #[.slice A n c, .string ⟨a.toArray⟩, .string ⟨b.toArray⟩] w fun e w' => e = .returned (.tuple #[.int .i64 0, .slice none 0 0, .slice none 0 0, .bool false]) ∧ w.grownBy w' none := by
  have HS := Lib.hid (sorted_k A n c l w hl)
  rw [hs] at HS
  clear hl hs
  go_enter Try.func26, Try.ntmps26
  go_wp2_with fail
  refine HS.out.mono ?_
  rintro e w1 ⟨rfl, g1⟩
  go_wp2_with fail
  refine bodyPost_ret (results_tmp4 rfl _ _ _) rfl ?_
  exact ⟨rfl, g1⟩
set_option maxRecDepth 100000 in
set_option maxHeartbeats 4000000 in
/-- digest.Around, where it is, and has strings -/
theorem around_k (A : Option Addr) (n c : Nat) (l : List Str) (a b : Str) (hn : n ≤ 1000) (h0 : 0 < n) (w : World) (hl : Strs w A n c l) (hs : sortedB l = true) :
    Calls Try.prog 26 #[.slice A n c, .string ⟨a.toArray⟩, .string ⟨b.toArray⟩] w fun e w' => ∃ v1 v2, e = .returned (.tuple #[.int .i64 (arI l a : Nat), v1, v2, .bool true]) ∧
      w'.ownsRow w.heap.size 9 1 v1 ((l.drop (arI l a)).take (arJ l a b - arI l a)).length (((l.drop (arI l a)).take (arJ l a b - arI l a)).map fun s => .string ⟨s.toArray⟩) ∧
      w'.ownsRow w.heap.size 9 1 v2 (proofL l (arI l a) (arJ l a b)).length ((proofL l (arI l a) (arJ l a b)).map fun s => .string ⟨s.toArray⟩) ∧ w.grownBy w' none := by
  obtain ⟨i0, hi0, hz0, hz1, hz2⟩ := info_parts info9
  have HS := Lib.hid (sorted_k A n c l w hl)
  rw [hs] at HS
  have hlen := hl.len
  have hle := hl.le
  have hcap := hl.cap
  have la := least_le l a
  have lb := least_le l b
  have HLa := Lib.hid (fun w' (g : w.grownBy w' none) => least_k A n c l a w' (hl.kept g))
  have HLb := Lib.hid (fun w' (g : w.grownBy w' none) => least_k A n c l b w' (hl.kept g))
  have hij : arI l a ≤ arJ l a b := by unfold arI arJ; omega
  have hjn : arJ l a b ≤ n := by unfold arJ; omega
  have hin : arI l a < n := by unfold arI; omega
  have HPr := Lib.hid (fun w' (g : w.grownBy w' none) => prove_k A n c l hn (arI l a) (arJ l a b) hij hjn w' (hl.kept g))
  have HSl := Lib.hid (fun w' (g : w.grownBy w' none) => ((hl.kept g).drop (Nat.le_of_lt hin)).take (show arJ l a b - arI l a ≤ n - arI l a by omega))
  have E1 : Hid (arI l a = leastD l a - 1 ∧ arJ l a b = min (max (leastD l a) (leastD l b) + 1) n ∧ leastD l a ≤ n ∧ leastD l b ≤ n) := Lib.hid ⟨rfl, by rw [hlen]; rfl, by omega, by omega⟩
  have Hlen := Lib.hid hlen
  obtain ⟨ad, rfl, _, _⟩ := hl.cell h0
  clear hl hs hlen la lb
  generalize leastD l a = x at *
  generalize leastD l b = y at *
  generalize hI : arI l a = i at *
  generalize hJ : arJ l a b = j at *
  have f1 : (0 : Int) ≤ (i : Int) := by omega
  have f2 : (i : Int) ≤ (j : Int) := by omega
  have f3 : (j : Int) ≤ (c : Int) := by omega
  have f4 : ¬ c = i := by omega
  have f5 : (i : Int) ≤ (c : Int) := by omega
  clear hI hJ
  go_enter Try.func26, Try.ntmps26
  go_wp2_with fail
  refine HS.out.mono ?_
  rintro e w1 ⟨rfl, g1⟩
  go_wp2_with fail
  refine (HLa.out w1 g1).mono ?_
  rintro e w2 ⟨rfl, g2⟩
  have g2 := g1.trans g2
  go_upto_region 4 with fail
  go_cut [11] (fun q wx => q = .int .i64 (max x y : Nat) ∧ w.grownBy wx none)
  case first =>
    go_wp2_with fail
    refine (HLb.out w2 g2).mono ?_
    rintro e w3 ⟨rfl, g3⟩
    have g3 := g2.trans g3
    go_wp2_with fail
    all_goals go_meet
    all_goals exact ⟨by congr 1; omega, g3⟩
  case rest =>
  obtain ⟨rfl, g3⟩ := hcut
  obtain ⟨E2, E3, E4, E5⟩ := E1.out
  have hmx : max x y ≤ 1000 := by omega
  generalize hM : max x y = M at *
  have k1 : IntKind.i64.wrap ((M : Int) + 1) = (M : Int) + 1 := by rw [IntKind.wrap_i64]; omega
  have k2 : IntKind.i64.wrap ((x : Int) - 1) = (x : Int) - 1 := by rw [IntKind.wrap_i64]; omega
  go_upto_region 5 with fail
  go_cut [12, 13] (fun p q wx => p = .int .i64 i ∧ q = .int .i64 j ∧ w.grownBy wx none)
  case first =>
    go_wp2_with fail
    all_goals go_meet
    all_goals exact ⟨by congr 1; omega, by congr 1; omega, g3⟩
  case rest =>
  obtain ⟨rfl, rfl, g3⟩ := hcut
  clear E2 E3 E4 E5 hM k1 k2 hmx
  go_wp2_with fail
  refine (HPr.out wc g3).mono ?_
  rintro e w4 ⟨v2, rfl, o2, g4⟩
  have g34 := g4
  have g4 := g3.trans g4
  have hsl := HSl.out w4 g4
  simp only [if_neg f4, Option.map_some] at hsl
  have hll := hsl.len
  have hnews : ∀ q u, (((l.drop i).take (j - i)).map fun s => Value.string ⟨s.toArray⟩)[q]? = some u → w4.cell? ((ad.add i).add q) = some u := fun q u hu => by
    rw [List.getElem?_map] at hu
    cases hq : ((l.drop i).take (j - i))[q]? with
    | none => rw [hq] at hu; cases hu
    | some s =>
      rw [hq] at hu
      obtain ⟨ad', e, _, hc⟩ := hsl.cell (by have := (List.getElem?_eq_some_iff.1 hq).1; omega)
      injection e with e
      subst e
      rw [hc q s hq]
      exact hu
  have hone : ∀ u ∈ (((l.drop i).take (j - i)).map fun s => Value.string ⟨s.toArray⟩), u.oneCell' = true := fun u hu => by
    obtain ⟨s, _, rfl⟩ := List.mem_map.1 hu
    rfl
  have hsz := g4.size
  have Hg := Lib.hid g4
  have Ho2 := Lib.hid (own_base o2 g3.size)
  generalize hT : (l.drop i).take (j - i) = T at *
  have Hll := Lib.hid hll
  have HT := Lib.hid hT
  clear hsl hT o2 g34 hll
  go_wp2_with (at_builtin; refine wpList_append_own_at _ rfl _ _ 29 rfl w.heap.size 9 i0 _ 1 16 Try.underlying29 hi0 hz0 hz1 hz2 rfl (by omega) (.slice none 0 0) 0 [] rfl (World.ownsRow_nil _ _ _ _) (ad.add i) (j - i) (c - i) (T.map fun s => Value.string ⟨s.toArray⟩) rfl (by rw [List.length_map]; have := Hll.out; omega) hnews hone (by simp only [maxLen]; omega) (by omega) hsz ?_; intro v9 w9 hown9 hgrow9 hnil9 hloc9)
  refine bodyPost_ret (results_tmp4 rfl _ _ _) rfl ?_
  refine ⟨v9, v2, rfl, ?_, Ho2.out.kept hgrow9 (Classical.em _), Hg.out.trans hgrow9⟩
  have h9 : w9.ownsRow w.heap.size 9 1 v9 T.length (T.map fun s => Value.string ⟨s.toArray⟩) := by
    rw [← Hll.out]
    simpa using hown9
  rw [← HT.out] at h9
  simpa using h9
end Go.Proofs.Ytljjmoeplfcblaa
