/-
  Mean, by its contract.
-/
import Derived.Test.YtcilclbolmijfaaMeanA
namespace Go.Proofs.Ytcilclbolmijfaa
open Go.RowKit
theorem boxm (w : World) (A A' : Option Addr) (n n' c c' : Nat) : ∃ w1, w1 = ((w.alloc (.cells #[.slice A n c] 22)).alloc (.cells #[.slice A' n' c'] 22)).alloc (.cells #[.int .i64 0, .int .i64 0] 46) ∧ w1.cell? ⟨w.heap.size, 0, none⟩ = some (.slice A n c) ∧ w1.cell? ⟨w.heap.size + 1, 0, none⟩ = some (.slice A' n' c') ∧ R2 w1 (w.heap.size + 1 + 1) 0 0 ∧ w.grownBy w1 none :=
  ⟨_, rfl, gcell (grown_al (World.grownBy_alloc _ _ none)) (cell_at rfl), gcell (World.grownBy_alloc _ _ none) (cell_at (by simp)), (by
    have h := R2.new ((w.alloc (.cells #[.slice A n c] 22)).alloc (.cells #[.slice A' n' c'] 22)) 0 0
    rw [show ((w.alloc (.cells #[.slice A n c] 22)).alloc (.cells #[.slice A' n' c'] 22)).heap.size = w.heap.size + 1 + 1 by simp] at h
    exact h), grown_al (grown_al (World.grownBy_alloc _ _ none))⟩
set_option maxRecDepth 100000 in
set_option maxHeartbeats 2000000 in
theorem mean_no (gs cs : List Int) (A A' : Option Addr) (n n' c c' : Nat) (er : Int) (w : World) (hn : n = gs.length) (hn' : n' = cs.length) (hm : n ≤ maxLen) (hm' : n' ≤ maxLen) (hN : Nums w A gs) (hN' : Nums w A' cs) (he : mC gs cs = er) (he0 : er ≠ 0) :
    Calls Try.prog 25 #[.slice A n c, .slice A' n' c'] w fun e w' => e = .returned (.tuple #[.agg #[.int .i64 0, .int .i64 0], .int .i64 er]) ∧ w.grownBy w' none := by
  obtain ⟨w1, hw1, c1, c2, R, gg⟩ := boxm w A A' n n' c c'
  have K := Lib.hid (checkL_k gs cs A A' n n' c c' w1 hn hn' hm hm' (hN.kept gg) (hN'.kept gg))
  rw [he] at K
  have e1 : (er != 0) = true := by simpa using he0
  have H0 := Lib.hid hw1
  clear hw1 hn hn' hm hm' hN hN' he he0
  go_enter Try.func25, Try.ntmps25
  go_wp2_with fail
  rw [← H0.out]
  go_wp2_with fail
  refine K.out.mono ?_
  rintro e w' ⟨rfl, rfl⟩
  have c0 := R.c0
  have c3 := R.c1
  have f0 := R.f0
  have f1 := R.f1
  have hs := R.lt
  go_wp2_with fail
  have R' := R.set 0 0
  exact bodyPost_ret (v := .tuple #[.agg #[.int .i64 0, .int .i64 0], .int .i64 er]) (by simp [results, Try.results25, go_sem, R'.c0, R'.c1]) rfl ⟨rfl, by
      (repeat (first | refine grown_set ?_ (.inl (by omega)) | refine grown_al ?_ | refine grown_dn ?_)); exact gg⟩
set_option maxRecDepth 100000 in
set_option maxHeartbeats 2000000 in
theorem mean_yes (gs cs : List Int) (A A' : Option Addr) (n n' c c' : Nat) (w : World) (hn : n = gs.length) (hn' : n' = cs.length) (hm : n ≤ maxLen) (hm' : n' ≤ maxLen) (hN : Nums w A gs) (hN' : Nums w A' cs) (he : mC gs cs = 0) :
    Calls Try.prog 25 #[.slice A n c, .slice A' n' c'] w fun e w' => e = .returned (.tuple #[.agg #[.int .i64 (mN gs cs), .int .i64 (mD gs cs)], .int .i64 (mE gs cs)]) ∧ w.grownBy w' none := by
  obtain ⟨w1, hw1, c1, c2, R, gg⟩ := boxm w A A' n n' c c'
  have K := Lib.hid (checkL_k gs cs A A' n n' c c' w1 hn hn' hm hm' (hN.kept gg) (hN'.kept gg))
  rw [he] at K
  obtain ⟨h1, h3, h4, h5⟩ : gs.length = cs.length ∧ 0 < gs.length ∧ gs.length ≤ 2000 ∧ bads (gs.zip cs) = false := by
    rcases mC_cases gs cs with ⟨_, h⟩ | ⟨_, _, _, h⟩ | ⟨_, _, _, _, h⟩ | ⟨a, b, c, d, _⟩
    · omega
    · omega
    · omega
    · exact ⟨a, b, c, d⟩
  obtain ⟨_, _, _, ⟨k1, k2⟩, k3, k4⟩ := mE_zero he
  have E1 : mE gs cs = ofE (mP gs cs) (mW gs cs) := by unfold mE; rw [if_pos he]
  have E2 : mN gs cs = ofN (mP gs cs) (mW gs cs) := by unfold mN; rw [if_pos he]
  have E3 : mD gs cs = ofD (mP gs cs) (mW gs cs) := by unfold mD; rw [if_pos he]
  rw [E1, E2, E3]
  have e4 : n ≤ 2000 := by omega
  have e5 : 0 < n := by omega
  have hz : (gs.zip cs).length = n := by rw [List.length_zip]; omega
  obtain ⟨ad, rfl, _, hc⟩ := hN.2 h3
  obtain ⟨ad', rfl, _, hc'⟩ := hN'.2 (by omega)
  have HC : ∀ k, k < n → ∃ g c, (gs.zip cs)[k]? = some (g, c) ∧ w1.cell? (ad.add k) = some (.int .i64 g) ∧ w1.cell? (ad'.add k) = some (.int .i64 c) := fun k hk => by
    have z1 : gs[k]? = some gs[k] := List.getElem?_eq_getElem (by omega)
    have z2 : cs[k]? = some cs[k] := List.getElem?_eq_getElem (by omega)
    exact ⟨gs[k], cs[k], by rw [List.getElem?_zip_eq_some]; exact ⟨z1, z2⟩, gcell gg (hc k _ z1), gcell gg (hc' k _ z2)⟩
  have hnn : n = n' := by omega
  subst hnn
  have KP := Lib.hid (points_k (gs.zip cs) n c c' w.heap.size (w.heap.size + 1) ad ad' e4 hz h5 w1 c1 c2 HC)
  have KW := Lib.hid (fun W (g : w1.grownBy W none) => weight_k (gs.zip cs) n c c' w.heap.size (w.heap.size + 1) ad ad' e4 hz h5 W (gcell g c1) (gcell g c2) (fun k hk => by
    obtain ⟨x, y, z, p, q⟩ := HC k hk; exact ⟨x, y, z, gcell g p, gcell g q⟩))
  have p1 : ptsT (gs.zip cs) n = mP gs cs := by unfold mP; rw [hn]
  have p2 : wtsT (gs.zip cs) n = mW gs cs := by unfold mW; rw [hn]
  rw [p1] at KP
  rw [p2] at KW
  have KO := Lib.hid (of_k (mP gs cs) (mW gs cs) ⟨by omega, by omega⟩ ⟨by omega, by omega⟩)
  have H0 := Lib.hid hw1
  clear hw1 hn hn' hm hm' hN hN' he h1 h3 h4 h5 E1 E2 E3 hz HC p1 p2 hc hc'
  generalize ofN (mP gs cs) (mW gs cs) = rn at *
  generalize ofD (mP gs cs) (mW gs cs) = rd at *
  generalize ofE (mP gs cs) (mW gs cs) = re at *
  generalize mP gs cs = P at *
  generalize mW gs cs = Q at *
  go_enter Try.func25, Try.ntmps25
  go_wp2_with fail
  rw [← H0.out]
  go_wp2_with fail
  refine K.out.mono ?_
  rintro e w' ⟨rfl, rfl⟩
  go_wp2_with fail
  refine KP.out.mono ?_
  rintro e w2 ⟨rfl, g2⟩
  go_wp2_with fail
  refine (KW.out _ g2).mono ?_
  rintro e w3 ⟨rfl, g3⟩
  go_wp2_with fail
  refine (KO.out _).mono ?_
  rintro e w4 ⟨rfl, g4⟩
  replace R := ((R.kept g2).kept g3).kept g4
  replace gg := ((gg.trans g2).trans g3).trans g4
  clear g2 g3 g4 KO KW KP K H0
  have c0 := R.c0
  have c3 := R.c1
  have f0 := R.f0
  have f1 := R.f1
  have hs := R.lt
  go_wp2_with fail
  have R' := R.set rn rd
  exact bodyPost_ret (v := .tuple #[.agg #[.int .i64 rn, .int .i64 rd], .int .i64 re]) (by simp [results, Try.results25, go_sem, R'.c0, R'.c1]) rfl ⟨rfl, by
      (repeat (first | refine grown_set ?_ (.inl (by omega)) | refine grown_al ?_ | refine grown_dn ?_)); exact gg⟩
theorem mean_k (gs cs : List Int) (A A' : Option Addr) (n n' c c' : Nat) (w : World) (hn : n = gs.length) (hn' : n' = cs.length) (hm : n ≤ maxLen) (hm' : n' ≤ maxLen) (hN : Nums w A gs) (hN' : Nums w A' cs) :
    Calls Try.prog 25 #[.slice A n c, .slice A' n' c'] w fun e w' => e = .returned (.tuple #[.agg #[.int .i64 (mN gs cs), .int .i64 (mD gs cs)], .int .i64 (mE gs cs)]) ∧ w.grownBy w' none := by
  by_cases h : mC gs cs = 0
  · exact mean_yes gs cs A A' n n' c c' w hn hn' hm hm' hN hN' h
  · obtain ⟨e1, e2, e3⟩ := mE_no h
    rw [e1, e2, e3]
    exact mean_no gs cs A A' n n' c c' _ w hn hn' hm hm' hN hN' rfl h
end Go.Proofs.Ytcilclbolmijfaa
