/-
  The reference's Mean, by its contract.
-/
import Derived.Test.YtcilclbolmijfaaMeanB
import Derived.IntWalk
namespace Go.Proofs.Ytcilclbolmijfaa
open Go.RowKit
theorem box46 (w : World) : ∃ w1, w1 = w.alloc (.cells #[.int .i64 0, .int .i64 0] 46) ∧ R2 w1 w.heap.size 0 0 ∧ w.grownBy w1 none :=
  ⟨_, rfl, R2.new w 0 0, World.grownBy_alloc _ _ none⟩
theorem badB_of (g c : Int) : badB g c = !(gB g && (!decide (c < 1) && !decide (60 < c))) := by
  unfold badB wiB
  congr 2
  rw [Bool.eq_iff_iff]
  simp
set_option maxRecDepth 100000 in
set_option maxHeartbeats 2000000 in
theorem meanr_12 (gs cs : List Int) (A A' : Option Addr) (n n' c c' : Nat) (er : Int) (w : World) (hn : n = gs.length) (hn' : n' = cs.length) (hm : n ≤ maxLen) (hm' : n' ≤ maxLen) (he : mC gs cs = er) (he0 : er = 1 ∨ er = 2) :
    Calls Try.prog 26 #[.slice A n c, .slice A' n' c'] w fun e w' => e = .returned (.tuple #[.agg #[.int .i64 0, .int .i64 0], .int .i64 er]) ∧ w.grownBy w' none := by
  unfold maxLen at hm hm'
  obtain ⟨w1, hw1, R, gg⟩ := box46 w
  have H0 := Lib.hid hw1
  clear hw1
  have c0 := R.c0
  have c3 := R.c1
  have f0 := R.f0
  have f1 := R.f1
  have hs := R.lt
  have R' := R.set 0 0
  rcases mC_cases gs cs with ⟨h1, h2⟩ | ⟨h1, h3, h4, h2⟩ | ⟨h1, h3, h4, h5, h2⟩ | ⟨h1, h3, h4, h5, h2⟩
  · obtain rfl : er = 1 := by omega
    by_cases e1 : n = n'
    · have e2 : ((n : Int) != (n' : Int)) = false := by simp; omega
      have e3 : ((n : Int) == 0) = true := by simp; omega
      clear h1 h2 hn hn' e1 he he0
      go_enter Try.func26, Try.ntmps26
      go_wp2_with fail
      rw [← H0.out]
      go_wp2_with fail
      exact bodyPost_ret (v := .tuple #[.agg #[.int .i64 0, .int .i64 0], .int .i64 1]) (by first | (simp [results, Try.results26, go_sem]; done) | (simp [results, Try.results26, go_sem, R.c0, R.c1]; done)) rfl ⟨rfl, by
        (repeat (first | refine grown_set ?_ (.inl (by omega)) | refine grown_al ?_ | refine grown_dn ?_)); exact gg⟩
    · have e2 : ((n : Int) != (n' : Int)) = true := by simp; omega
      clear h1 h2 hn hn' e1 he he0
      go_enter Try.func26, Try.ntmps26
      go_wp2_with fail
      rw [← H0.out]
      go_wp2_with fail
      exact bodyPost_ret (v := .tuple #[.agg #[.int .i64 0, .int .i64 0], .int .i64 1]) (by first | (simp [results, Try.results26, go_sem]; done) | (simp [results, Try.results26, go_sem, R.c0, R.c1]; done)) rfl ⟨rfl, by
        (repeat (first | refine grown_set ?_ (.inl (by omega)) | refine grown_al ?_ | refine grown_dn ?_)); exact gg⟩
  · obtain rfl : er = 2 := by omega
    have e2 : ((n : Int) != (n' : Int)) = false := by simp; omega
    have e3 : ((n : Int) == 0) = false := by simp; omega
    have e4 : 2000 < n := by omega
    clear h1 h2 hn hn' h3 h4 he he0
    go_enter Try.func26, Try.ntmps26
    go_wp2_with fail
    rw [← H0.out]
    go_wp2_with fail
    exact bodyPost_ret (v := .tuple #[.agg #[.int .i64 0, .int .i64 0], .int .i64 2]) (by first | (simp [results, Try.results26, go_sem]; done) | (simp [results, Try.results26, go_sem, R.c0, R.c1]; done)) rfl ⟨rfl, by
      (repeat (first | refine grown_set ?_ (.inl (by omega)) | refine grown_al ?_ | refine grown_dn ?_)); exact gg⟩
  · omega
  · omega
set_option maxRecDepth 100000 in
set_option maxHeartbeats 4000000 in
theorem meanr_3 (gs cs : List Int) (A A' : Option Addr) (n n' c c' : Nat) (rn rd re : Int) (w : World) (hn : n = gs.length) (hn' : n' = cs.length) (hN : Nums w A gs) (hN' : Nums w A' cs) (he : mC gs cs = 3)
    (_hrn : mN gs cs = rn) (_hrd : mD gs cs = rd) (_hre : mE gs cs = re) :
    Calls Try.prog 26 #[.slice A n c, .slice A' n' c'] w fun e w' => e = .returned (.tuple #[.agg #[.int .i64 0, .int .i64 0], .int .i64 3]) ∧ w.grownBy w' none := by
  obtain ⟨w1, hw1, R, gg⟩ := box46 w
  have H0 := Lib.hid hw1
  clear hw1
  obtain ⟨h1, h3, h4, h5⟩ : gs.length = cs.length ∧ 0 < gs.length ∧ gs.length ≤ 2000 ∧ bads (gs.zip cs) = true := by
    rcases mC_cases gs cs with ⟨_, h⟩ | ⟨_, _, _, h⟩ | ⟨a, b, c, d, h⟩ | ⟨a, b, c, d, h⟩
    · omega
    · omega
    · first | exact ⟨a, b, c, d⟩ | omega
    · first | exact ⟨a, b, c, d⟩ | omega
  clear _hrn _hrd _hre
  have e2 : ((n : Int) != (n' : Int)) = false := by simp; omega
  have e3 : ((n : Int) == 0) = false := by simp; omega
  have e4 : n ≤ 2000 := by omega
  have HB := Lib.hid h5
  have hz : (gs.zip cs).length = n := by rw [List.length_zip]; omega
  have hnn : n = n' := by omega
  obtain ⟨ad, rfl, _, hc⟩ := hN.2 h3
  obtain ⟨ad', rfl, _, hc'⟩ := hN'.2 (by omega)
  have HC : Hid (∀ k, k < n → ∃ g c, (gs.zip cs)[k]? = some (g, c) ∧ w1.cell? (ad.add k) = some (.int .i64 g) ∧ w1.cell? (ad'.add k) = some (.int .i64 c)) := Lib.hid fun k hk => by
    have z1 : gs[k]? = some gs[k] := List.getElem?_eq_getElem (by omega)
    have z2 : cs[k]? = some cs[k] := List.getElem?_eq_getElem (by omega)
    exact ⟨gs[k], cs[k], by rw [List.getElem?_zip_eq_some]; exact ⟨z1, z2⟩, gcell gg (hc k _ z1), gcell gg (hc' k _ z2)⟩
  have HL := Lib.hid (sums_le (gs.zip cs))
  have HZ := Lib.hid hz
  clear hc hc' hN hN' h1 h3 h4 h5 hz hn hn' he
  generalize gs.zip cs = zs at *
  subst hnn
  go_enter Try.func26, Try.ntmps26
  go_wp2_with fail
  rw [← H0.out]
  go_wp2_with fail
  go_loopw [6, 7, 8] (fun s t i wr => ∃ k : Nat, k ≤ n ∧ i = .int .i64 k ∧ s = .int .i64 (ptsT zs k) ∧ t = .int .i64 (wtsT zs k) ∧ Hid (bads (zs.take k) = false) ∧ w1.grownBy wr none) (fun _ _ i _ => n - (intOf i).toNat)
  case atStart => exact ⟨0, Nat.zero_le _, rfl, rfl, rfl, Lib.hid rfl, grown_refl _⟩
  case round =>
    obtain ⟨k, hk, rfl, rfl, rfl, hb, gw⟩ := hrel
    by_cases hlt : k < n
    · obtain ⟨g, c, hz, c1, c2⟩ := HC.out k hlt
      have q1 := gcell gw c1
      have q2 := gcell gw c2
      have HK := Lib.hid (bads_next hz)
      have HX := Lib.hid (pts_next hz)
      have HY := Lib.hid (wts_next hz)
      have K1 := Lib.hid (near_r g)
      have E := Lib.hid (badB_of g c)
      have HF := Lib.hid (fun h => bads_full (zs := zs) (k := k + 1) h)
      have L0 := HL.out k (by rw [HZ.out]; omega) hb.out
      have HG := Lib.hid (fun (h : badB g c = false) => mul_le60 (bad_no h))
      clear hz c1 c2
      obtain ⟨l1, l2, l3, l4⟩ := L0
      generalize hx : gB g = x at *
      have HXX := Lib.hid hx
      clear hx
      cases x
      · go_wp2_with fail
        refine (K1.out _).mono ?_
        rintro e w' ⟨rfl, rfl⟩
        replace R := R.kept gw
        have c0 := R.c0
        have c3 := R.c1
        have f0 := R.f0
        have f1 := R.f1
        have hs := R.lt
        go_wp2_with fail
        have R' := R.set 0 0
        exact bodyPost_ret (v := .tuple #[.agg #[.int .i64 0, .int .i64 0], .int .i64 3]) (by first | (simp [results, Try.results26, go_sem, R'.c0, R'.c1]; done) | (simp [results, Try.results26, go_sem, R.c0, R.c1]; done)) rfl ⟨rfl, by
          (repeat (first | refine grown_set ?_ (.inl (by omega)) | refine grown_al ?_ | refine grown_dn ?_)); exact (gg.trans gw)⟩
      · by_cases b1 : c < 1
        · go_wp2_with fail
          refine (K1.out _).mono ?_
          rintro e w' ⟨rfl, rfl⟩
          replace R := R.kept gw
          have c0 := R.c0
          have c3 := R.c1
          have f0 := R.f0
          have f1 := R.f1
          have hs := R.lt
          go_wp2_with fail
          have R' := R.set 0 0
          exact bodyPost_ret (v := .tuple #[.agg #[.int .i64 0, .int .i64 0], .int .i64 3]) (by first | (simp [results, Try.results26, go_sem, R'.c0, R'.c1]; done) | (simp [results, Try.results26, go_sem, R.c0, R.c1]; done)) rfl ⟨rfl, by
            (repeat (first | refine grown_set ?_ (.inl (by omega)) | refine grown_al ?_ | refine grown_dn ?_)); exact (gg.trans gw)⟩
        · by_cases b2 : 60 < c
          · go_wp2_with fail
            refine (K1.out _).mono ?_
            rintro e w' ⟨rfl, rfl⟩
            replace R := R.kept gw
            have c0 := R.c0
            have c3 := R.c1
            have f0 := R.f0
            have f1 := R.f1
            have hs := R.lt
            go_wp2_with fail
            have R' := R.set 0 0
            exact bodyPost_ret (v := .tuple #[.agg #[.int .i64 0, .int .i64 0], .int .i64 3]) (by first | (simp [results, Try.results26, go_sem, R'.c0, R'.c1]; done) | (simp [results, Try.results26, go_sem, R.c0, R.c1]; done)) rfl ⟨rfl, by
              (repeat (first | refine grown_set ?_ (.inl (by omega)) | refine grown_al ?_ | refine grown_dn ?_)); exact (gg.trans gw)⟩
          · have hok : badB g c = false := by rw [E.out]; simp [b1, b2]
            obtain ⟨m1, m2⟩ := HG.out hok
            have HO := Lib.hid hok
            clear hok
            generalize ptsT zs k = s at *
            generalize wtsT zs k = t at *
            have hw1 : IntKind.i64.wrap (g * c) = g * c := IntWalk.i64_in _ (by omega)
            have hw2 : IntKind.i64.wrap (s + g * c) = s + g * c := IntWalk.i64_in _ (by omega)
            go_wp2_with fail
            refine (K1.out _).mono ?_
            rintro e w' ⟨rfl, rfl⟩
            go_wp2_with fail
            go_quiet (fail)
            clear hw1 hw2
            go_wp2_with fail
            go_roundw
            case rel => exact ⟨k + 1, by omega, by go_num, by rw [HX.out], by rw [HY.out], Lib.hid (by rw [HK.out, hb.out, HO.out]; rfl), grown_dn gw⟩
            case measure => simp [intOf]; omega
    · obtain rfl : k = n := by omega
      have hb' := hb.out
      rw [← HZ.out, List.take_length, HB.out] at hb'
      cases hb'
set_option maxRecDepth 100000 in
set_option maxHeartbeats 4000000 in
theorem meanr_0 (gs cs : List Int) (A A' : Option Addr) (n n' c c' : Nat) (rn rd re : Int) (w : World) (hn : n = gs.length) (hn' : n' = cs.length) (hN : Nums w A gs) (hN' : Nums w A' cs) (he : mC gs cs = 0)
    (hrn : mN gs cs = rn) (hrd : mD gs cs = rd) (hre : mE gs cs = re) :
    Calls Try.prog 26 #[.slice A n c, .slice A' n' c'] w fun e w' => e = .returned (.tuple #[.agg #[.int .i64 rn, .int .i64 rd], .int .i64 re]) ∧ w.grownBy w' none := by
  obtain ⟨w1, hw1, R, gg⟩ := box46 w
  have H0 := Lib.hid hw1
  clear hw1
  obtain ⟨h1, h3, h4, h5⟩ : gs.length = cs.length ∧ 0 < gs.length ∧ gs.length ≤ 2000 ∧ bads (gs.zip cs) = false := by
    rcases mC_cases gs cs with ⟨_, h⟩ | ⟨_, _, _, h⟩ | ⟨a, b, c, d, h⟩ | ⟨a, b, c, d, h⟩
    · omega
    · omega
    · first | exact ⟨a, b, c, d⟩ | omega
    · first | exact ⟨a, b, c, d⟩ | omega
  obtain ⟨_, _, _, ⟨k1, k2⟩, k3, k4⟩ := mE_zero he
  have KO := Lib.hid (of_r (mP gs cs) (mW gs cs) ⟨by omega, by omega⟩ ⟨by omega, by omega⟩)
  rw [show ofN (mP gs cs) (mW gs cs) = rn by rw [← hrn]; unfold mN; rw [if_pos he], show ofD (mP gs cs) (mW gs cs) = rd by rw [← hrd]; unfold mD; rw [if_pos he], show ofE (mP gs cs) (mW gs cs) = re by rw [← hre]; unfold mE; rw [if_pos he]] at KO
  have P1 : Hid (ptsT (gs.zip cs) n = mP gs cs) := Lib.hid (by unfold mP; rw [hn])
  have P2 : Hid (wtsT (gs.zip cs) n = mW gs cs) := Lib.hid (by unfold mW; rw [hn])
  generalize mP gs cs = P at *
  generalize mW gs cs = Q at *
  clear hrn hrd hre
  have e2 : ((n : Int) != (n' : Int)) = false := by simp; omega
  have e3 : ((n : Int) == 0) = false := by simp; omega
  have e4 : n ≤ 2000 := by omega
  have HB := Lib.hid h5
  have hz : (gs.zip cs).length = n := by rw [List.length_zip]; omega
  have hnn : n = n' := by omega
  obtain ⟨ad, rfl, _, hc⟩ := hN.2 h3
  obtain ⟨ad', rfl, _, hc'⟩ := hN'.2 (by omega)
  have HC : Hid (∀ k, k < n → ∃ g c, (gs.zip cs)[k]? = some (g, c) ∧ w1.cell? (ad.add k) = some (.int .i64 g) ∧ w1.cell? (ad'.add k) = some (.int .i64 c)) := Lib.hid fun k hk => by
    have z1 : gs[k]? = some gs[k] := List.getElem?_eq_getElem (by omega)
    have z2 : cs[k]? = some cs[k] := List.getElem?_eq_getElem (by omega)
    exact ⟨gs[k], cs[k], by rw [List.getElem?_zip_eq_some]; exact ⟨z1, z2⟩, gcell gg (hc k _ z1), gcell gg (hc' k _ z2)⟩
  have HL := Lib.hid (sums_le (gs.zip cs))
  have HZ := Lib.hid hz
  clear hc hc' hN hN' h1 h3 h4 h5 hz hn hn' he
  generalize gs.zip cs = zs at *
  subst hnn
  go_enter Try.func26, Try.ntmps26
  go_wp2_with fail
  rw [← H0.out]
  go_wp2_with fail
  go_loopw [6, 7, 8] (fun s t i wr => ∃ k : Nat, k ≤ n ∧ i = .int .i64 k ∧ s = .int .i64 (ptsT zs k) ∧ t = .int .i64 (wtsT zs k) ∧ Hid (bads (zs.take k) = false) ∧ w1.grownBy wr none) (fun _ _ i _ => n - (intOf i).toNat)
  case atStart => exact ⟨0, Nat.zero_le _, rfl, rfl, rfl, Lib.hid rfl, grown_refl _⟩
  case round =>
    obtain ⟨k, hk, rfl, rfl, rfl, hb, gw⟩ := hrel
    by_cases hlt : k < n
    · obtain ⟨g, c, hz, c1, c2⟩ := HC.out k hlt
      have q1 := gcell gw c1
      have q2 := gcell gw c2
      have HK := Lib.hid (bads_next hz)
      have HX := Lib.hid (pts_next hz)
      have HY := Lib.hid (wts_next hz)
      have K1 := Lib.hid (near_r g)
      have E := Lib.hid (badB_of g c)
      have HF := Lib.hid (fun h => bads_full (zs := zs) (k := k + 1) h)
      have L0 := HL.out k (by rw [HZ.out]; omega) hb.out
      have HG := Lib.hid (fun (h : badB g c = false) => mul_le60 (bad_no h))
      clear hz c1 c2
      obtain ⟨l1, l2, l3, l4⟩ := L0
      generalize hx : gB g = x at *
      have HXX := Lib.hid hx
      clear hx
      cases x
      · exfalso
        have h1 := HK.out
        rw [hb.out, E.out] at h1
        have h2 := HF.out (by rw [h1]; simp)
        rw [HB.out] at h2
        cases h2
      · by_cases b1 : c < 1
        · exfalso
          have h1 := HK.out
          rw [hb.out, E.out] at h1
          have h2 := HF.out (by rw [h1]; simp; omega)
          rw [HB.out] at h2
          cases h2
        · by_cases b2 : 60 < c
          · exfalso
            have h1 := HK.out
            rw [hb.out, E.out] at h1
            have h2 := HF.out (by rw [h1]; simp; omega)
            rw [HB.out] at h2
            cases h2
          · have hok : badB g c = false := by rw [E.out]; simp [b1, b2]
            obtain ⟨m1, m2⟩ := HG.out hok
            have HO := Lib.hid hok
            clear hok
            generalize ptsT zs k = s at *
            generalize wtsT zs k = t at *
            have hw1 : IntKind.i64.wrap (g * c) = g * c := IntWalk.i64_in _ (by omega)
            have hw2 : IntKind.i64.wrap (s + g * c) = s + g * c := IntWalk.i64_in _ (by omega)
            go_wp2_with fail
            refine (K1.out _).mono ?_
            rintro e w' ⟨rfl, rfl⟩
            go_wp2_with fail
            go_quiet (fail)
            clear hw1 hw2
            go_wp2_with fail
            go_roundw
            case rel => exact ⟨k + 1, by omega, by go_num, by rw [HX.out], by rw [HY.out], Lib.hid (by rw [HK.out, hb.out, HO.out]; rfl), grown_dn gw⟩
            case measure => simp [intOf]; omega
    · obtain rfl : k = n := by omega
      clear hb
      have p1 := P1.out
      have p2 := P2.out
      generalize ptsT zs k = s at *
      generalize wtsT zs k = t at *
      subst p1 p2
      clear P1 P2
      go_wp2_with fail
      refine (KO.out _).mono ?_
      rintro e w4 ⟨rfl, g4⟩
      replace R := (R.kept gw).kept g4
      replace gg := (gg.trans gw).trans g4
      clear gw g4 KO H0
      have c0 := R.c0
      have c3 := R.c1
      have f0 := R.f0
      have f1 := R.f1
      have hs := R.lt
      go_wp2_with fail
      have R' := R.set rn rd
      exact bodyPost_ret (v := .tuple #[.agg #[.int .i64 rn, .int .i64 rd], .int .i64 re]) (by first | (simp [results, Try.results26, go_sem, R'.c0, R'.c1]; done) | (simp [results, Try.results26, go_sem, R.c0, R.c1]; done)) rfl ⟨rfl, by
        (repeat (first | refine grown_set ?_ (.inl (by omega)) | refine grown_al ?_ | refine grown_dn ?_)); exact gg⟩
theorem mean_r (gs cs : List Int) (A A' : Option Addr) (n n' c c' : Nat) (w : World) (hn : n = gs.length) (hn' : n' = cs.length) (hm : n ≤ maxLen) (hm' : n' ≤ maxLen) (hN : Nums w A gs) (hN' : Nums w A' cs) :
    Calls Try.prog 26 #[.slice A n c, .slice A' n' c'] w fun e w' => e = .returned (.tuple #[.agg #[.int .i64 (mN gs cs), .int .i64 (mD gs cs)], .int .i64 (mE gs cs)]) ∧ w.grownBy w' none := by
  by_cases h : mC gs cs = 0
  · exact meanr_0 gs cs A A' n n' c c' _ _ _ w hn hn' hN hN' h rfl rfl rfl
  · obtain ⟨e1, e2, e3⟩ := mE_no h
    rw [e1, e2, e3]
    have : mC gs cs = 1 ∨ mC gs cs = 2 ∨ mC gs cs = 3 := by
      rcases mC_cases gs cs with ⟨_, h⟩ | ⟨_, _, _, h⟩ | ⟨_, _, _, _, h⟩ | ⟨_, _, _, _, h⟩ <;> omega
    rcases this with h' | h' | h'
    · exact meanr_12 gs cs A A' n n' c c' _ w hn hn' hm hm' rfl (.inl h')
    · exact meanr_12 gs cs A A' n n' c c' _ w hn hn' hm hm' rfl (.inr h')
    · rw [h']
      exact meanr_3 gs cs A A' n n' c c' _ _ _ w hn hn' hN hN' h' rfl rfl rfl
end Go.Proofs.Ytcilclbolmijfaa
