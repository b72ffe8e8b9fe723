/-
  checkLists, and the sums of Mean, by their contracts.
-/
import Derived.Test.YtcilclbolmijfaaML
namespace Go.Proofs.Ytcilclbolmijfaa
open Go.RowKit
set_option maxRecDepth 100000 in
set_option maxHeartbeats 2000000 in
theorem checkL_k (gs cs : List Int) (A A' : Option Addr) (n n' c c' : Nat) (w : World) (hn : n = gs.length) (hn' : n' = cs.length) (hm : n ≤ maxLen) (hm' : n' ≤ maxLen) (hN : Nums w A gs) (hN' : Nums w A' cs) :
    Calls Try.prog 35 #[.slice A n c, .slice A' n' c'] w fun e w' => e = .returned (.int .i64 (mC gs cs)) ∧ w = w' := by
  unfold maxLen at hm hm'
  have HN := Lib.hid hN
  have HN' := Lib.hid hN'
  rcases mC_cases gs cs with ⟨h1, h2⟩ | ⟨h1, h3, h4, h2⟩ | ⟨h1, h3, h4, h5, h2⟩ | ⟨h1, h3, h4, h5, h2⟩
  · rw [h2]
    by_cases e1 : n = n'
    · have e2 : ((n : Int) != (n' : Int)) = false := by simp; omega
      have e3 : ((n : Int) == 0) = true := by simp; omega
      clear h1 h2 hn hn' e1 hN hN'
      go_enter Try.func35, Try.ntmps35
      go_wp2_with fail
      go_ret
      exact ⟨rfl, rfl⟩
    · have e2 : ((n : Int) != (n' : Int)) = true := by simp; omega
      clear h1 h2 hn hn' e1 hN hN'
      go_enter Try.func35, Try.ntmps35
      go_wp2_with fail
      go_ret
      exact ⟨rfl, rfl⟩
  · rw [h2]
    have e2 : ((n : Int) != (n' : Int)) = false := by simp; omega
    have e3 : ((n : Int) == 0) = false := by simp; omega
    have e4 : 2000 < n := by omega
    clear h1 h2 hn hn' hN hN' h3 h4
    go_enter Try.func35, Try.ntmps35
    go_wp2_with fail
    go_ret
    exact ⟨rfl, rfl⟩
  · rw [h2]
    have e2 : ((n : Int) != (n' : Int)) = false := by simp; omega
    have e3 : ((n : Int) == 0) = false := by simp; omega
    have e4 : n ≤ 2000 := by omega
    have e5 : 0 < n := by omega
    have hz : (gs.zip cs).length = n := by rw [List.length_zip]; omega
    have hnn : n = n' := by omega
    obtain ⟨ad, rfl, _, hc⟩ := hN.2 h3
    obtain ⟨ad', rfl, _, hc'⟩ := hN'.2 (by omega)
    have HC : Hid (∀ k, k < n → ∃ g c, (gs.zip cs)[k]? = some (g, c) ∧ w.cell? (ad.add k) = some (.int .i64 g) ∧ w.cell? (ad'.add k) = some (.int .i64 c)) := Lib.hid fun k hk => by
      have z1 : gs[k]? = some gs[k] := List.getElem?_eq_getElem (by omega)
      have z2 : cs[k]? = some cs[k] := List.getElem?_eq_getElem (by omega)
      exact ⟨gs[k], cs[k], by rw [List.getElem?_zip_eq_some]; exact ⟨z1, z2⟩, hc k _ z1, hc' k _ z2⟩
    clear hc hc' hN hN' HN HN' h1 h2 h3 h4
    have HB := Lib.hid h5
    have HZ := Lib.hid hz
    clear h5 hz hn hn'
    generalize gs.zip cs = zs at *
    subst hnn
    go_enter Try.func35, Try.ntmps35
    go_wp2_with fail
    go_loop [21] (fun i => ∃ k : Nat, k ≤ n ∧ i = .int .i64 k ∧ Hid (bads (zs.take k) = false)) (fun i => n - (intOf i).toNat)
    case atStart => exact ⟨0, Nat.zero_le _, rfl, Lib.hid rfl⟩
    case round =>
      obtain ⟨k, hk, rfl, hb⟩ := hrel
      by_cases hlt : k < n
      · obtain ⟨g, c, hz, c1, c2⟩ := HC.out k hlt
        have HK := Lib.hid (bads_next hz)
        have K1 := Lib.hid (graded_k g)
        have K2 := Lib.hid (within_k c 1 60 (by decide))
        have E : Hid (badB g c = !(gB g && wiB c 1 60)) := Lib.hid rfl
        have HF := Lib.hid (fun h => bads_full (zs := zs) (k := k + 1) h)
        clear hz
        generalize gB g = x at *
        generalize wiB c 1 60 = y at *
        cases x
        · go_wp2_with fail
          refine (K1.out _).mono ?_
          rintro e w' ⟨rfl, rfl⟩
          go_wp2_with fail
          go_ret
          exact ⟨rfl, rfl⟩
        · cases y
          · go_wp2_with fail
            refine (K1.out _).mono ?_
            rintro e w' ⟨rfl, rfl⟩
            go_wp2_with fail
            refine (K2.out _).mono ?_
            rintro e w' ⟨rfl, rfl⟩
            go_wp2_with fail
            go_ret
            exact ⟨rfl, rfl⟩
          · go_wp2_with fail
            refine (K1.out _).mono ?_
            rintro e w' ⟨rfl, rfl⟩
            go_wp2_with fail
            refine (K2.out _).mono ?_
            rintro e w' ⟨rfl, rfl⟩
            go_wp2_with fail
            go_round
            case rel => exact ⟨k + 1, by omega, by go_num, Lib.hid (by rw [HK.out, hb.out, E.out]; rfl)⟩
            case measure => simp [intOf]; omega
      · obtain rfl : k = n := by omega
        have hb' := hb.out
        rw [← HZ.out, List.take_length] at hb'
        exact absurd (HB.out.symm.trans hb') (by decide)
  · rw [h2]
    have e2 : ((n : Int) != (n' : Int)) = false := by simp; omega
    have e3 : ((n : Int) == 0) = false := by simp; omega
    have e4 : n ≤ 2000 := by omega
    have e5 : 0 < n := by omega
    have hz : (gs.zip cs).length = n := by rw [List.length_zip]; omega
    have hnn : n = n' := by omega
    obtain ⟨ad, rfl, _, hc⟩ := hN.2 h3
    obtain ⟨ad', rfl, _, hc'⟩ := hN'.2 (by omega)
    have HC : Hid (∀ k, k < n → ∃ g c, (gs.zip cs)[k]? = some (g, c) ∧ w.cell? (ad.add k) = some (.int .i64 g) ∧ w.cell? (ad'.add k) = some (.int .i64 c)) := Lib.hid fun k hk => by
      have z1 : gs[k]? = some gs[k] := List.getElem?_eq_getElem (by omega)
      have z2 : cs[k]? = some cs[k] := List.getElem?_eq_getElem (by omega)
      exact ⟨gs[k], cs[k], by rw [List.getElem?_zip_eq_some]; exact ⟨z1, z2⟩, hc k _ z1, hc' k _ z2⟩
    clear hc hc' hN hN' HN HN' h1 h2 h3 h4
    have HB := Lib.hid h5
    have HZ := Lib.hid hz
    clear h5 hz hn hn'
    generalize gs.zip cs = zs at *
    subst hnn
    go_enter Try.func35, Try.ntmps35
    go_wp2_with fail
    go_loop [21] (fun i => ∃ k : Nat, k ≤ n ∧ i = .int .i64 k ∧ Hid (bads (zs.take k) = false)) (fun i => n - (intOf i).toNat)
    case atStart => exact ⟨0, Nat.zero_le _, rfl, Lib.hid rfl⟩
    case round =>
      obtain ⟨k, hk, rfl, hb⟩ := hrel
      by_cases hlt : k < n
      · obtain ⟨g, c, hz, c1, c2⟩ := HC.out k hlt
        have HK := Lib.hid (bads_next hz)
        have K1 := Lib.hid (graded_k g)
        have K2 := Lib.hid (within_k c 1 60 (by decide))
        have E : Hid (badB g c = !(gB g && wiB c 1 60)) := Lib.hid rfl
        have HF := Lib.hid (fun h => bads_full (zs := zs) (k := k + 1) h)
        clear hz
        generalize gB g = x at *
        generalize wiB c 1 60 = y at *
        cases x
        · go_wp2_with fail
          refine (K1.out _).mono ?_
          rintro e w' ⟨rfl, rfl⟩
          go_wp2_with fail
          exact absurd (HF.out (by rw [HK.out, hb.out, E.out]; rfl)) (by rw [HB.out]; decide)
        · cases y
          · go_wp2_with fail
            refine (K1.out _).mono ?_
            rintro e w' ⟨rfl, rfl⟩
            go_wp2_with fail
            refine (K2.out _).mono ?_
            rintro e w' ⟨rfl, rfl⟩
            go_wp2_with fail
            exact absurd (HF.out (by rw [HK.out, hb.out, E.out]; rfl)) (by rw [HB.out]; decide)
          · go_wp2_with fail
            refine (K1.out _).mono ?_
            rintro e w' ⟨rfl, rfl⟩
            go_wp2_with fail
            refine (K2.out _).mono ?_
            rintro e w' ⟨rfl, rfl⟩
            go_wp2_with fail
            go_round
            case rel => exact ⟨k + 1, by omega, by go_num, Lib.hid (by rw [HK.out, hb.out, E.out]; rfl)⟩
            case measure => simp [intOf]; omega
      · obtain rfl : k = n := by omega
        have hb' := hb.out
        rw [← HZ.out, List.take_length] at hb'
        clear hb hb'
        go_wp2_with fail
        go_ret
        exact ⟨rfl, rfl⟩
set_option maxRecDepth 100000 in
theorem pts_k (k n n' c c' b b' : Nat) (ad ad' : Addr) (g d : Int) (hk : k < n) (hk' : k < n') (_ : n ≤ 2000) (_ : n' ≤ 2000) (w : World) (h1 : w.cell? ⟨b, 0, none⟩ = some (.slice (some ad) n c)) (h2 : w.cell? ⟨b', 0, none⟩ = some (.slice (some ad') n' c')) (c1 : w.cell? (ad.add k) = some (.int .i64 g)) (c2 : w.cell? (ad'.add k) = some (.int .i64 d)) (hgd : -60000 ≤ g * d ∧ g * d ≤ 60000) :
    Calls Try.prog 37 #[.int .i64 k, .pointer (some ⟨b, 0, none⟩), .pointer (some ⟨b', 0, none⟩)] w fun e w' => e = .returned (.int .i64 (g * d)) ∧ ∃ q, w' = w.drewN q := by
  obtain ⟨m1, m2⟩ := hgd
  go_enter Try.func37, Try.ntmps37
  go_wp2_with fail
  go_quiet (fail)
  go_wp2_with fail
  go_ret
  exact ⟨rfl, nq, rfl⟩
theorem wts_k (k n c b : Nat) (ad : Addr) (g : Int) (hk : k < n) (_ : n ≤ 2000) (w : World) (h1 : w.cell? ⟨b, 0, none⟩ = some (.slice (some ad) n c)) (c1 : w.cell? (ad.add k) = some (.int .i64 g)) :
    Calls Try.prog 38 #[.int .i64 k, .pointer (some ⟨b, 0, none⟩)] w fun e w' => e = .returned (.int .i64 g) ∧ w = w' := by
  go_enter Try.func38, Try.ntmps38
  go_wp2_with fail
  go_ret
  exact ⟨rfl, rfl⟩
set_option maxRecDepth 100000 in
set_option maxHeartbeats 2000000 in
theorem points_k (zs : List (Int × Int)) (n c c' b b' : Nat) (ad ad' : Addr) (hm : n ≤ 2000) (hz : zs.length = n) (hb : bads zs = false) (w : World) (h1 : w.cell? ⟨b, 0, none⟩ = some (.slice (some ad) n c)) (h2 : w.cell? ⟨b', 0, none⟩ = some (.slice (some ad') n c'))
    (hc : ∀ k, k < n → ∃ g c, zs[k]? = some (g, c) ∧ w.cell? (ad.add k) = some (.int .i64 g) ∧ w.cell? (ad'.add k) = some (.int .i64 c)) :
    Calls Try.prog 36 #[.func (.func 37) #[] #[.pointer (some ⟨b, 0, none⟩), .pointer (some ⟨b', 0, none⟩)], .pointer (some ⟨b, 0, none⟩)] w fun e w' => e = .returned (.int .i64 (ptsT zs n)) ∧ w.grownBy w' none := by
  have HC := Lib.hid hc
  have HL := Lib.hid (sums_le zs)
  have HB : Hid (∀ k, bads (zs.take k) = false) := Lib.hid fun k => by
    rw [Bool.eq_false_iff]; intro h; rw [bads_full h] at hb; cases hb
  have HZ := Lib.hid hz
  clear hc hb hz
  go_enter Try.func36, Try.ntmps36
  go_wp2_with fail
  go_loopw [4, 8] (fun s i wr => ∃ k : Nat, k ≤ n ∧ i = .int .i64 k ∧ s = .int .i64 (ptsT zs k) ∧ w.grownBy wr none) (fun _ i _ => n - (intOf i).toNat)
  case atStart => exact ⟨0, Nat.zero_le _, rfl, rfl, grown_refl _⟩
  case round =>
    obtain ⟨k, hk, rfl, rfl, gw⟩ := hrel
    by_cases hlt : k < n
    · obtain ⟨g, c, hz, c1, c2⟩ := HC.out k hlt
      have q1 := gcell gw h1
      have q2 := gcell gw h2
      have q3 := gcell gw c1
      have q4 := gcell gw c2
      have L0 := HL.out k (by rw [HZ.out]; omega) (HB.out k)
      have L1 := HL.out (k + 1) (by rw [HZ.out]; omega) (HB.out (k + 1))
      have hbad : badB g c = false := by have := HB.out (k + 1); rw [bads_next hz, HB.out k] at this; simpa using this
      have hgc := mul_le60 (bad_no hbad)
      have HX := Lib.hid (pts_next hz)
      rw [pts_next hz, wts_next hz] at L1
      have K := Lib.hid (pts_k k n n _ _ b b' ad ad' g c hlt hlt hm hm _ q1 q2 q3 q4 hgc)
      clear hz hbad c1 c2 q3 q4 q2
      generalize g * c = x at *
      generalize ptsT zs k = s at *
      obtain ⟨l1, l2, l3, l4⟩ := L0
      obtain ⟨l5, l6, l7, l8⟩ := L1
      obtain ⟨l9, l10⟩ := hgc
      go_wp2_with fail
      refine K.out.mono ?_
      rintro e w2 ⟨rfl, q, rfl⟩
      go_wp2_with fail
      go_roundw
      case rel => exact ⟨k + 1, by omega, by go_num, by rw [HX.out], grown_dn gw⟩
      case measure => simp [intOf]; omega
    · obtain rfl : k = n := by omega
      go_wp2_with fail
      go_ret
      exact ⟨rfl, gw⟩
set_option maxRecDepth 100000 in
set_option maxHeartbeats 2000000 in
theorem weight_k (zs : List (Int × Int)) (n c c' b b' : Nat) (ad ad' : Addr) (hm : n ≤ 2000) (hz : zs.length = n) (hb : bads zs = false) (w : World) (h1 : w.cell? ⟨b, 0, none⟩ = some (.slice (some ad) n c)) (h2 : w.cell? ⟨b', 0, none⟩ = some (.slice (some ad') n c'))
    (hc : ∀ k, k < n → ∃ g c, zs[k]? = some (g, c) ∧ w.cell? (ad.add k) = some (.int .i64 g) ∧ w.cell? (ad'.add k) = some (.int .i64 c)) :
    Calls Try.prog 36 #[.func (.func 38) #[] #[.pointer (some ⟨b', 0, none⟩)], .pointer (some ⟨b, 0, none⟩)] w fun e w' => e = .returned (.int .i64 (wtsT zs n)) ∧ w.grownBy w' none := by
  have HC := Lib.hid hc
  have HL := Lib.hid (sums_le zs)
  have HB : Hid (∀ k, bads (zs.take k) = false) := Lib.hid fun k => by
    rw [Bool.eq_false_iff]; intro h; rw [bads_full h] at hb; cases hb
  have HZ := Lib.hid hz
  clear hc hb hz
  go_enter Try.func36, Try.ntmps36
  go_wp2_with fail
  go_loopw [4, 8] (fun s i wr => ∃ k : Nat, k ≤ n ∧ i = .int .i64 k ∧ s = .int .i64 (wtsT zs k) ∧ w.grownBy wr none) (fun _ i _ => n - (intOf i).toNat)
  case atStart => exact ⟨0, Nat.zero_le _, rfl, rfl, grown_refl _⟩
  case round =>
    obtain ⟨k, hk, rfl, rfl, gw⟩ := hrel
    by_cases hlt : k < n
    · obtain ⟨g, c, hz, c1, c2⟩ := HC.out k hlt
      have q1 := gcell gw h1
      have q2 := gcell gw h2
      have q3 := gcell gw c1
      have q4 := gcell gw c2
      have L0 := HL.out k (by rw [HZ.out]; omega) (HB.out k)
      have L1 := HL.out (k + 1) (by rw [HZ.out]; omega) (HB.out (k + 1))
      have hbad : badB g c = false := by have := HB.out (k + 1); rw [bads_next hz, HB.out k] at this; simpa using this
      have hgc := mul_le60 (bad_no hbad)
      have HX := Lib.hid (wts_next hz)
      rw [pts_next hz, wts_next hz] at L1
      have K := Lib.hid (wts_k k n _ b' ad' c hlt hm _ q2 q4)
      clear hz hbad c1 c2 q3 q4 q2
      generalize c = x at *
      generalize wtsT zs k = s at *
      obtain ⟨l1, l2, l3, l4⟩ := L0
      obtain ⟨l5, l6, l7, l8⟩ := L1
      obtain ⟨l9, l10⟩ := hgc
      go_wp2_with fail
      refine K.out.mono ?_
      rintro e w2 ⟨rfl, rfl⟩
      go_wp2_with fail
      go_roundw
      case rel => exact ⟨k + 1, by omega, by go_num, by rw [HX.out], gw⟩
      case measure => simp [intOf]; omega
    · obtain rfl : k = n := by omega
      go_wp2_with fail
      go_ret
      exact ⟨rfl, gw⟩
end Go.Proofs.Ytcilclbolmijfaa
