/-
  ratio.over, by its contract.
-/
import Derived.Test.YtcilclbolmijfaaRight
namespace Go.Proofs.Ytcilclbolmijfaa
open Go.RowKit
theorem sum_next (ts : List Int) (k : Nat) (h : k < ts.length) : (ts.take (k + 1)).sum = (ts.take k).sum + ts[k] := by
  rw [List.take_succ_eq_append_getElem h, List.sum_append]; simp
theorem div_nat (a g : Nat) : ((a : Int) / (g : Int)) = ((a / g : Nat) : Int) := rfl
theorem okB_fits (n d : Int) (hd : d ≠ 0) : okB n d = fitsB (upN n d) (dnN n d) := by
  unfold okB fitsB; simp [hd]
theorem upN_le (n d : Int) : upN n d ≤ n.natAbs := Nat.div_le_self _ _
theorem dnN_le (n d : Int) : dnN n d ≤ d.natAbs := Nat.div_le_self _ _
/-- what a function gives: a ratio, and an error -/
def res (n d e : Int) : Value := .tuple #[.agg #[.int .i64 n, .int .i64 d], .int .i64 e]
set_option maxRecDepth 100000 in
set_option maxHeartbeats 1000000 in
theorem over_at (d : Int) (ts : List Int) (B c : Nat) (S rn rd re : Int) (hS : ts.sum = S) (w : World) (hd : i64 d) (hd0 : d ≠ 0) (hl : ts.length ≤ 100)
    (hc : ∀ i (h : i < ts.length), w.cell? ⟨B, i, none⟩ = some (.int .i64 ts[i])) (hp : ∀ k, i64 (ts.take k).sum) (hrn : ofN S d = rn) (hrd : ofD S d = rd) (hre : ofE S d = re) :
    Calls Try.prog 45 #[.int .i64 d, .slice (some ⟨B, 0, none⟩) ts.length c] w fun e w' => e = .returned (.tuple #[.agg #[.int .i64 rn, .int .i64 rd], .int .i64 re]) ∧ w.grownBy w' none := by
  have HN : Hid (rn = if okB S d then (if (decide (S < 0) != decide (d < 0)) then -(upN S d : Int) else (upN S d : Int)) else 0) := Lib.hid hrn.symm
  have HDn : Hid (rd = if okB S d then (dnN S d : Int) else 0) := Lib.hid hrd.symm
  have HE : Hid (re = if okB S d then 0 else 3) := Lib.hid (by rw [← hre]; unfold ofE; simp [hd0])
  clear hrn hrd hre
  have g1 := World.grownBy_alloc w (.cells #[.int .i64 0, .int .i64 0] 46) none
  have HC : Hid (∀ i (h : i < ts.length), (w.alloc (.cells #[.int .i64 0, .int .i64 0] 46)).cell? ⟨B, i, none⟩ = some (.int .i64 ts[i])) := Lib.hid fun i h => gcell g1 (hc i h)
  have HP := Lib.hid hp
  have HS := Lib.hid hS
  have HD := Lib.hid hd
  have HD0 := Lib.hid hd0
  clear hc hp hS hd hd0
  go_enter Try.func45, Try.ntmps45
  go_wp2_with fail
  go_loop [6, 15] (fun s i => ∃ k : Nat, k ≤ ts.length ∧ i = .int .i64 k ∧ s = .int .i64 (ts.take k).sum) (fun _ i => ts.length - (intOf i).toNat)
  case atStart => exact ⟨0, Nat.zero_le _, rfl, rfl⟩
  case round =>
    obtain ⟨k, hk, rfl, rfl⟩ := hrel
    by_cases hlt : k < ts.length
    · have HN := Lib.hid (sum_next ts k hlt)
      have cl := HC.out k hlt
      obtain ⟨p1, p2⟩ := HP.out (k + 1)
      rw [sum_next ts k hlt] at p1 p2
      generalize ts[k] = x at *
      generalize (ts.take k).sum = s at *
      go_wp2_with fail
      go_round
      case rel => exact ⟨k + 1, by omega, by go_num, by rw [HN.out]⟩
      case measure => simp [intOf]; omega
    · have hk' : k = ts.length := by omega
      subst hk'
      have hp' := HP.out ts.length
      rw [List.take_of_length_le (Nat.le_refl _)] at hp' ⊢
      rw [HS.out] at hp' ⊢
      have Ks := Lib.hid (size_k S hp')
      have Kd := Lib.hid (size_k d HD.out)
      have hS1 : S.natAbs ≤ 9223372036854775808 := by unfold i64 at hp'; omega
      have hd1 : d.natAbs ≤ 9223372036854775808 := by have := HD.out; unfold i64 at this; omega
      have Kg := Lib.hid (divisor_k S.natAbs d.natAbs hS1 hd1)
      have Kf := Lib.hid (fits_k (upN S d) (dnN S d))
      rw [← okB_fits S d HD0.out] at Kf
      clear hlt hk HC HP hp'
      go_wp2_with fail
      refine (Ks.out _).mono ?_
      rintro e w' ⟨rfl, rfl⟩
      go_wp2_with fail
      refine (Kd.out _).mono ?_
      rintro e w' ⟨rfl, rfl⟩
      go_wp2_with fail
      refine (Kg.out _).mono ?_
      rintro e w' ⟨rfl, nq, rfl⟩
      have hg := gcd_pos S d HD0.out
      have EU := Lib.hid (show upN S d = S.natAbs / Nat.gcd S.natAbs d.natAbs from rfl)
      have ED := Lib.hid (show dnN S d = d.natAbs / Nat.gcd S.natAbs d.natAbs from rfl)
      generalize hG : Nat.gcd S.natAbs d.natAbs = G at *
      clear hG
      have g0 : ((G : Int) == 0) = false := by simp; omega
      have e1 : ((S.natAbs : Int) / (G : Int)) = ((upN S d : Nat) : Int) := by rw [div_nat, EU.out]
      have e2 : ((d.natAbs : Int) / (G : Int)) = ((dnN S d : Nat) : Int) := by rw [div_nat, ED.out]
      have u1 := upN_le S d
      have u2 := dnN_le S d
      have e3 : IntKind.u64.wrap ((upN S d : Nat) : Int) = ((upN S d : Nat) : Int) := by rw [wrapU]; omega
      have e4 : IntKind.u64.wrap ((dnN S d : Nat) : Int) = ((dnN S d : Nat) : Int) := by rw [wrapU]; omega
      clear EU ED u1 u2
      have HB : Hid (okB S d = true → upN S d ≤ 1073741824 ∧ dnN S d ≤ 1073741824) := Lib.hid fun h => ((ok_iff S d).1 h).2
      generalize okB S d = f at *
      generalize upN S d = U at *
      generalize dnN S d = L at *
      cases f
      · obtain rfl : rn = 0 := HN.out
        obtain rfl : rd = 0 := HDn.out
        obtain rfl : re = 3 := HE.out
        clear HN HDn HE HB
        go_wp2_with fail
        go_quiet (fail)
        go_wp2_with fail
        refine (Kf.out _).mono ?_
        rintro e w' ⟨rfl, rfl⟩
        go_wp2_with fail
        exact bodyPost_ret (v := .tuple #[.agg #[.int .i64 0, .int .i64 0], .int .i64 3]) (by simp [results, Try.results45, go_sem]) rfl ⟨rfl, by
              (repeat (first | refine grown_set ?_ (.inl (by simp)) | refine grown_al ?_ | refine grown_dn ?_)); exact grown_refl _⟩
      · obtain ⟨b1, b2⟩ := HB.out rfl
        obtain rfl : rd = L := HDn.out
        obtain rfl : re = 0 := HE.out
        replace HN : Hid (rn = if (decide (S < 0) != decide (d < 0)) then -(U : Int) else (U : Int)) := HN
        clear HDn HE HB
        by_cases h1 : S < 0
        · have h1' : decide (S < 0) = true := by simpa using h1
          by_cases h2 : d < 0
          · have h2' : decide (d < 0) = true := by simpa using h2
            obtain rfl : rn = U := by have := HN.out; rwa [h1', h2'] at this
            go_wp2_with fail
            go_quiet (fail)
            go_wp2_with fail
            refine (Kf.out _).mono ?_
            rintro e w' ⟨rfl, rfl⟩
            go_wp2_with fail
            exact bodyPost_ret (v := .tuple #[.agg #[.int .i64 U, .int .i64 L], .int .i64 0]) (by simp [results, Try.results45, go_sem]) rfl ⟨rfl, by
              (repeat (first | refine grown_set ?_ (.inl (by simp)) | refine grown_al ?_ | refine grown_dn ?_)); exact grown_refl _⟩
          · have h2' : decide (d < 0) = false := by simpa using h2
            obtain rfl : rn = -U := by have := HN.out; rwa [h1', h2'] at this
            go_wp2_with fail
            go_quiet (fail)
            go_wp2_with fail
            refine (Kf.out _).mono ?_
            rintro e w' ⟨rfl, rfl⟩
            go_wp2_with fail
            exact bodyPost_ret (v := .tuple #[.agg #[.int .i64 (-U), .int .i64 L], .int .i64 0]) (by simp [results, Try.results45, go_sem]) rfl ⟨rfl, by
              (repeat (first | refine grown_set ?_ (.inl (by simp)) | refine grown_al ?_ | refine grown_dn ?_)); exact grown_refl _⟩
        · have h1' : decide (S < 0) = false := by simpa using h1
          by_cases h2 : d < 0
          · have h2' : decide (d < 0) = true := by simpa using h2
            obtain rfl : rn = -U := by have := HN.out; rwa [h1', h2'] at this
            go_wp2_with fail
            go_quiet (fail)
            go_wp2_with fail
            refine (Kf.out _).mono ?_
            rintro e w' ⟨rfl, rfl⟩
            go_wp2_with fail
            exact bodyPost_ret (v := .tuple #[.agg #[.int .i64 (-U), .int .i64 L], .int .i64 0]) (by simp [results, Try.results45, go_sem]) rfl ⟨rfl, by
              (repeat (first | refine grown_set ?_ (.inl (by simp)) | refine grown_al ?_ | refine grown_dn ?_)); exact grown_refl _⟩
          · have h2' : decide (d < 0) = false := by simpa using h2
            obtain rfl : rn = U := by have := HN.out; rwa [h1', h2'] at this
            go_wp2_with fail
            go_quiet (fail)
            go_wp2_with fail
            refine (Kf.out _).mono ?_
            rintro e w' ⟨rfl, rfl⟩
            go_wp2_with fail
            exact bodyPost_ret (v := .tuple #[.agg #[.int .i64 U, .int .i64 L], .int .i64 0]) (by simp [results, Try.results45, go_sem]) rfl ⟨rfl, by
              (repeat (first | refine grown_set ?_ (.inl (by simp)) | refine grown_al ?_ | refine grown_dn ?_)); exact grown_refl _⟩
theorem over_k (d : Int) (ts : List Int) (B c : Nat) (S : Int) (hS : ts.sum = S) (w : World) (hd : i64 d) (hd0 : d ≠ 0) (hl : ts.length ≤ 100)
    (hc : ∀ i (h : i < ts.length), w.cell? ⟨B, i, none⟩ = some (.int .i64 ts[i])) (hp : ∀ k, i64 (ts.take k).sum) :
    Calls Try.prog 45 #[.int .i64 d, .slice (some ⟨B, 0, none⟩) ts.length c] w fun e w' => e = .returned (.tuple #[.agg #[.int .i64 (ofN S d), .int .i64 (ofD S d)], .int .i64 (ofE S d)]) ∧ w.grownBy w' none :=
  over_at d ts B c S _ _ _ hS w hd hd0 hl hc hp rfl rfl rfl
end Go.Proofs.Ytcilclbolmijfaa
