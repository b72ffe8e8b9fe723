/-
  Of of both, by its contract.
-/
import Derived.Test.YtcilclbolmijfaaOver
import Derived.RangeFuncRecord
namespace Go.Proofs.Ytcilclbolmijfaa
open Go.RowKit
/-- a ratio at block b -/
def R2 (w : World) (b : Nat) (n d : Int) : Prop := w.heap[b]? = some (.cells #[.int .i64 n, .int .i64 d] 46 (0, 0))
theorem R2.c0 {w : World} {b : Nat} {n d : Int} (h : R2 w b n d) : w.cell? ⟨b, 0, none⟩ = some (.int .i64 n) := by unfold R2 at h; simp [World.cell?, h]
theorem R2.c1 {w : World} {b : Nat} {n d : Int} (h : R2 w b n d) : w.cell? ⟨b, 1, none⟩ = some (.int .i64 d) := by unfold R2 at h; simp [World.cell?, h]
theorem R2.f0 {w : World} {b : Nat} {n d : Int} (h : R2 w b n d) : w.frozen? ⟨b, 0, none⟩ = false := by unfold R2 at h; simp [World.frozen?, h]
theorem R2.f1 {w : World} {b : Nat} {n d : Int} (h : R2 w b n d) : w.frozen? ⟨b, 1, none⟩ = false := by unfold R2 at h; simp [World.frozen?, h]
theorem R2.lt {w : World} {b : Nat} {n d : Int} (h : R2 w b n d) : b < w.heap.size := by
  rcases Nat.lt_or_ge b w.heap.size with hlt | hge
  · exact hlt
  · unfold R2 at h; rw [Array.getElem?_eq_none hge] at h; cases h
theorem R2.kept {w w' : World} {b : Nat} {n d : Int} (h : R2 w b n d) (hg : w.grownBy w' none) : R2 w' b n d := (hg.block b h.lt (by simp)).trans h
theorem R2.far {w : World} {b o i : Nat} {v : Value} {n d : Int} (h : R2 w b n d) (hne : b ≠ o) : R2 (w.setCell ⟨o, i, none⟩ v) b n d :=
  ((grown_setCell w o i v).block b h.lt (by simpa using hne)).trans h
theorem R2.set {w : World} {b : Nat} {n d : Int} (h : R2 w b n d) (x y : Int) : R2 ((w.setCell ⟨b, 0, none⟩ (.int .i64 x)).setCell ⟨b, 1, none⟩ (.int .i64 y)) b x y := by
  unfold R2 at h ⊢
  simp [World.setCell, Array.getElem?_modify, h]
theorem R2.new (w : World) (n d : Int) : R2 (w.alloc (.cells #[.int .i64 n, .int .i64 d] 46)) w.heap.size n d := World.alloc_heap_new w _
theorem over1 (d n : Int) (B c : Nat) (w : World) (hd : i64 d) (hd0 : d ≠ 0) (hn : i64 n) (h0 : w.cell? ⟨B, 0, none⟩ = some (.int .i64 n)) :
    Calls Try.prog 45 #[.int .i64 d, .slice (some ⟨B, 0, none⟩) 1 c] w fun e w' => e = .returned (.tuple #[.agg #[.int .i64 (ofN n d), .int .i64 (ofD n d)], .int .i64 (ofE n d)]) ∧ w.grownBy w' none :=
  over_k d [n] B c n (by simp) w hd hd0 (by simp) (fun i h => by obtain rfl : i = 0 := by simpa using h
                                                                 exact h0)
    (fun k => by
      cases k with
      | zero => exact (show i64 0 from ⟨by decide, by decide⟩)
      | succ k => simpa using hn)
theorem over2 (d n m : Int) (B c : Nat) (w : World) (hd : i64 d) (hd0 : d ≠ 0) (hn : i64 n) (hm : i64 (n + m)) (h0 : w.cell? ⟨B, 0, none⟩ = some (.int .i64 n)) (h1 : w.cell? ⟨B, 1, none⟩ = some (.int .i64 m)) :
    Calls Try.prog 45 #[.int .i64 d, .slice (some ⟨B, 0, none⟩) 2 c] w fun e w' => e = .returned (.tuple #[.agg #[.int .i64 (ofN (n + m) d), .int .i64 (ofD (n + m) d)], .int .i64 (ofE (n + m) d)]) ∧ w.grownBy w' none :=
  over_k d [n, m] B c (n + m) (by simp) w hd hd0 (by simp) (fun i h => by
      have h' : i < 2 := by simpa using h
      rcases (show i = 0 ∨ i = 1 by omega) with rfl | rfl
      · exact h0
      · exact h1)
    (fun k => by
      match k with
      | 0 => exact (show i64 0 from ⟨by decide, by decide⟩)
      | 1 => simpa using hn
      | k + 2 => simpa using hm)
set_option maxRecDepth 100000 in
theorem of_k (n d : Int) (hn : i64 n) (hd : i64 d) (w : World) :
    Calls Try.prog 39 #[.int .i64 n, .int .i64 d] w fun e w' => e = .returned (.tuple #[.agg #[.int .i64 (ofN n d), .int .i64 (ofD n d)], .int .i64 (ofE n d)]) ∧ w.grownBy w' none := by
  by_cases hd0 : d = 0
  · subst hd0
    have e1 : ofN n 0 = 0 := by simp [ofN, okB]
    have e2 : ofD n 0 = 0 := by simp [ofD, okB]
    have e3 : ofE n 0 = 1 := by simp [ofE, okB]
    rw [e1, e2, e3]
    clear e1 e2 e3
    go_enter Try.func39, Try.ntmps39
    go_wp2_with fail
    exact bodyPost_ret (v := .tuple #[.agg #[.int .i64 0, .int .i64 0], .int .i64 1]) (by simp [results, Try.results39, go_sem]) rfl ⟨rfl, by
      (repeat (first | refine grown_set ?_ (.inl (by simp)) | refine grown_al ?_ | refine grown_dn ?_)); exact grown_refl _⟩
  · have K := Lib.hid (fun B c w' h0 => over1 d n B c w' hd hd0 hn h0)
    have hd1 : (d == 0) = false := by simpa using hd0
    have g1 := World.grownBy_alloc w (.cells #[.int .i64 0, .int .i64 0] 46) none
    have R := R2.new w 0 0
    go_enter Try.func39, Try.ntmps39
    go_wp2_with fail
    refine (K.out _ _ _ (cell_at (by simp))).mono ?_
    rintro e w1 ⟨rfl, g⟩
    have R := R.kept ((World.grownBy_alloc _ _ none).trans g)
    have g1 := g1.trans ((World.grownBy_alloc _ _ none).trans g)
    clear g K
    have c0 := R.c0
    have c1 := R.c1
    have f0 := R.f0
    have f1 := R.f1
    have hs := R.lt
    go_wp2_with fail
    have R' := R.set (ofN n d) (ofD n d)
    exact bodyPost_ret (v := .tuple #[.agg #[.int .i64 (ofN n d), .int .i64 (ofD n d)], .int .i64 (ofE n d)]) (by simp [results, Try.results39, go_sem, R'.c0, R'.c1]) rfl ⟨rfl, by
      (repeat (first | refine grown_set ?_ (.inl (by simp)) | refine grown_al ?_ | refine grown_dn ?_)); exact g1⟩
set_option maxRecDepth 100000 in
set_option maxHeartbeats 1000000 in
theorem ofr_at (n d rn rd re : Int) (hn : i64 n) (hd : i64 d) (w : World) (hrn : ofN n d = rn) (hrd : ofD n d = rd) (hre : ofE n d = re) :
    Calls Try.prog 40 #[.int .i64 n, .int .i64 d] w fun e w' => e = .returned (.tuple #[.agg #[.int .i64 rn, .int .i64 rd], .int .i64 re]) ∧ w.grownBy w' none := by
  by_cases hd0 : d = 0
  · subst hd0
    obtain rfl : rn = 0 := by rw [← hrn]; simp [ofN, okB]
    obtain rfl : rd = 0 := by rw [← hrd]; simp [ofD, okB]
    obtain rfl : re = 1 := by rw [← hre]; simp [ofE, okB]
    clear hrn hrd hre
    go_enter Try.func40, Try.ntmps40
    go_wp2_with fail
    exact bodyPost_ret (v := .tuple #[.agg #[.int .i64 0, .int .i64 0], .int .i64 1]) (by simp [results, Try.results40, go_sem]) rfl ⟨rfl, by
      (repeat (first | refine grown_set ?_ (.inl (by simp)) | refine grown_al ?_ | refine grown_dn ?_)); exact grown_refl _⟩
  · have hd1 : (d == 0) = false := by simpa using hd0
    have HN : Hid (rn = if okB n d then (if (decide (n < 0) != decide (d < 0)) then -(upN n d : Int) else (upN n d : Int)) else 0) := Lib.hid hrn.symm
    have HDn : Hid (rd = if okB n d then (dnN n d : Int) else 0) := Lib.hid hrd.symm
    have HE : Hid (re = if okB n d then 0 else 3) := Lib.hid (by rw [← hre]; unfold ofE; simp [hd0])
    clear hrn hrd hre
    have Ks := Lib.hid (size_r n hn)
    have Kd := Lib.hid (size_r d hd)
    have hS1 : n.natAbs ≤ 9223372036854775808 := by unfold i64 at hn; omega
    have hd2 : d.natAbs ≤ 9223372036854775808 := by unfold i64 at hd; omega
    have Kg := Lib.hid (gcd_r n.natAbs d.natAbs hS1 hd2)
    have hg := gcd_pos n d hd0
    have u1 := upN_le n d
    have u2 := dnN_le n d
    have HB : Hid (okB n d = (decide (upN n d ≤ 1073741824 ∧ dnN n d ≤ 1073741824))) := Lib.hid (by unfold okB; simp [hd0])
    have e3 : IntKind.u64.wrap ((upN n d : Nat) : Int) = ((upN n d : Nat) : Int) := by rw [wrapU]; omega
    have e4 : IntKind.u64.wrap ((dnN n d : Nat) : Int) = ((dnN n d : Nat) : Int) := by rw [wrapU]; omega
    have e1 : ((n.natAbs : Int) / (Nat.gcd n.natAbs d.natAbs : Int)) = ((upN n d : Nat) : Int) := rfl
    have e2 : ((d.natAbs : Int) / (Nat.gcd n.natAbs d.natAbs : Int)) = ((dnN n d : Nat) : Int) := rfl
    generalize Nat.gcd n.natAbs d.natAbs = G at *
    generalize okB n d = f at *
    generalize upN n d = U at *
    generalize dnN n d = L at *
    have g0 : ((G : Int) == 0) = false := by simp; omega
    clear u1 u2 hd0
    have ret : ∀ (a b c : Int) (w' : World), a = rn → b = rd → c = re → w.grownBy w' none → Ending.returned (.tuple #[.agg #[.int .i64 a, .int .i64 b], .int .i64 c]) = .returned (.tuple #[.agg #[.int .i64 rn, .int .i64 rd], .int .i64 re]) ∧ w.grownBy w' none := by
      rintro a b c w' rfl rfl rfl h; exact ⟨rfl, h⟩
    have HR := Lib.hid ret
    clear ret
    by_cases h1 : (U : Int) ≤ 1073741824
    · by_cases h2 : (L : Int) ≤ 1073741824
      · obtain rfl : f = true := by rw [HB.out]; simp; omega
        by_cases k1 : n < 0
        · have k1' : decide (n < 0) = true := by simpa using k1
          by_cases k2 : d < 0
          · have k2' : decide (d < 0) = true := by simpa using k2
            go_enter Try.func40, Try.ntmps40
            go_wp2_with fail
            refine (Ks.out _).mono ?_
            rintro e w' ⟨rfl, rfl⟩
            go_wp2_with fail
            refine (Kd.out _).mono ?_
            rintro e w' ⟨rfl, rfl⟩
            go_wp2_with fail
            refine (Kg.out _).mono ?_
            rintro e w' ⟨rfl, nq, rfl⟩
            go_wp2_with fail
            refine (Ks.out _).mono ?_
            rintro e w' ⟨rfl, rfl⟩
            go_wp2_with fail
            refine (Kd.out _).mono ?_
            rintro e w' ⟨rfl, rfl⟩
            go_wp2_with fail
            exact bodyPost_ret (v := .tuple #[.agg #[.int .i64 U, .int .i64 L], .int .i64 0]) (by simp [results, Try.results40, go_sem]) rfl (HR.out _ _ _ _ (by rw [HN.out, k1', k2']; rfl) (by rw [HDn.out]; rfl) (by rw [HE.out]; rfl) (by
              (repeat (first | refine grown_set ?_ (.inl (by simp)) | refine grown_al ?_ | refine grown_dn ?_)); exact grown_refl _))
          · have k2' : decide (d < 0) = false := by simpa using k2
            go_enter Try.func40, Try.ntmps40
            go_wp2_with fail
            refine (Ks.out _).mono ?_
            rintro e w' ⟨rfl, rfl⟩
            go_wp2_with fail
            refine (Kd.out _).mono ?_
            rintro e w' ⟨rfl, rfl⟩
            go_wp2_with fail
            refine (Kg.out _).mono ?_
            rintro e w' ⟨rfl, nq, rfl⟩
            go_wp2_with fail
            refine (Ks.out _).mono ?_
            rintro e w' ⟨rfl, rfl⟩
            go_wp2_with fail
            refine (Kd.out _).mono ?_
            rintro e w' ⟨rfl, rfl⟩
            go_wp2_with fail
            exact bodyPost_ret (v := .tuple #[.agg #[.int .i64 (-U), .int .i64 L], .int .i64 0]) (by simp [results, Try.results40, go_sem]) rfl (HR.out _ _ _ _ (by rw [HN.out, k1', k2']; rfl) (by rw [HDn.out]; rfl) (by rw [HE.out]; rfl) (by
              (repeat (first | refine grown_set ?_ (.inl (by simp)) | refine grown_al ?_ | refine grown_dn ?_)); exact grown_refl _))
        · have k1' : decide (n < 0) = false := by simpa using k1
          by_cases k2 : d < 0
          · have k2' : decide (d < 0) = true := by simpa using k2
            go_enter Try.func40, Try.ntmps40
            go_wp2_with fail
            refine (Ks.out _).mono ?_
            rintro e w' ⟨rfl, rfl⟩
            go_wp2_with fail
            refine (Kd.out _).mono ?_
            rintro e w' ⟨rfl, rfl⟩
            go_wp2_with fail
            refine (Kg.out _).mono ?_
            rintro e w' ⟨rfl, nq, rfl⟩
            go_wp2_with fail
            refine (Ks.out _).mono ?_
            rintro e w' ⟨rfl, rfl⟩
            go_wp2_with fail
            refine (Kd.out _).mono ?_
            rintro e w' ⟨rfl, rfl⟩
            go_wp2_with fail
            exact bodyPost_ret (v := .tuple #[.agg #[.int .i64 (-U), .int .i64 L], .int .i64 0]) (by simp [results, Try.results40, go_sem]) rfl (HR.out _ _ _ _ (by rw [HN.out, k1', k2']; rfl) (by rw [HDn.out]; rfl) (by rw [HE.out]; rfl) (by
              (repeat (first | refine grown_set ?_ (.inl (by simp)) | refine grown_al ?_ | refine grown_dn ?_)); exact grown_refl _))
          · have k2' : decide (d < 0) = false := by simpa using k2
            go_enter Try.func40, Try.ntmps40
            go_wp2_with fail
            refine (Ks.out _).mono ?_
            rintro e w' ⟨rfl, rfl⟩
            go_wp2_with fail
            refine (Kd.out _).mono ?_
            rintro e w' ⟨rfl, rfl⟩
            go_wp2_with fail
            refine (Kg.out _).mono ?_
            rintro e w' ⟨rfl, nq, rfl⟩
            go_wp2_with fail
            refine (Ks.out _).mono ?_
            rintro e w' ⟨rfl, rfl⟩
            go_wp2_with fail
            refine (Kd.out _).mono ?_
            rintro e w' ⟨rfl, rfl⟩
            go_wp2_with fail
            exact bodyPost_ret (v := .tuple #[.agg #[.int .i64 U, .int .i64 L], .int .i64 0]) (by simp [results, Try.results40, go_sem]) rfl (HR.out _ _ _ _ (by rw [HN.out, k1', k2']; rfl) (by rw [HDn.out]; rfl) (by rw [HE.out]; rfl) (by
              (repeat (first | refine grown_set ?_ (.inl (by simp)) | refine grown_al ?_ | refine grown_dn ?_)); exact grown_refl _))
      · obtain rfl : f = false := by rw [HB.out]; simp; omega
        go_enter Try.func40, Try.ntmps40
        go_wp2_with fail
        refine (Ks.out _).mono ?_
        rintro e w' ⟨rfl, rfl⟩
        go_wp2_with fail
        refine (Kd.out _).mono ?_
        rintro e w' ⟨rfl, rfl⟩
        go_wp2_with fail
        refine (Kg.out _).mono ?_
        rintro e w' ⟨rfl, nq, rfl⟩
        go_wp2_with fail
        refine (Ks.out _).mono ?_
        rintro e w' ⟨rfl, rfl⟩
        go_wp2_with fail
        refine (Kd.out _).mono ?_
        rintro e w' ⟨rfl, rfl⟩
        go_wp2_with fail
        exact bodyPost_ret (v := .tuple #[.agg #[.int .i64 0, .int .i64 0], .int .i64 3]) (by simp [results, Try.results40, go_sem]) rfl (HR.out _ _ _ _ (by rw [HN.out]; rfl) (by rw [HDn.out]; rfl) (by rw [HE.out]; rfl) (by
          (repeat (first | refine grown_set ?_ (.inl (by simp)) | refine grown_al ?_ | refine grown_dn ?_)); exact grown_refl _))
    · obtain rfl : f = false := by rw [HB.out]; simp; omega
      go_enter Try.func40, Try.ntmps40
      go_wp2_with fail
      refine (Ks.out _).mono ?_
      rintro e w' ⟨rfl, rfl⟩
      go_wp2_with fail
      refine (Kd.out _).mono ?_
      rintro e w' ⟨rfl, rfl⟩
      go_wp2_with fail
      refine (Kg.out _).mono ?_
      rintro e w' ⟨rfl, nq, rfl⟩
      go_wp2_with fail
      refine (Ks.out _).mono ?_
      rintro e w' ⟨rfl, rfl⟩
      go_wp2_with fail
      refine (Kd.out _).mono ?_
      rintro e w' ⟨rfl, rfl⟩
      go_wp2_with fail
      exact bodyPost_ret (v := .tuple #[.agg #[.int .i64 0, .int .i64 0], .int .i64 3]) (by simp [results, Try.results40, go_sem]) rfl (HR.out _ _ _ _ (by rw [HN.out]; rfl) (by rw [HDn.out]; rfl) (by rw [HE.out]; rfl) (by
        (repeat (first | refine grown_set ?_ (.inl (by simp)) | refine grown_al ?_ | refine grown_dn ?_)); exact grown_refl _))
theorem of_r (n d : Int) (hn : i64 n) (hd : i64 d) (w : World) :
    Calls Try.prog 40 #[.int .i64 n, .int .i64 d] w fun e w' => e = .returned (.tuple #[.agg #[.int .i64 (ofN n d), .int .i64 (ofD n d)], .int .i64 (ofE n d)]) ∧ w.grownBy w' none :=
  ofr_at n d _ _ _ hn hd w rfl rfl rfl
end Go.Proofs.Ytcilclbolmijfaa
