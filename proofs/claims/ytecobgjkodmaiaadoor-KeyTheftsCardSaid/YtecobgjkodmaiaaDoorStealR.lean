/-
  The reference's Steal, by its contract.
-/
import Derived.Test.YtecobgjkodmaiaaDoorStealK
namespace Go.Proofs.YtecobgjkodmaiaaDoor
open Go.RowKit
attribute [local go_sem] get_mk extract_mk
set_option maxRecDepth 100000 in
set_option maxHeartbeats 1000000 in
/-- the reference's Steal -/
theorem stealring_r (s : Int) (A : Option Addr) (n c : Nat) (l : List K) (id day : Int) (hs : i64 s) (hid : i64 id) (hday : i64 day) (hn : n ≤ 900) (w : World) (hk : Keys w A n c l) :
    Calls Tryd.prog 16 #[.agg #[.int .i64 s, .slice A n c], .int .i64 id, .int .i64 day] w (RingIs w (stealR s l id day)) := by
  have hl := hk.len
  have HK := Lib.hid (fun W (g : w.grownBy W none) => hk.kept g)
  have HOK := Lib.hid hk.ok
  obtain ⟨w1, e1, HB, g1⟩ := row_of w 34 #[.int .i64 s, .slice A n c]
  obtain ⟨w3, e3, HR, g3⟩ := row_of w1 34 #[.int .i64 0, .slice none 0 0]
  have hs1 : w1.heap.size = w.heap.size + 1 := by rw [e1]; simp
  have E1 := Lib.hid e1
  have E3 := Lib.hid e3
  replace HB := HB.kept g3
  rw [hs1] at HR
  have gg := g1.trans g3
  clear e1 e3 g1 g3 hk
  have hl9 : l.length ≤ 1000 := by omega
  have hday2 := hday
  obtain ⟨d1, d2⟩ := hday2
  have HL := Lib.hid hl
  clear hl
  go_enter Tryd.func16, Tryd.ntmps16
  go_upto_region 1 with fail
  rw [← E1.out, ← E3.out]
  clear E1 E3 hs1
  have hwR : w.heap.size ≤ w.heap.size + 1 := by omega
  generalize hR : w.heap.size + 1 = R at *
  obtain ⟨B, hB⟩ : ∃ B, w.heap.size = B := ⟨_, rfl⟩
  rw [hB] at HB ⊢
  have b0 : w3.cell? ⟨B, 0, none⟩ = some (.int .i64 s) := HB.c 0 rfl
  have b1 : w3.cell? ⟨B, 1, none⟩ = some (.slice A n c) := HB.c 1 rfl
  go_wp2_with fail
  refine (ringck_r s A n c l hs _ (HK.out _ gg)).mono ?_
  rintro e w4 ⟨rfl, g⟩
  replace gg := gg.trans g
  replace HB := HB.kept g
  replace HR := HR.kept g
  clear b0 b1 g
  by_cases he : ¬ chkR s l = 0
  · have HE : stealR s l id day = (0, [], chkR s l) := by simp [stealR, he]
    have hz : (chkR s l != 0) = true := by simpa using he
    clear he
    generalize chkR s l = E at *
    have k0 : w4.cell? ⟨R, 0, none⟩ = some (.int .i64 0) := HR.c 0 rfl
    have k1 : w4.cell? ⟨R, 1, none⟩ = some (.slice none 0 0) := HR.c 1 rfl
    have f0 := HR.fz 0
    have f1 := HR.fz 1
    have hsz := HR.lt
    have RS : Row _ R 34 #[.int .i64 0, .slice none 0 0] := (HR.set 0 (.int .i64 0)).set 1 (.slice none 0 0)
    have gs := grown_set (i := 1) (v := .slice none 0 0) (grown_set (i := 0) (v := .int .i64 0) gg (.inl hwR)) (.inl hwR)
    go_wp2_with fail
    exact bodyPost_ret (v := .tuple #[.agg #[.int .i64 0, .slice none 0 0], .int .i64 E]) (by simp [results, Tryd.results16, go_sem, RS.c 0 rfl, RS.c 1 rfl]) rfl (ring_zero HE gs)
  have he0 : chkR s l = 0 := Classical.not_not.1 he
  clear he
  have HE0 : Hid (stealR s l id day = if idxV l id < 0 then (0, [], 5) else if canS (keyAt l (idxV l id).toNat) day = false then (0, [], 23) else (s, l.set (idxV l id).toNat (sts (keyAt l (idxV l id).toNat) day), 0)) := Lib.hid (by simp [stealR, he0])
  rw [he0]
  clear he0
  have b0 : w4.cell? ⟨B, 0, none⟩ = some (.int .i64 s) := HB.c 0 rfl
  have b1 : w4.cell? ⟨B, 1, none⟩ = some (.slice A n c) := HB.c 1 rfl
  go_wp2_with fail
  refine (find_r s A n c l id hid _ (HK.out _ gg)).mono ?_
  rintro e w5 ⟨rfl, g⟩
  replace gg := gg.trans g
  replace HB := HB.kept g
  replace HR := HR.kept g
  clear b0 b1 g
  rcases idxV_cases l id with ⟨hi, _⟩ | ⟨j, x, hi, hx, hxi⟩
  · have HE : stealR s l id day = (0, [], 5) := by rw [HE0.out, hi]; rfl
    rw [hi]
    clear hi HE0
    have k0 : w5.cell? ⟨R, 0, none⟩ = some (.int .i64 0) := HR.c 0 rfl
    have k1 : w5.cell? ⟨R, 1, none⟩ = some (.slice none 0 0) := HR.c 1 rfl
    have f0 := HR.fz 0
    have f1 := HR.fz 1
    have hsz := HR.lt
    have RS : Row _ R 34 #[.int .i64 0, .slice none 0 0] := (HR.set 0 (.int .i64 0)).set 1 (.slice none 0 0)
    have gs := grown_set (i := 1) (v := .slice none 0 0) (grown_set (i := 0) (v := .int .i64 0) gg (.inl hwR)) (.inl hwR)
    go_wp2_with fail
    exact bodyPost_ret (v := .tuple #[.agg #[.int .i64 0, .slice none 0 0], .int .i64 5]) (by simp [results, Tryd.results16, go_sem, RS.c 0 rfl, RS.c 1 rfl]) rfl (ring_zero HE gs)
  rw [hi]
  have hj := (List.getElem?_eq_some_iff.1 hx).1
  have hjn : j < n := by have := HL.out; omega
  have hcn := (HK.out _ gg).le
  have hcc := (HK.out _ gg).cap
  obtain ⟨ad, y, hy, eA, hbl, ⟨o1, o2, o3, o4⟩, x0, x1, x2, x3⟩ := (HK.out _ gg).at j hjn
  rw [hx] at hy
  injection hy with hy
  subst hy eA
  have hka : keyAt l j = x := by simp [keyAt, hx]
  have HE1 : Hid (stealR s l id day = if canS x day = false then (0, [], 23) else (s, l.set j (sts x day), 0)) := Lib.hid (by rw [HE0.out, hi, if_neg (by omega), Int.toNat_natCast, hka])
  have HX := Lib.hid hx
  have hxok : Hid x.ok := Lib.hid ⟨o1, o2, o3, o4⟩
  clear HE0 hi hka hxi hx
  have b0 : w5.cell? ⟨B, 0, none⟩ = some (.int .i64 s) := HB.c 0 rfl
  have b1 : w5.cell? ⟨B, 1, none⟩ = some (.slice (some ad) n c) := HB.c 1 rfl
  obtain ⟨xi, xs, xf, xt⟩ := x
  go_wp2_with fail
  refine (day_r day hday _).mono ?_
  rintro e w6 ⟨rfl, rfl⟩
  by_cases c1 : day < 1
  · have HE : stealR s l id day = (0, [], 23) := by rw [HE1.out, if_pos ((canS_iff _ _).2 (.inl c1))]
    have h1 : decide (day < 1) = true := by simpa using c1
    clear c1
    clear HE1
    have k0 : w6.cell? ⟨R, 0, none⟩ = some (.int .i64 0) := HR.c 0 rfl
    have k1 : w6.cell? ⟨R, 1, none⟩ = some (.slice none 0 0) := HR.c 1 rfl
    have f0 := HR.fz 0
    have f1 := HR.fz 1
    have hsz := HR.lt
    have RS : Row _ R 34 #[.int .i64 0, .slice none 0 0] := (HR.set 0 (.int .i64 0)).set 1 (.slice none 0 0)
    have gs := grown_set (i := 1) (v := .slice none 0 0) (grown_set (i := 0) (v := .int .i64 0) gg (.inl hwR)) (.inl hwR)
    go_wp2_with fail
    exact bodyPost_ret (v := .tuple #[.agg #[.int .i64 0, .slice none 0 0], .int .i64 23]) (by simp [results, Tryd.results16, go_sem, RS.c 0 rfl, RS.c 1 rfl]) rfl (ring_zero HE gs)
  have h1 : decide (day < 1) = false := by simp; omega
  by_cases c2 : rightD day = false
  · have HE : stealR s l id day = (0, [], 23) := by rw [HE1.out, if_pos ((canS_iff _ _).2 (.inr (.inl c2)))]
    rw [c2]
    clear c1 c2
    clear HE1
    have k0 : w6.cell? ⟨R, 0, none⟩ = some (.int .i64 0) := HR.c 0 rfl
    have k1 : w6.cell? ⟨R, 1, none⟩ = some (.slice none 0 0) := HR.c 1 rfl
    have f0 := HR.fz 0
    have f1 := HR.fz 1
    have hsz := HR.lt
    have RS : Row _ R 34 #[.int .i64 0, .slice none 0 0] := (HR.set 0 (.int .i64 0)).set 1 (.slice none 0 0)
    have gs := grown_set (i := 1) (v := .slice none 0 0) (grown_set (i := 0) (v := .int .i64 0) gg (.inl hwR)) (.inl hwR)
    go_wp2_with fail
    exact bodyPost_ret (v := .tuple #[.agg #[.int .i64 0, .slice none 0 0], .int .i64 23]) (by simp [results, Tryd.results16, go_sem, RS.c 0 rfl, RS.c 1 rfl]) rfl (ring_zero HE gs)
  have c2t := not_false c2
  rw [c2t]
  by_cases c3 : day < xf
  · have HE : stealR s l id day = (0, [], 23) := by rw [HE1.out, if_pos ((canS_iff _ _).2 (.inr (.inr c3)))]
    have h3 : decide (day < xf) = true := by simpa using c3
    clear c1 c2 c3 c2t
    clear HE1
    have k0 : w6.cell? ⟨R, 0, none⟩ = some (.int .i64 0) := HR.c 0 rfl
    have k1 : w6.cell? ⟨R, 1, none⟩ = some (.slice none 0 0) := HR.c 1 rfl
    have f0 := HR.fz 0
    have f1 := HR.fz 1
    have hsz := HR.lt
    have RS : Row _ R 34 #[.int .i64 0, .slice none 0 0] := (HR.set 0 (.int .i64 0)).set 1 (.slice none 0 0)
    have gs := grown_set (i := 1) (v := .slice none 0 0) (grown_set (i := 0) (v := .int .i64 0) gg (.inl hwR)) (.inl hwR)
    go_wp2_with fail
    exact bodyPost_ret (v := .tuple #[.agg #[.int .i64 0, .slice none 0 0], .int .i64 23]) (by simp [results, Tryd.results16, go_sem, RS.c 0 rfl, RS.c 1 rfl]) rfl (ring_zero HE gs)
  have h3 : decide (day < xf) = false := by simpa using c3
  have HE : stealR s l id day = (s, l.set j (sts ⟨xi, xs, xf, xt⟩ day), 0) := by rw [HE1.out, if_neg (fun h => by rcases (canS_iff _ _).1 h with h | h | h; exact c1 h; exact c2 h; exact c3 h)]
  have HEE := Lib.hid HE
  clear HE HE1 c1 c2 c3 c2t
  go_wp2_with fail
  refine (copy_r s _ n c l _ (HK.out _ gg) (by omega)).mono ?_
  rintro e w7 ⟨ga, c1, rfl, HO, g⟩
  have hR6 := HR.lt
  have hga := (HO.lt ga rfl).1
  have hwg : w.heap.size ≤ ga := Nat.le_trans gg.size hga
  have hgR : ga ≠ R := by omega
  replace gg := gg.trans g
  replace HR := HR.kept g
  clear b0 b1 x0 x1 x2 x3 HB g hbl
  go_upto_region 11 with fail
  obtain ⟨w8, e8, HP, g⟩ := row_of w7 34 #[.int .i64 s, .slice (some ⟨ga, 0, none⟩) l.length c1]
  rw [← e8]
  have hgP : ga ≠ w7.heap.size := by have := (HO.lt ga rfl).2; omega
  replace gg := gg.trans g
  replace HR := HR.kept g
  replace HO := HO.kept0 g
  clear e8 g
  generalize w7.heap.size = P at *
  have hcap := (keys_of HO HOK.out rfl).cap
  have hle := (keys_of HO HOK.out rfl).le
  obtain ⟨ad', y, hy, eA, _, _, _, _, _, y3⟩ := (keys_of HO HOK.out rfl).at j hj
  rw [HX.out] at hy
  injection hy with hy
  subst hy
  injection eA with eA
  subst eA
  rw [add_zero] at y3
  have hga2 : ((⟨ga, 0, none⟩ : Addr).add (j * 4)) = ⟨ga, j * 4, none⟩ := add_zero _ _
  obtain ⟨t1, t2⟩ := o3
  have p0 : w8.cell? ⟨P, 0, none⟩ = some (.int .i64 s) := HP.c 0 rfl
  have p1 : w8.cell? ⟨P, 1, none⟩ = some (.slice (some ⟨ga, 0, none⟩) l.length c1) := HP.c 1 rfl
  by_cases h0 : xt = 0
  · subst h0
    have HEX : Hid (l.set j (sts ⟨xi, xs, xf, 0⟩ day) = l.set j ⟨xi, xs, xf, day⟩) := Lib.hid (by simp [sts])
    have f3 : w8.frozen? ⟨ga, j * 4 + 3, none⟩ = false := HO.frozen
    have hgb : ga < w8.heap.size := (HO.lt ga rfl).2
    have HOS := HO.setStl HX.out day
    have HPS := HP.far (o := ga) (i := j * 4 + 3) (v := .int .i64 day) hgP.symm
    have HRS := HR.far (o := ga) (i := j * 4 + 3) (v := .int .i64 day) hgR.symm
    have gs9 := grown_set (i := j * 4 + 3) (v := .int .i64 day) gg (.inl hwg)
    go_upto_region 12 with fail
    have p0 : w8.cell? ⟨P, 0, none⟩ = some (.int .i64 s) := HP.c 0 rfl
    have p1 : w8.cell? ⟨P, 1, none⟩ = some (.slice (some ⟨ga, 0, none⟩) l.length c1) := HP.c 1 rfl
    go_upto_region 13 with fail
    clear p0 p1 y3 f3 hgb HO HP HR gg
    generalize w8.setCell ⟨ga, j * 4 + 3, none⟩ (.int .i64 day) = w9 at *
    rw [← HEX.out] at HOS
    have HP := HPS
    have HR := HRS
    have gg := gs9
    clear HPS HRS gs9
    have hk9 := keys_of HOS (ok_set HOK.out (sts_ok hxok.out hday)) (by simp)
    have q0 : w9.cell? ⟨P, 0, none⟩ = some (.int .i64 s) := HP.c 0 rfl
    have q1 : w9.cell? ⟨P, 1, none⟩ = some (.slice (some ⟨ga, 0, none⟩) l.length c1) := HP.c 1 rfl
    have k0 : w9.cell? ⟨R, 0, none⟩ = some (.int .i64 0) := HR.c 0 rfl
    have k1 : w9.cell? ⟨R, 1, none⟩ = some (.slice none 0 0) := HR.c 1 rfl
    have f0 := HR.fz 0
    have f1 := HR.fz 1
    have hsz := HR.lt
    have RS : Row _ R 34 #[.int .i64 s, .slice (some ⟨ga, 0, none⟩) l.length c1] := (HR.set 0 (.int .i64 s)).set 1 (.slice (some ⟨ga, 0, none⟩) l.length c1)
    have gs := grown_set (i := 1) (v := .slice (some ⟨ga, 0, none⟩) l.length c1) (grown_set (i := 0) (v := .int .i64 s) gg (.inl hwR)) (.inl hwR)
    have HKS := keys_far (R := R) (v0 := .int .i64 s) (v1 := .slice (some ⟨ga, 0, none⟩) l.length c1) hk9 hgR
    go_wp2_with fail
    exact bodyPost_ret (v := .tuple #[.agg #[.int .i64 s, .slice (some ⟨ga, 0, none⟩) l.length c1], .int .i64 0]) (by simp [results, Tryd.results16, go_sem, RS.c 0 rfl, RS.c 1 rfl]) rfl (ring_full HEE.out HKS gs)
  · have h4 : (xt == 0) = false := by simpa using h0
    by_cases h5 : day < xt
    · have HEX : Hid (l.set j (sts ⟨xi, xs, xf, xt⟩ day) = l.set j ⟨xi, xs, xf, day⟩) := Lib.hid (by simp [sts, h5])
      have h6 : decide (xt > day) = true := by simpa using h5
      clear h0
      have f3 : w8.frozen? ⟨ga, j * 4 + 3, none⟩ = false := HO.frozen
      have hgb : ga < w8.heap.size := (HO.lt ga rfl).2
      have HOS := HO.setStl HX.out day
      have HPS := HP.far (o := ga) (i := j * 4 + 3) (v := .int .i64 day) hgP.symm
      have HRS := HR.far (o := ga) (i := j * 4 + 3) (v := .int .i64 day) hgR.symm
      have gs9 := grown_set (i := j * 4 + 3) (v := .int .i64 day) gg (.inl hwg)
      go_upto_region 12 with fail
      have p0 : w8.cell? ⟨P, 0, none⟩ = some (.int .i64 s) := HP.c 0 rfl
      have p1 : w8.cell? ⟨P, 1, none⟩ = some (.slice (some ⟨ga, 0, none⟩) l.length c1) := HP.c 1 rfl
      go_upto_region 13 with fail
      clear p0 p1 y3 f3 hgb HO HP HR gg
      generalize w8.setCell ⟨ga, j * 4 + 3, none⟩ (.int .i64 day) = w9 at *
      rw [← HEX.out] at HOS
      have HP := HPS
      have HR := HRS
      have gg := gs9
      clear HPS HRS gs9
      have hk9 := keys_of HOS (ok_set HOK.out (sts_ok hxok.out hday)) (by simp)
      have q0 : w9.cell? ⟨P, 0, none⟩ = some (.int .i64 s) := HP.c 0 rfl
      have q1 : w9.cell? ⟨P, 1, none⟩ = some (.slice (some ⟨ga, 0, none⟩) l.length c1) := HP.c 1 rfl
      have k0 : w9.cell? ⟨R, 0, none⟩ = some (.int .i64 0) := HR.c 0 rfl
      have k1 : w9.cell? ⟨R, 1, none⟩ = some (.slice none 0 0) := HR.c 1 rfl
      have f0 := HR.fz 0
      have f1 := HR.fz 1
      have hsz := HR.lt
      have RS : Row _ R 34 #[.int .i64 s, .slice (some ⟨ga, 0, none⟩) l.length c1] := (HR.set 0 (.int .i64 s)).set 1 (.slice (some ⟨ga, 0, none⟩) l.length c1)
      have gs := grown_set (i := 1) (v := .slice (some ⟨ga, 0, none⟩) l.length c1) (grown_set (i := 0) (v := .int .i64 s) gg (.inl hwR)) (.inl hwR)
      have HKS := keys_far (R := R) (v0 := .int .i64 s) (v1 := .slice (some ⟨ga, 0, none⟩) l.length c1) hk9 hgR
      go_wp2_with fail
      exact bodyPost_ret (v := .tuple #[.agg #[.int .i64 s, .slice (some ⟨ga, 0, none⟩) l.length c1], .int .i64 0]) (by simp [results, Tryd.results16, go_sem, RS.c 0 rfl, RS.c 1 rfl]) rfl (ring_full HEE.out HKS gs)
    · have HEX : Hid (l.set j (sts ⟨xi, xs, xf, xt⟩ day) = l) := Lib.hid (by simp [sts, h0, h5]; exact set_same HX.out)
      have h6 : decide (xt > day) = false := by simpa using h5
      clear h0
      go_upto_region 13 with fail
      have HO9 : OwnK w8 w6.heap.size (.slice (some ⟨ga, 0, none⟩) l.length c1) (l.set j (sts ⟨xi, xs, xf, xt⟩ day)) := by rw [HEX.out]; exact HO
      have hk9 := keys_of HO9 (ok_set HOK.out (sts_ok hxok.out hday)) (by simp)
      have q0 : w8.cell? ⟨P, 0, none⟩ = some (.int .i64 s) := HP.c 0 rfl
      have q1 : w8.cell? ⟨P, 1, none⟩ = some (.slice (some ⟨ga, 0, none⟩) l.length c1) := HP.c 1 rfl
      have k0 : w8.cell? ⟨R, 0, none⟩ = some (.int .i64 0) := HR.c 0 rfl
      have k1 : w8.cell? ⟨R, 1, none⟩ = some (.slice none 0 0) := HR.c 1 rfl
      have f0 := HR.fz 0
      have f1 := HR.fz 1
      have hsz := HR.lt
      have RS : Row _ R 34 #[.int .i64 s, .slice (some ⟨ga, 0, none⟩) l.length c1] := (HR.set 0 (.int .i64 s)).set 1 (.slice (some ⟨ga, 0, none⟩) l.length c1)
      have gs := grown_set (i := 1) (v := .slice (some ⟨ga, 0, none⟩) l.length c1) (grown_set (i := 0) (v := .int .i64 s) gg (.inl hwR)) (.inl hwR)
      have HKS := keys_far (R := R) (v0 := .int .i64 s) (v1 := .slice (some ⟨ga, 0, none⟩) l.length c1) hk9 hgR
      go_wp2_with fail
      exact bodyPost_ret (v := .tuple #[.agg #[.int .i64 s, .slice (some ⟨ga, 0, none⟩) l.length c1], .int .i64 0]) (by simp [results, Tryd.results16, go_sem, RS.c 0 rfl, RS.c 1 rfl]) rfl (ring_full HEE.out HKS gs)
end Go.Proofs.YtecobgjkodmaiaaDoor
