/-
  Steal of both, by their contracts.
-/
import Derived.Test.YtecobgjkodmaiaaDoorRing2
namespace Go.Proofs.YtecobgjkodmaiaaDoor
open Go.RowKit
attribute [local go_sem] get_mk extract_mk
def stealR (s : Int) (l : List K) (id day : Int) : Int × List K × Int :=
  if chkR s l ≠ 0 then (0, [], chkR s l) else if idxV l id < 0 then (0, [], 5)
  else if canS (keyAt l (idxV l id).toNat) day = false then (0, [], 23)
  else (s, l.set (idxV l id).toNat (sts (keyAt l (idxV l id).toNat) day), 0)
theorem sts_ok {x : K} {day : Int} (hx : x.ok) (hd : i64 day) : (sts x day).ok := by
  obtain ⟨h1, h2, h3, h4⟩ := hx
  unfold sts
  split
  · exact ⟨h1, h2, hd, h4⟩
  · exact ⟨h1, h2, h3, h4⟩
theorem ok_set {l : List K} {j : Nat} {y : K} (h : ∀ x ∈ l, x.ok) (hy : y.ok) : ∀ x ∈ l.set j y, x.ok := fun x hx => by
  rcases List.mem_or_eq_of_mem_set hx with h' | h'
  · exact h x h'
  · rw [h']; exact hy
theorem canS_iff (x : K) (day : Int) : canS x day = false ↔ day < 1 ∨ rightD day = false ∨ day < x.frm := by
  unfold canS
  by_cases h1 : rightD day = true
  · have : 0 ≤ day := by unfold rightD at h1; simp at h1; omega
    simp [h1]
    omega
  · simp at h1
    simp [h1]
set_option maxRecDepth 100000 in
set_option maxHeartbeats 1000000 in
/-- key.Steal -/
theorem stealring_k (s : Int) (A : Option Addr) (n c : Nat) (l : List K) (id day : Int) (hs : i64 s) (hid : i64 id) (hday : i64 day) (hn : n ≤ 900) (w : World) (hk : Keys w A n c l) :
    Calls Tryd.prog 15 #[.agg #[.int .i64 s, .slice A n c], .int .i64 id, .int .i64 day] w (RingIs w (stealR s l id day)) := by
  have hl := hk.len
  have HK := Lib.hid (fun W (g : w.grownBy W none) => hk.kept g)
  have HOK := Lib.hid hk.ok
  obtain ⟨w1, e1, HB, g1⟩ := row_of w 34 #[.int .i64 s, .slice A n c]
  obtain ⟨w3, e3, HR, g3⟩ := row_of w1 34 #[.int .i64 0, .slice none 0 0]
  have hs1 : w1.heap.size = w.heap.size + 1 := by rw [e1]; simp
  have E1 := Lib.hid e1
  have E3 := Lib.hid e3
  replace HB := HB.kept g3
  rw [hs1] at HR
  have gg := g1.trans g3
  clear e1 e3 g1 g3 hk
  have hl9 : l.length ≤ 1000 := by omega
  have hday2 := hday
  obtain ⟨d1, d2⟩ := hday2
  have HL := Lib.hid hl
  clear hl
  go_enter Tryd.func15, Tryd.ntmps15
  go_upto_region 1 with fail
  rw [← E1.out, ← E3.out]
  clear E1 E3 hs1
  have hwR : w.heap.size ≤ w.heap.size + 1 := by omega
  generalize hR : w.heap.size + 1 = R at *
  obtain ⟨B, hB⟩ : ∃ B, w.heap.size = B := ⟨_, rfl⟩
  rw [hB] at HB ⊢
  have b0 : w3.cell? ⟨B, 0, none⟩ = some (.int .i64 s) := HB.c 0 rfl
  have b1 : w3.cell? ⟨B, 1, none⟩ = some (.slice A n c) := HB.c 1 rfl
  go_wp2_with fail
  refine (ringck_k s A n c l hs _ (HK.out _ gg)).mono ?_
  rintro e w4 ⟨rfl, g⟩
  replace gg := gg.trans g
  replace HB := HB.kept g
  replace HR := HR.kept g
  clear b0 b1 g
  by_cases he : ¬ chkR s l = 0
  · have HE : stealR s l id day = (0, [], chkR s l) := by simp [stealR, he]
    have hz : (chkR s l != 0) = true := by simpa using he
    clear he
    generalize chkR s l = E at *
    have k0 : w4.cell? ⟨R, 0, none⟩ = some (.int .i64 0) := HR.c 0 rfl
    have k1 : w4.cell? ⟨R, 1, none⟩ = some (.slice none 0 0) := HR.c 1 rfl
    have f0 := HR.fz 0
    have f1 := HR.fz 1
    have hsz := HR.lt
    have RS : Row _ R 34 #[.int .i64 0, .slice none 0 0] := (HR.set 0 (.int .i64 0)).set 1 (.slice none 0 0)
    have gs := grown_set (i := 1) (v := .slice none 0 0) (grown_set (i := 0) (v := .int .i64 0) gg (.inl hwR)) (.inl hwR)
    go_wp2_with fail
    exact bodyPost_ret (v := .tuple #[.agg #[.int .i64 0, .slice none 0 0], .int .i64 E]) (by simp [results, Tryd.results15, go_sem, RS.c 0 rfl, RS.c 1 rfl]) rfl (ring_zero HE gs)
  have he0 : chkR s l = 0 := Classical.not_not.1 he
  clear he
  have HE0 : Hid (stealR s l id day = if idxV l id < 0 then (0, [], 5) else if canS (keyAt l (idxV l id).toNat) day = false then (0, [], 23) else (s, l.set (idxV l id).toNat (sts (keyAt l (idxV l id).toNat) day), 0)) := Lib.hid (by simp [stealR, he0])
  rw [he0]
  clear he0
  have b0 : w4.cell? ⟨B, 0, none⟩ = some (.int .i64 s) := HB.c 0 rfl
  have b1 : w4.cell? ⟨B, 1, none⟩ = some (.slice A n c) := HB.c 1 rfl
  go_wp2_with fail
  refine (index_k A n c l id hid _ (HK.out _ gg)).mono ?_
  rintro e w5 ⟨rfl, g⟩
  replace gg := gg.trans g
  replace HB := HB.kept g
  replace HR := HR.kept g
  clear b0 b1 g
  rcases idxV_cases l id with ⟨hi, _⟩ | ⟨j, x, hi, hx, hxi⟩
  · have HE : stealR s l id day = (0, [], 5) := by rw [HE0.out, hi]; rfl
    rw [hi]
    clear hi HE0
    have k0 : w5.cell? ⟨R, 0, none⟩ = some (.int .i64 0) := HR.c 0 rfl
    have k1 : w5.cell? ⟨R, 1, none⟩ = some (.slice none 0 0) := HR.c 1 rfl
    have f0 := HR.fz 0
    have f1 := HR.fz 1
    have hsz := HR.lt
    have RS : Row _ R 34 #[.int .i64 0, .slice none 0 0] := (HR.set 0 (.int .i64 0)).set 1 (.slice none 0 0)
    have gs := grown_set (i := 1) (v := .slice none 0 0) (grown_set (i := 0) (v := .int .i64 0) gg (.inl hwR)) (.inl hwR)
    go_wp2_with fail
    exact bodyPost_ret (v := .tuple #[.agg #[.int .i64 0, .slice none 0 0], .int .i64 5]) (by simp [results, Tryd.results15, go_sem, RS.c 0 rfl, RS.c 1 rfl]) rfl (ring_zero HE gs)
  rw [hi]
  have hj := (List.getElem?_eq_some_iff.1 hx).1
  have hjn : j < n := by have := HL.out; omega
  have hcn := (HK.out _ gg).le
  have hcc := (HK.out _ gg).cap
  obtain ⟨ad, y, hy, eA, hbl, ⟨o1, o2, o3, o4⟩, x0, x1, x2, x3⟩ := (HK.out _ gg).at j hjn
  rw [hx] at hy
  injection hy with hy
  subst hy eA
  have hka : keyAt l j = x := by simp [keyAt, hx]
  have HE1 : Hid (stealR s l id day = if canS x day = false then (0, [], 23) else (s, l.set j (sts x day), 0)) := Lib.hid (by rw [HE0.out, hi, if_neg (by omega), Int.toNat_natCast, hka])
  have HX := Lib.hid hx
  have hxok : Hid x.ok := Lib.hid ⟨o1, o2, o3, o4⟩
  clear HE0 hi hka hxi hx
  have b0 : w5.cell? ⟨B, 0, none⟩ = some (.int .i64 s) := HB.c 0 rfl
  have b1 : w5.cell? ⟨B, 1, none⟩ = some (.slice (some ad) n c) := HB.c 1 rfl
  obtain ⟨xi, xs, xf, xt⟩ := x
  go_wp2_with fail
  refine (canS_k xi xs xf xt day o2 hday _).mono ?_
  rintro e w6 ⟨rfl, g⟩
  replace gg := gg.trans g
  replace HB := HB.kept g
  replace HR := HR.kept g
  clear b0 b1 x0 x1 x2 x3 g hbl
  by_cases hc : canS ⟨xi, xs, xf, xt⟩ day = false
  · have HE : stealR s l id day = (0, [], 23) := by rw [HE1.out, if_pos hc]
    rw [hc]
    clear hc HE1
    have k0 : w6.cell? ⟨R, 0, none⟩ = some (.int .i64 0) := HR.c 0 rfl
    have k1 : w6.cell? ⟨R, 1, none⟩ = some (.slice none 0 0) := HR.c 1 rfl
    have f0 := HR.fz 0
    have f1 := HR.fz 1
    have hsz := HR.lt
    have RS : Row _ R 34 #[.int .i64 0, .slice none 0 0] := (HR.set 0 (.int .i64 0)).set 1 (.slice none 0 0)
    have gs := grown_set (i := 1) (v := .slice none 0 0) (grown_set (i := 0) (v := .int .i64 0) gg (.inl hwR)) (.inl hwR)
    go_wp2_with fail
    exact bodyPost_ret (v := .tuple #[.agg #[.int .i64 0, .slice none 0 0], .int .i64 23]) (by simp [results, Tryd.results15, go_sem, RS.c 0 rfl, RS.c 1 rfl]) rfl (ring_zero HE gs)
  have HE : stealR s l id day = (s, l.set j (sts ⟨xi, xs, xf, xt⟩ day), 0) := by rw [HE1.out, if_neg hc]
  have HEE := Lib.hid HE
  have hct := not_false hc
  rw [hct]
  clear hc HE1 hct HE
  have b0 : w6.cell? ⟨B, 0, none⟩ = some (.int .i64 s) := HB.c 0 rfl
  have b1 : w6.cell? ⟨B, 1, none⟩ = some (.slice (some ad) n c) := HB.c 1 rfl
  go_wp2_with fail
  refine (draft_k s _ n c l _ (HK.out _ gg) (by omega)).mono ?_
  rintro e w7 ⟨D, A', c', rfl, hD, HD, HO, hne, g⟩
  obtain ⟨ga, c1, hv⟩ : ∃ ga c1, Value.slice A' l.length c' = .slice (some ⟨ga, 0, none⟩) l.length c1 := by
    rcases HO.slice with ⟨_, e⟩ | ⟨ga, c1, e⟩
    · rw [e] at hj; simp at hj
    · exact ⟨ga, c1, e⟩
  rw [hv] at HO HD hne
  clear hv
  have hgD : ga ≠ D := fun e => hne (by rw [e]; rfl)
  have hR6 := HR.lt
  have hgR : ga ≠ R := by have := (HO.lt ga rfl).1; omega
  clear b0 b1 hne
  go_wp2_with fail
  refine (steal_k D w6.heap.size ga c1 j s l ⟨xi, xs, xf, xt⟩ day hday w6 w7 HD HO hgD HX.out HOK.out hl9 g (Nat.le_refl _)).mono ?_
  rintro e w8 ⟨u, rfl, HD8, HO8, g8⟩
  have gg8 := gg.trans g8
  replace HR := HR.kept g8
  have hk8 := keys_of HO8 (ok_set HOK.out (sts_ok hxok.out hday)) (by simp)
  have q0 : w8.cell? ⟨D, 0, none⟩ = some (.int .i64 s) := HD8.c 0 rfl
  have q1 : w8.cell? ⟨D, 1, none⟩ = some (.slice (some ⟨ga, 0, none⟩) l.length c1) := HD8.c 1 rfl
  clear HD8 HO8 HD HO g g8
  have k0 : w8.cell? ⟨R, 0, none⟩ = some (.int .i64 0) := HR.c 0 rfl
  have k1 : w8.cell? ⟨R, 1, none⟩ = some (.slice none 0 0) := HR.c 1 rfl
  have f0 := HR.fz 0
  have f1 := HR.fz 1
  have hsz := HR.lt
  have RS : Row _ R 34 #[.int .i64 s, .slice (some ⟨ga, 0, none⟩) l.length c1] := (HR.set 0 (.int .i64 s)).set 1 (.slice (some ⟨ga, 0, none⟩) l.length c1)
  have gs := grown_set (i := 1) (v := .slice (some ⟨ga, 0, none⟩) l.length c1) (grown_set (i := 0) (v := .int .i64 s) gg8 (.inl hwR)) (.inl hwR)
  have HKS := keys_far (R := R) (v0 := .int .i64 s) (v1 := .slice (some ⟨ga, 0, none⟩) l.length c1) hk8 hgR
  go_wp2_with fail
  exact bodyPost_ret (v := .tuple #[.agg #[.int .i64 s, .slice (some ⟨ga, 0, none⟩) l.length c1], .int .i64 0]) (by simp [results, Tryd.results15, go_sem, RS.c 0 rfl, RS.c 1 rfl]) rfl (ring_full HEE.out HKS gs)
end Go.Proofs.YtecobgjkodmaiaaDoor
