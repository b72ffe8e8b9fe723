/-
  The reference's Add; Steal of both, by their contracts.
-/
import Derived.Test.YtecobgjkodmaiaaDoorRing
namespace Go.Proofs.YtecobgjkodmaiaaDoor
open Go.RowKit
attribute [local go_sem] get_mk extract_mk
theorem own_some {w : World} {b : Nat} {v : Value} {l : List K} {x : K} (h : OwnK w b v (l ++ [x])) : ∃ g c, v = .slice (some ⟨g, 0, none⟩) (l.length + 1) c := by
  rcases h.slice with ⟨_, e⟩ | e
  · simp at e
  · simpa using e
theorem own_ne {gb ga P S n n2 c c2 : Nat} (hb : (Value.slice (some ⟨gb, 0, none⟩) n c).ownBlock = (Value.slice (some ⟨ga, 0, none⟩) n2 c2).ownBlock ∨ (Value.slice (some ⟨gb, 0, none⟩) n c).ownBlock = some S) (h1 : ga ≠ P) (h2 : P ≠ S) : gb ≠ P := by
  rcases hb with e | e
  · simp [Value.ownBlock] at e; omega
  · simp [Value.ownBlock] at e; omega
set_option maxRecDepth 100000 in
set_option maxHeartbeats 1000000 in
/-- the reference's Add -/
theorem addring_r (s : Int) (A : Option Addr) (n c : Nat) (l : List K) (x : K) (hs : i64 s) (hx : x.ok) (hn : n ≤ 900) (w : World) (hk : Keys w A n c l) :
    Calls Tryd.prog 14 #[.agg #[.int .i64 s, .slice A n c], .agg #[.int .i64 x.id, .string ⟨x.sec.toArray⟩, .int .i64 x.frm, .int .i64 x.stl]] w (RingIs w (addR s l x)) := by
  have hl := hk.len
  have HK := Lib.hid (fun W (g : w.grownBy W none) => hk.kept g)
  have HOK := Lib.hid (ok_app hk.ok hx)
  obtain ⟨w1, e1, HB, g1⟩ := row_of w 34 #[.int .i64 s, .slice A n c]
  obtain ⟨w2, e2, HX, g2⟩ := row_of w1 28 #[.int .i64 x.id, .string ⟨x.sec.toArray⟩, .int .i64 x.frm, .int .i64 x.stl]
  obtain ⟨w3, e3, HR, g3⟩ := row_of w2 34 #[.int .i64 0, .slice none 0 0]
  have hs1 : w1.heap.size = w.heap.size + 1 := by rw [e1]; simp
  have hs2 : w2.heap.size = w.heap.size + 1 + 1 := by rw [e2]; simp [hs1]
  have E1 := Lib.hid e1
  have E2 := Lib.hid e2
  have E3 := Lib.hid e3
  replace HB := HB.kept (g2.trans g3)
  replace HX := HX.kept g3
  rw [hs1] at HX
  rw [hs2] at HR
  have gg := (g1.trans g2).trans g3
  clear e1 e2 e3 g1 g2 g3 hk
  have hl9 : l.length ≤ 1000 := by omega
  clear hl
  go_enter Tryd.func14, Tryd.ntmps14
  go_upto_region 1 with fail
  rw [← E1.out, ← E2.out, ← E3.out]
  clear E1 E2 E3 hs1 hs2
  have hwR : w.heap.size ≤ w.heap.size + 1 + 1 := by omega
  generalize hR : w.heap.size + 1 + 1 = R at *
  generalize hX : w.heap.size + 1 = X at *
  obtain ⟨B, hB⟩ : ∃ B, w.heap.size = B := ⟨_, rfl⟩
  rw [hB] at HB ⊢
  have b0 : w3.cell? ⟨B, 0, none⟩ = some (.int .i64 s) := HB.c 0 rfl
  have b1 : w3.cell? ⟨B, 1, none⟩ = some (.slice A n c) := HB.c 1 rfl
  go_wp2_with fail
  refine (ringck_r s A n c l hs _ (HK.out _ gg)).mono ?_
  rintro e w4 ⟨rfl, g⟩
  replace gg := gg.trans g
  replace HB := HB.kept g
  replace HX := HX.kept g
  replace HR := HR.kept g
  clear b0 b1 g
  by_cases he : chkR s l = 0
  · rw [he]
    have b0 : w4.cell? ⟨B, 0, none⟩ = some (.int .i64 s) := HB.c 0 rfl
    have b1 : w4.cell? ⟨B, 1, none⟩ = some (.slice A n c) := HB.c 1 rfl
    go_wp2_with fail
    refine (copy_r s A n c l _ (HK.out _ gg) (by omega)).mono ?_
    rintro e w5 ⟨ga, c', rfl, HO, g⟩
    have hw4 := gg.size
    replace gg := gg.trans g
    replace HX := HX.kept g
    have hR4 := HR.lt
    replace HR := HR.kept g
    have hw45 := g.size
    clear b0 b1 HB g
    go_upto_region 5 with fail
    obtain ⟨w6, e6, HP, g⟩ := row_of w5 34 #[.int .i64 s, .slice (some ⟨ga, 0, none⟩) l.length c']
    rw [← e6]
    replace gg := gg.trans g
    replace HX := HX.kept g
    replace HR := HR.kept g
    have hP : ga ≠ w5.heap.size := by have := (HO.lt ga rfl).2; omega
    replace HO := HO.kept0 g
    have hw46 := Nat.le_trans hw45 g.size
    have hRP : R < w5.heap.size := by omega
    clear e6 g
    generalize w5.heap.size = P at *
    have x0 : w6.cell? ⟨X, 0, none⟩ = some (.int .i64 x.id) := HX.c 0 rfl
    have x1 : w6.cell? ⟨X, 1, none⟩ = some (.string ⟨x.sec.toArray⟩) := HX.c 1 rfl
    have x2 : w6.cell? ⟨X, 2, none⟩ = some (.int .i64 x.frm) := HX.c 2 rfl
    have x3 : w6.cell? ⟨X, 3, none⟩ = some (.int .i64 x.stl) := HX.c 3 rfl
    have p0 : w6.cell? ⟨P, 0, none⟩ = some (.int .i64 s) := HP.c 0 rfl
    have p1 : w6.cell? ⟨P, 1, none⟩ = some (.slice (some ⟨ga, 0, none⟩) l.length c') := HP.c 1 rfl
    have gN := World.grownBy_alloc w6 (.cells #[.int .i64 x.id, .string ⟨x.sec.toArray⟩, .int .i64 x.frm, .int .i64 x.stl] 28) none
    have HN := Row.new w6 28 #[.int .i64 x.id, .string ⟨x.sec.toArray⟩, .int .i64 x.frm, .int .i64 x.stl]
    go_wp2_with (at_builtin; refine wpList_append_keys rfl _ _ rfl w4.heap.size _ l rfl (HO.kept0 gN) (some ⟨w6.heap.size, 0, none⟩) 1 1 [x] rfl (Keys.one HN hx) (by omega) (Nat.le_trans hw46 gN.size) ?_; intro v' w7 ho hg hb hv; obtain ⟨gb, c2, rfl⟩ := own_some ho; have HP7 := (HP.kept gN).keptR hg (by intro e; have e : some P = some ga := e; injection e with e; exact hP e.symm); have k0 : w7.cell? ⟨P, 0, none⟩ = some (.int .i64 s) := HP7.c 0 rfl; have k1 : w7.cell? ⟨P, 1, none⟩ = some (.slice (some ⟨ga, 0, none⟩) l.length c') := HP7.c 1 rfl; have f1 := HP7.fz 1; have hsz := HP7.lt; have hgP := own_ne hb hP (show P ≠ (w6.alloc (.cells #[.int .i64 x.id, .string ⟨x.sec.toArray⟩, .int .i64 x.frm, .int .i64 x.stl] 28)).heap.size by have := (HP.kept gN).lt; omega); have g7 : w6.grownBy w7 (some ga) := (grown_any gN).andThen hg (fun r e => .inr e); have RS : Row _ P 34 #[.int .i64 s, .slice (some ⟨gb, 0, none⟩) (l.length + 1) c2] := HP7.set 1 (.slice (some ⟨gb, 0, none⟩) (l.length + 1) c2); have HOS := ho.kept (grown_setCell w7 P 1 (.slice (some ⟨gb, 0, none⟩) (l.length + 1) c2)) (.inr (by simpa [Value.ownBlock] using hgP)); clear HP7 hv x0 x1 x2 x3 p0 p1)
    have hga := (HO.lt ga rfl).1
    have HR7 := HR.keptR g7 (by intro e; injection e with e; omega)
    have HR := HR7.far (o := P) (i := 1) (v := .slice (some ⟨gb, 0, none⟩) (l.length + 1) c2) (by omega)
    have gg := grown_set (i := 1) (v := .slice (some ⟨gb, 0, none⟩) (l.length + 1) c2) (gg.andThen g7 (fun r e => .inl (by injection e with e; omega))) (.inl (show w.heap.size ≤ P by omega))
    have hk8 := keys_of HOS HOK.out (by simp)
    have hgR : gb ≠ R := by have := (HOS.lt gb rfl).1; omega
    clear HR7 g7 HO HX HOS hb hg ho gN HN f1 hsz k0 k1 HP
    generalize w7.setCell ⟨P, 1, none⟩ (.slice (some ⟨gb, 0, none⟩) (l.length + 1) c2) = w8 at *
    refine (ringck_r s _ _ _ _ hs _ hk8).mono ?_
    rintro e w9 ⟨rfl, g⟩
    replace hk8 := hk8.kept g
    replace HR := HR.kept g
    replace RS := RS.kept g
    replace gg := gg.trans g
    clear g
    by_cases he2 : chkR s (l ++ [x]) = 0
    · rw [he2]
      have HE : addR s l x = (s, l ++ [x], 0) := by simp [addR, he, he2]
      have q0 : w9.cell? ⟨P, 0, none⟩ = some (.int .i64 s) := RS.c 0 rfl
      have q1 : w9.cell? ⟨P, 1, none⟩ = some (.slice (some ⟨gb, 0, none⟩) (l.length + 1) c2) := RS.c 1 rfl
      clear RS he he2
      have k0 : w9.cell? ⟨R, 0, none⟩ = some (.int .i64 0) := HR.c 0 rfl
      have k1 : w9.cell? ⟨R, 1, none⟩ = some (.slice none 0 0) := HR.c 1 rfl
      have f0 := HR.fz 0
      have f1 := HR.fz 1
      have hsz := HR.lt
      have RS : Row _ R 34 #[.int .i64 s, .slice (some ⟨gb, 0, none⟩) (l.length + 1) c2] := (HR.set 0 (.int .i64 s)).set 1 (.slice (some ⟨gb, 0, none⟩) (l.length + 1) c2)
      have gs := grown_set (i := 1) (v := .slice (some ⟨gb, 0, none⟩) (l.length + 1) c2) (grown_set (i := 0) (v := .int .i64 s) gg (.inl hwR)) (.inl hwR)
      have HKS := keys_far (R := R) (v0 := .int .i64 s) (v1 := .slice (some ⟨gb, 0, none⟩) (l.length + 1) c2) hk8 hgR
      go_wp2_with fail
      exact bodyPost_ret (v := .tuple #[.agg #[.int .i64 s, .slice (some ⟨gb, 0, none⟩) (l.length + 1) c2], .int .i64 0]) (by simp [results, Tryd.results14, go_sem, RS.c 0 rfl, RS.c 1 rfl]) rfl (ring_full HE HKS gs)
    · have HE : addR s l x = (0, [], chkR s (l ++ [x])) := by simp [addR, he, he2]
      have hz : (chkR s (l ++ [x]) != 0) = true := by simpa using he2
      clear he he2 RS
      generalize chkR s (l ++ [x]) = E at *
      have k0 : w9.cell? ⟨R, 0, none⟩ = some (.int .i64 0) := HR.c 0 rfl
      have k1 : w9.cell? ⟨R, 1, none⟩ = some (.slice none 0 0) := HR.c 1 rfl
      have f0 := HR.fz 0
      have f1 := HR.fz 1
      have hsz := HR.lt
      have RS : Row _ R 34 #[.int .i64 0, .slice none 0 0] := (HR.set 0 (.int .i64 0)).set 1 (.slice none 0 0)
      have gs := grown_set (i := 1) (v := .slice none 0 0) (grown_set (i := 0) (v := .int .i64 0) gg (.inl hwR)) (.inl hwR)
      go_wp2_with fail
      exact bodyPost_ret (v := .tuple #[.agg #[.int .i64 0, .slice none 0 0], .int .i64 E]) (by simp [results, Tryd.results14, go_sem, RS.c 0 rfl, RS.c 1 rfl]) rfl (ring_zero HE gs)
  · have HE : addR s l x = (0, [], chkR s l) := by simp [addR, he]
    have hz : (chkR s l != 0) = true := by simpa using he
    clear he
    generalize chkR s l = E at *
    have k0 : w4.cell? ⟨R, 0, none⟩ = some (.int .i64 0) := HR.c 0 rfl
    have k1 : w4.cell? ⟨R, 1, none⟩ = some (.slice none 0 0) := HR.c 1 rfl
    have f0 := HR.fz 0
    have f1 := HR.fz 1
    have hsz := HR.lt
    have RS : Row _ R 34 #[.int .i64 0, .slice none 0 0] := (HR.set 0 (.int .i64 0)).set 1 (.slice none 0 0)
    have gs := grown_set (i := 1) (v := .slice none 0 0) (grown_set (i := 0) (v := .int .i64 0) gg (.inl hwR)) (.inl hwR)
    go_wp2_with fail
    exact bodyPost_ret (v := .tuple #[.agg #[.int .i64 0, .slice none 0 0], .int .i64 E]) (by simp [results, Tryd.results14, go_sem, RS.c 0 rfl, RS.c 1 rfl]) rfl (ring_zero HE gs)
end Go.Proofs.YtecobgjkodmaiaaDoor
