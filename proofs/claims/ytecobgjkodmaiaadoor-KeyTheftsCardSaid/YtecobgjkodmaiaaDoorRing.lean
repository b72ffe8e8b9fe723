/-
  Add and Steal of both, by their contracts.
-/
import Derived.Test.YtecobgjkodmaiaaDoorDraft
import Derived.Test.YtecobgjkodmaiaaDoorRCheck
import Derived.Test.YtecobgjkodmaiaaDoorIdx
namespace Go.Proofs.YtecobgjkodmaiaaDoor
open Go.RowKit
attribute [local go_sem] get_mk extract_mk
/-- a ring and an error -/
def RingIs (w : World) (p : Int × List K × Int) (e : Ending) (w' : World) : Prop := ∃ A n c, e = .returned (.tuple #[.agg #[.int .i64 p.1, .slice A n c], .int .i64 p.2.2]) ∧ Keys w' A n c p.2.1 ∧ w.grownBy w' none
def addR (s : Int) (l : List K) (x : K) : Int × List K × Int := if chkR s l = 0 then if chkR s (l ++ [x]) = 0 then (s, l ++ [x], 0) else (0, [], chkR s (l ++ [x])) else (0, [], chkR s l)
theorem Keys.none_ (w : World) : Keys w none 0 0 [] := ⟨rfl, Nat.le_refl _, by omega, fun _ => rfl, (fun _ h => by cases h), fun h => by omega⟩
theorem ring_zero {w w' : World} {E : Int} {p : Int × List K × Int} (hp : p = (0, [], E)) (g : w.grownBy w' none) : RingIs w p (.returned (.tuple #[.agg #[.int .i64 0, .slice none 0 0], .int .i64 E])) w' := by
  subst hp
  exact ⟨none, 0, 0, rfl, Keys.none_ _, g⟩
theorem ring_full {w w' : World} {s : Int} {l : List K} {p : Int × List K × Int} {A : Option Addr} {n c : Nat} (hp : p = (s, l, 0)) (hk : Keys w' A n c l) (g : w.grownBy w' none) : RingIs w p (.returned (.tuple #[.agg #[.int .i64 s, .slice A n c], .int .i64 0])) w' := by
  subst hp
  exact ⟨A, n, c, rfl, hk, g⟩
theorem keys_of {w : World} {b : Nat} {A : Option Addr} {n c : Nat} {l : List K} (h : OwnK w b (.slice A n c) l) (hl : ∀ x ∈ l, x.ok) (hn : n = l.length) : Keys w A n c l := by
  obtain ⟨A', c', e, hk⟩ := h.keys hl
  injection e with e1 e2 e3
  subst e1 e3 hn
  exact hk
theorem ok_app {l : List K} {x : K} (h : ∀ y ∈ l, y.ok) (hx : x.ok) : ∀ y ∈ l ++ [x], y.ok := fun y hy => by
  rcases List.mem_append.1 hy with h' | h'
  · exact h y h'
  · rw [List.mem_singleton.1 h']; exact hx
theorem add_two (g a b : Nat) : ((⟨g, 0, none⟩ : Addr).add a).add b = ⟨g, a + b, none⟩ := by
  rw [add_zero]
  unfold Addr.add
  split <;> simp_all
/-- keys in a block other than the one that is written -/
theorem keys_far {w : World} {g n c : Nat} {l : List K} {R : Nat} {v0 v1 : Value} (h : Keys w (some ⟨g, 0, none⟩) n c l) (hg : g ≠ R) : Keys ((w.setCell ⟨R, 0, none⟩ v0).setCell ⟨R, 1, none⟩ v1) (some ⟨g, 0, none⟩) n c l :=
  ⟨h.len, h.le, h.cap, h.nil, h.ok, fun hn => by
    obtain ⟨ad, e, hb, hc⟩ := h.cell hn
    injection e with e
    subst e
    have gs : w.grownBy ((w.setCell ⟨R, 0, none⟩ v0).setCell ⟨R, 1, none⟩ v1) (some R) := grown_set (grown_set (World.grownBy.refl w (some R)) (.inr rfl)) (.inr rfl)
    refine ⟨_, rfl, Nat.lt_of_lt_of_le hb gs.size, fun j x hj i v hv => ?_⟩
    have := hc j x hj i v hv
    rw [add_two] at this ⊢
    exact gcellR gs (by intro e; injection e with e; exact hg e) this⟩
set_option maxRecDepth 100000 in
set_option maxHeartbeats 1000000 in
/-- key.Add -/
theorem addring_k (s : Int) (A : Option Addr) (n c : Nat) (l : List K) (x : K) (hs : i64 s) (hx : x.ok) (hn : n ≤ 900) (w : World) (hk : Keys w A n c l) :
    Calls Tryd.prog 13 #[.agg #[.int .i64 s, .slice A n c], .agg #[.int .i64 x.id, .string ⟨x.sec.toArray⟩, .int .i64 x.frm, .int .i64 x.stl]] w (RingIs w (addR s l x)) := by
  have hl := hk.len
  have HK := Lib.hid (fun W (g : w.grownBy W none) => hk.kept g)
  have HOK := Lib.hid (ok_app hk.ok hx)
  obtain ⟨w1, e1, HB, g1⟩ := row_of w 34 #[.int .i64 s, .slice A n c]
  obtain ⟨w2, e2, HX, g2⟩ := row_of w1 28 #[.int .i64 x.id, .string ⟨x.sec.toArray⟩, .int .i64 x.frm, .int .i64 x.stl]
  obtain ⟨w3, e3, HR, g3⟩ := row_of w2 34 #[.int .i64 0, .slice none 0 0]
  have hs1 : w1.heap.size = w.heap.size + 1 := by rw [e1]; simp
  have hs2 : w2.heap.size = w.heap.size + 1 + 1 := by rw [e2]; simp [hs1]
  have E1 := Lib.hid e1
  have E2 := Lib.hid e2
  have E3 := Lib.hid e3
  replace HB := HB.kept (g2.trans g3)
  replace HX := HX.kept g3
  rw [hs1] at HX
  rw [hs2] at HR
  have gg := (g1.trans g2).trans g3
  clear e1 e2 e3 g1 g2 g3 hk
  have hl9 : l.length ≤ 1000 := by omega
  clear hl
  go_enter Tryd.func13, Tryd.ntmps13
  go_upto_region 1 with fail
  rw [← E1.out, ← E2.out, ← E3.out]
  clear E1 E2 E3 hs1 hs2
  have hwR : w.heap.size ≤ w.heap.size + 1 + 1 := by omega
  generalize hR : w.heap.size + 1 + 1 = R at *
  generalize hX : w.heap.size + 1 = X at *
  obtain ⟨B, hB⟩ : ∃ B, w.heap.size = B := ⟨_, rfl⟩
  rw [hB] at HB ⊢
  have b0 : w3.cell? ⟨B, 0, none⟩ = some (.int .i64 s) := HB.c 0 rfl
  have b1 : w3.cell? ⟨B, 1, none⟩ = some (.slice A n c) := HB.c 1 rfl
  go_wp2_with fail
  refine (ringck_k s A n c l hs _ (HK.out _ gg)).mono ?_
  rintro e w4 ⟨rfl, g⟩
  replace gg := gg.trans g
  replace HB := HB.kept g
  replace HX := HX.kept g
  replace HR := HR.kept g
  clear b0 b1 g
  by_cases he : chkR s l = 0
  · rw [he]
    have b0 : w4.cell? ⟨B, 0, none⟩ = some (.int .i64 s) := HB.c 0 rfl
    have b1 : w4.cell? ⟨B, 1, none⟩ = some (.slice A n c) := HB.c 1 rfl
    go_wp2_with fail
    refine (draft_k s A n c l _ (HK.out _ gg) (by omega)).mono ?_
    rintro e w5 ⟨D, A', c', rfl, hD, HD, HO, hne, g⟩
    have gD := gg.trans g
    have HX5 := HX.kept g
    have HR5 := HR.kept g
    have HR4 := HR.lt
    clear b0 b1
    have x0 : w5.cell? ⟨X, 0, none⟩ = some (.int .i64 x.id) := HX5.c 0 rfl
    have x1 : w5.cell? ⟨X, 1, none⟩ = some (.string ⟨x.sec.toArray⟩) := HX5.c 1 rfl
    have x2 : w5.cell? ⟨X, 2, none⟩ = some (.int .i64 x.frm) := HX5.c 2 rfl
    have x3 : w5.cell? ⟨X, 3, none⟩ = some (.int .i64 x.stl) := HX5.c 3 rfl
    go_wp2_with fail
    refine (add_k D w4.heap.size s _ l x w4 w5 HD HO hne hx hl9 g (.inl (Nat.le_refl _)) (Nat.le_refl _) hD).mono ?_
    rintro e w6 ⟨u, gb, c2, rfl, HD6, HO6, hgD, g6⟩
    have gg6 := gg.trans g6
    replace HR := HR.kept g6
    clear x0 x1 x2 x3 HX5 HR5 HD HO hne g
    have q0 : w6.cell? ⟨D, 0, none⟩ = some (.int .i64 s) := HD6.c 0 rfl
    have q1 : w6.cell? ⟨D, 1, none⟩ = some (.slice (some ⟨gb, 0, none⟩) (l.length + 1) c2) := HD6.c 1 rfl
    have hk6 := keys_of HO6 HOK.out (by simp)
    have hgR : gb ≠ R := by have := (HO6.lt gb rfl).1; have := HR4; omega
    go_wp2_with fail
    refine (ringck_k s _ _ _ _ hs _ hk6).mono ?_
    rintro e w7 ⟨rfl, g⟩
    replace hk6 := hk6.kept g
    replace HR := HR.kept g
    replace HD6 := HD6.kept g
    replace gg6 := gg6.trans g
    clear q0 q1 g HO6
    by_cases he2 : chkR s (l ++ [x]) = 0
    · rw [he2]
      have HE : addR s l x = (s, l ++ [x], 0) := by simp [addR, he, he2]
      have q0 : w7.cell? ⟨D, 0, none⟩ = some (.int .i64 s) := HD6.c 0 rfl
      have q1 : w7.cell? ⟨D, 1, none⟩ = some (.slice (some ⟨gb, 0, none⟩) (l.length + 1) c2) := HD6.c 1 rfl
      have k0 : w7.cell? ⟨R, 0, none⟩ = some (.int .i64 0) := HR.c 0 rfl
      have k1 : w7.cell? ⟨R, 1, none⟩ = some (.slice none 0 0) := HR.c 1 rfl
      have f0 := HR.fz 0
      have f1 := HR.fz 1
      have hsz := HR.lt
      have RS : Row _ R 34 #[.int .i64 s, .slice (some ⟨gb, 0, none⟩) (l.length + 1) c2] := (HR.set 0 (.int .i64 s)).set 1 (.slice (some ⟨gb, 0, none⟩) (l.length + 1) c2)
      have gs := grown_set (i := 1) (v := .slice (some ⟨gb, 0, none⟩) (l.length + 1) c2) (grown_set (i := 0) (v := .int .i64 s) gg6 (.inl hwR)) (.inl hwR)
      have HKS := keys_far (R := R) (v0 := .int .i64 s) (v1 := .slice (some ⟨gb, 0, none⟩) (l.length + 1) c2) hk6 hgR
      clear he he2
      go_wp2_with fail
      exact bodyPost_ret (v := .tuple #[.agg #[.int .i64 s, .slice (some ⟨gb, 0, none⟩) (l.length + 1) c2], .int .i64 0]) (by simp [results, Tryd.results13, go_sem, RS.c 0 rfl, RS.c 1 rfl]) rfl (ring_full HE HKS gs)
    · have HE : addR s l x = (0, [], chkR s (l ++ [x])) := by simp [addR, he, he2]
      have hz : (chkR s (l ++ [x]) != 0) = true := by simpa using he2
      clear he he2
      generalize chkR s (l ++ [x]) = E at *
      have k0 : w7.cell? ⟨R, 0, none⟩ = some (.int .i64 0) := HR.c 0 rfl
      have k1 : w7.cell? ⟨R, 1, none⟩ = some (.slice none 0 0) := HR.c 1 rfl
      have f0 := HR.fz 0
      have f1 := HR.fz 1
      have hsz := HR.lt
      have RS : Row _ R 34 #[.int .i64 0, .slice none 0 0] := (HR.set 0 (.int .i64 0)).set 1 (.slice none 0 0)
      have gs := grown_set (i := 1) (v := .slice none 0 0) (grown_set (i := 0) (v := .int .i64 0) gg6 (.inl hwR)) (.inl hwR)
      go_wp2_with fail
      exact bodyPost_ret (v := .tuple #[.agg #[.int .i64 0, .slice none 0 0], .int .i64 E]) (by simp [results, Tryd.results13, go_sem, RS.c 0 rfl, RS.c 1 rfl]) rfl (ring_zero HE gs)
  · have HE : addR s l x = (0, [], chkR s l) := by simp [addR, he]
    have hz : (chkR s l != 0) = true := by simpa using he
    clear he
    generalize chkR s l = E at *
    have k0 : w4.cell? ⟨R, 0, none⟩ = some (.int .i64 0) := HR.c 0 rfl
    have k1 : w4.cell? ⟨R, 1, none⟩ = some (.slice none 0 0) := HR.c 1 rfl
    have f0 := HR.fz 0
    have f1 := HR.fz 1
    have hsz := HR.lt
    have RS : Row _ R 34 #[.int .i64 0, .slice none 0 0] := (HR.set 0 (.int .i64 0)).set 1 (.slice none 0 0)
    have gs := grown_set (i := 1) (v := .slice none 0 0) (grown_set (i := 0) (v := .int .i64 0) gg (.inl hwR)) (.inl hwR)
    go_wp2_with fail
    exact bodyPost_ret (v := .tuple #[.agg #[.int .i64 0, .slice none 0 0], .int .i64 E]) (by simp [results, Tryd.results13, go_sem, RS.c 0 rfl, RS.c 1 rfl]) rfl (ring_zero HE gs)
end Go.Proofs.YtecobgjkodmaiaaDoor
