/-
  The laws' changed, by its contract.
-/
import Derived.Test.YtljjmoeplfcblaaAppS
import Derived.Test.YtljjmoeplfcblaaRef
import Derived.Test.YtljjmoeplfcblaaVerify
import Derived.Test.YtljjmoeplfcblaaRDig
import Derived.StillTailTactics
namespace Go.Proofs.Ytljjmoeplfcblaa
open Go.RowKit Go.Shelf
attribute [local go_sem] get_mk extract_mk
theorem Row.set {w : World} {base g n c : Nat} {l : List Str} (h : Row w base g n c l) (j : Nat) (s : Str) : Row (w.setCell ⟨g, j, none⟩ (.string ⟨s.toArray⟩)) base g n c (l.set j s) := by
  obtain ⟨e, hx, h2⟩ := h
  refine ⟨by simpa using e, by simpa using hx, ?_⟩
  rcases h2 with ⟨e, _⟩ | ⟨g', cap, cur, ev, hb, hg, h1, h2, h3, h4⟩
  · cases e
  · injection ev with e1 _ e3
    injection e1 with e1
    injection e1 with e1
    subst e1 e3
    refine .inr ⟨g, c, cur.setIfInBounds j (.string ⟨s.toArray⟩), rfl, hb, ?_, h1, h2, by simpa using h3, ?_⟩
    · simp [World.setCell, Array.getElem?_modify, hg]
    · rw [List.map_set, ← h4, Array.toList_setIfInBounds, List.take_set]
theorem Row.cell {w : World} {base g n c : Nat} {l : List Str} (h : Row w base g n c l) (j : Nat) (s : Str) (hj : l[j]? = some s) : w.cell? ⟨g, j, none⟩ = some (.string ⟨s.toArray⟩) := by
  have := h.2.cells (g := g) rfl j (.string ⟨s.toArray⟩) (by rw [List.getElem?_map, hj]; rfl)
  rwa [show (⟨g, 0, none⟩ : Addr).add j = ⟨g, j, none⟩ by unfold Addr.add; split <;> simp_all] at this
theorem Row.fz {w : World} {base g n c : Nat} {l : List Str} (h : Row w base g n c l) (j : Nat) : w.frozen? ⟨g, j, none⟩ = false := by
  rcases h.2.2 with ⟨e, _⟩ | ⟨g', cap, cur, ev, hb, hg, h1, h2, h3, h4⟩
  · cases e
  · injection ev with e1 _ e3
    injection e1 with e1
    injection e1 with e1
    subst e1
    simp [World.frozen?, hg]
/-- a claim at block b -/
def Cl (w : World) (b : Nat) (n i : Int) (s p : Value) (f t : Str) : Prop := w.heap[b]? = some (.cells #[.int .i64 n, .int .i64 i, s, p, .string ⟨f.toArray⟩, .string ⟨t.toArray⟩] 46 (0, 0))
theorem Cl.c0 {w : World} {b : Nat} {n i : Int} {s p : Value} {f t : Str} (h : Cl w b n i s p f t) : w.cell? ⟨b, 0, none⟩ = some (.int .i64 n) := by unfold Cl at h; simp [World.cell?, h]
theorem Cl.c1 {w : World} {b : Nat} {n i : Int} {s p : Value} {f t : Str} (h : Cl w b n i s p f t) : w.cell? ⟨b, 1, none⟩ = some (.int .i64 i) := by unfold Cl at h; simp [World.cell?, h]
theorem Cl.c2 {w : World} {b : Nat} {n i : Int} {s p : Value} {f t : Str} (h : Cl w b n i s p f t) : w.cell? ⟨b, 2, none⟩ = some s := by unfold Cl at h; simp [World.cell?, h]
theorem Cl.c3 {w : World} {b : Nat} {n i : Int} {s p : Value} {f t : Str} (h : Cl w b n i s p f t) : w.cell? ⟨b, 3, none⟩ = some p := by unfold Cl at h; simp [World.cell?, h]
theorem Cl.c4 {w : World} {b : Nat} {n i : Int} {s p : Value} {f t : Str} (h : Cl w b n i s p f t) : w.cell? ⟨b, 4, none⟩ = some (.string ⟨f.toArray⟩) := by unfold Cl at h; simp [World.cell?, h]
theorem Cl.c5 {w : World} {b : Nat} {n i : Int} {s p : Value} {f t : Str} (h : Cl w b n i s p f t) : w.cell? ⟨b, 5, none⟩ = some (.string ⟨t.toArray⟩) := by unfold Cl at h; simp [World.cell?, h]
theorem Cl.fz {w : World} {b : Nat} {n i : Int} {s p : Value} {f t : Str} (h : Cl w b n i s p f t) (j : Nat) : w.frozen? ⟨b, j, none⟩ = false := by unfold Cl at h; simp [World.frozen?, h]
theorem Cl.lt {w : World} {b : Nat} {n i : Int} {s p : Value} {f t : Str} (h : Cl w b n i s p f t) : b < w.heap.size := by
  rcases Nat.lt_or_ge b w.heap.size with hlt | hge
  · exact hlt
  · unfold Cl at h; rw [Array.getElem?_eq_none hge] at h; cases h
theorem Cl.grown {w w' : World} {b : Nat} {n i : Int} {s p : Value} {f t : Str} {row : Option Nat} (h : Cl w b n i s p f t) (hg : w.grownBy w' row) (hne : some b ≠ row) : Cl w' b n i s p f t := (hg.block b h.lt hne).trans h
theorem Cl.set0 {w : World} {b : Nat} {n i : Int} {s p : Value} {f t : Str} (h : Cl w b n i s p f t) (x : Int) : Cl (w.setCell ⟨b, 0, none⟩ (.int .i64 x)) b x i s p f t := by
  unfold Cl at h ⊢
  simp [World.setCell, Array.getElem?_modify, h]
theorem Cl.set1 {w : World} {b : Nat} {n i : Int} {s p : Value} {f t : Str} (h : Cl w b n i s p f t) (x : Int) : Cl (w.setCell ⟨b, 1, none⟩ (.int .i64 x)) b n x s p f t := by
  unfold Cl at h ⊢
  simp [World.setCell, Array.getElem?_modify, h]
theorem Cl.set2 {w : World} {b : Nat} {n i : Int} {s p : Value} {f t : Str} (h : Cl w b n i s p f t) (x : Value) : Cl (w.setCell ⟨b, 2, none⟩ x) b n i x p f t := by
  unfold Cl at h ⊢
  simp [World.setCell, Array.getElem?_modify, h]
theorem Cl.set3 {w : World} {b : Nat} {n i : Int} {s p : Value} {f t : Str} (h : Cl w b n i s p f t) (x : Value) : Cl (w.setCell ⟨b, 3, none⟩ x) b n i s x f t := by
  unfold Cl at h ⊢
  simp [World.setCell, Array.getElem?_modify, h]
/-- the four numbers of a law at block b -/
def Q4 (w : World) (b : Nat) (q0 q1 q2 q3 : Int) : Prop := w.heap[b]? = some (.cells #[.int .u8 q0, .int .u8 q1, .int .u8 q2, .int .u8 q3] 44 (0, 0))
theorem Q4.c2 {w : World} {b : Nat} {q0 q1 q2 q3 : Int} (h : Q4 w b q0 q1 q2 q3) : w.cell? ⟨b, 2, none⟩ = some (.int .u8 q2) := by unfold Q4 at h; simp [World.cell?, h]
theorem Q4.c3 {w : World} {b : Nat} {q0 q1 q2 q3 : Int} (h : Q4 w b q0 q1 q2 q3) : w.cell? ⟨b, 3, none⟩ = some (.int .u8 q3) := by unfold Q4 at h; simp [World.cell?, h]
theorem Q4.lt {w : World} {b : Nat} {q0 q1 q2 q3 : Int} (h : Q4 w b q0 q1 q2 q3) : b < w.heap.size := by
  rcases Nat.lt_or_ge b w.heap.size with hlt | hge
  · exact hlt
  · unfold Q4 at h; rw [Array.getElem?_eq_none hge] at h; cases h
theorem Q4.grown {w w' : World} {b : Nat} {q0 q1 q2 q3 : Int} {row : Option Nat} (h : Q4 w b q0 q1 q2 q3) (hg : w.grownBy w' row) (hne : some b ≠ row) : Q4 w' b q0 q1 q2 q3 := (hg.block b h.lt hne).trans h
theorem grown_setC (w : World) (b i : Nat) (v : Value) : w.grownBy (w.setCell ⟨b, i, none⟩ v) (some b) :=
  ⟨rfl, rfl, rfl, by simp [World.setCell], fun k _ hne => Below.heap_setCell w _ v k (by rintro rfl; exact hne rfl)⟩
/-- some claim of the same bounds, with the same strings -/
def ChP (w : World) (f t : Str) (e : Ending) (w' : World) : Prop :=
  ∃ n' i' LA' lm' lc' LL' PA' p' pc' PL', e = .returned (.agg #[.int .i64 n', .int .i64 i', .slice LA' lm' lc', .slice PA' p' pc', .string ⟨f.toArray⟩, .string ⟨t.toArray⟩]) ∧ I64 n' ∧ I64 i' ∧ lm' ≤ 100 ∧ p' ≤ 101 ∧ (∀ s ∈ LL', s.length ≤ 101) ∧ (∀ s ∈ PL', s.length ≤ 100) ∧ Strs w' LA' lm' lc' LL' ∧ Strs w' PA' p' pc' PL' ∧ w.grownBy w' none ∧ (∀ a, LA' = some a → w.heap.size ≤ a.block) ∧ (∀ a, PA' = some a → w.heap.size ≤ a.block)
theorem ChP.drew {w w' : World} {f t : Str} {e : Ending} (h : ChP w f t e w') : ChP w f t e w'.drew := by
  obtain ⟨n', i', LA', lm', lc', LL', PA', p', pc', PL', h1, h2, h3, h4, h5, h6, h7, h8, h9, h10⟩ := h
  have g : w'.grownBy w'.drew none := grown_dr (World.grownBy.refl _ _)
  exact ⟨n', i', LA', lm', lc', LL', PA', p', pc', PL', h1, h2, h3, h4, h5, h6, h7, h8.kept g, h9.kept g, h10.1.trans g, h10.2⟩
theorem Strs.far {w w' : World} {A : Option Addr} {n c r : Nat} {l : List Str} (h : Strs w A n c l) (hA : ∀ a, A = some a → a.block ≠ r) (hg : w.grownBy w' (some r)) : Strs w' A n c l :=
  { h with
    cell := fun h0 => by
      obtain ⟨ad, e, hb, hc⟩ := h.cell h0
      have hne := hA ad e
      exact ⟨ad, e, Nat.lt_of_lt_of_le hb hg.size, fun j s hj => hg.cell (hc j s hj) (by rw [add_block]; intro e; injection e with e; exact hne e)⟩ }
theorem Cl.drew {w : World} {b : Nat} {n i : Int} {s p : Value} {f t : Str} (h : Cl w b n i s p f t) : Cl w.drew b n i s p f t := h
theorem Cl.setAll {w : World} {b : Nat} {n i : Int} {s p : Value} {f t : Str} (h : Cl w b n i s p f t) (n1 i1 : Int) (s1 p1 : Value) (f1 t1 : Str) :
    Cl ((((((w.setCell ⟨b, 0, none⟩ (.int .i64 n1)).setCell ⟨b, 1, none⟩ (.int .i64 i1)).setCell ⟨b, 2, none⟩ s1).setCell ⟨b, 3, none⟩ p1).setCell ⟨b, 4, none⟩ (.string ⟨f1.toArray⟩)).setCell ⟨b, 5, none⟩ (.string ⟨t1.toArray⟩)) b n1 i1 s1 p1 f1 t1 := by
  unfold Cl at h ⊢
  simp [World.setCell, Array.getElem?_modify, h]
theorem grown_set6 (w : World) (b : Nat) (v0 v1 v2 v3 v4 v5 : Value) :
    w.grownBy ((((((w.setCell ⟨b, 0, none⟩ v0).setCell ⟨b, 1, none⟩ v1).setCell ⟨b, 2, none⟩ v2).setCell ⟨b, 3, none⟩ v3).setCell ⟨b, 4, none⟩ v4).setCell ⟨b, 5, none⟩ v5) (some b) :=
  (((((grown_setC _ _ _ _).trans (grown_setC _ _ _ _)).trans (grown_setC _ _ _ _)).trans (grown_setC _ _ _ _)).trans (grown_setC _ _ _ _)).trans (grown_setC _ _ _ _)
theorem ret_claim {a : Act} {w : World} {r : Nat} {n i : Int} {g1 m1 c1 g2 m2 c2 : Nat} {f t : Str} {R : Ending → World → Prop} (h4 : a.tmps[4]? = some (.pointer (some ⟨r, 0, none⟩))) (hd : a.defers = []) (hc : Cl w r n i (.slice (some ⟨g1, 0, none⟩) m1 c1) (.slice (some ⟨g2, 0, none⟩) m2 c2) f t)
    (hR : R (.returned (.agg #[.int .i64 n, .int .i64 i, .slice (some ⟨g1, 0, none⟩) m1 c1, .slice (some ⟨g2, 0, none⟩) m2 c2, .string ⟨f.toArray⟩, .string ⟨t.toArray⟩])) w) : bodyPost Try.prog Try.f33 R Exit.ret a w := by
  have y0 := hc.c0
  have y1 := hc.c1
  have y2 := hc.c2
  have y3 := hc.c3
  have y4 := hc.c4
  have y5 := hc.c5
  refine bodyPost_ret (v := .agg #[.int .i64 n, .int .i64 i, .slice (some ⟨g1, 0, none⟩) m1 c1, .slice (some ⟨g2, 0, none⟩) m2 c2, .string ⟨f.toArray⟩, .string ⟨t.toArray⟩]) ?_ hd hR
  simp [results, Try.results33, go_sem, h4, y0, y1, y2, y3, y4, y5]
/-- what changed says of the claim that it returns -/
theorem fin_claim {w wz : World} {r : Nat} {n1 i1 : Int} {g1 m1 c1 g2 m2 c2 B1 B2 : Nat} {L1 L2 : List Str} {f t : Str} (h1 : Row wz B1 g1 m1 c1 L1) (h2 : Row wz B2 g2 m2 c2 L2) (n1r : g1 ≠ r) (n2r : g2 ≠ r) (k1r : w.heap.size ≤ g1) (k2r : w.heap.size ≤ g2) (hr : w.heap.size ≤ r) (hg : w.grownBy wz none)
    (hn : I64 n1) (hi : I64 i1) (hm1 : m1 ≤ 100) (hm2 : m2 ≤ 101) (hl1 : ∀ s ∈ L1, s.length ≤ 101) (hl2 : ∀ s ∈ L2, s.length ≤ 100) (v0 v1 v2 v3 v4 v5 : Value) :
    ChP w f t (.returned (.agg #[.int .i64 n1, .int .i64 i1, .slice (some ⟨g1, 0, none⟩) m1 c1, .slice (some ⟨g2, 0, none⟩) m2 c2, .string ⟨f.toArray⟩, .string ⟨t.toArray⟩])) ((((((wz.setCell ⟨r, 0, none⟩ v0).setCell ⟨r, 1, none⟩ v1).setCell ⟨r, 2, none⟩ v2).setCell ⟨r, 3, none⟩ v3).setCell ⟨r, 4, none⟩ v4).setCell ⟨r, 5, none⟩ v5) :=
  ⟨n1, i1, _, m1, c1, L1, _, m2, c2, L2, rfl, hn, hi, hm1, hm2, hl1, hl2, (h1.kept (grown_set6 ..) (by simpa using n1r)).strs (fun s hs => Nat.le_trans (hl1 s hs) (by decide)), (h2.kept (grown_set6 ..) (by simpa using n2r)).strs (fun s hs => Nat.le_trans (hl2 s hs) (by decide)),
    hg.andThen (grown_set6 ..) (fun j e => by injection e with e; exact .inl (Nat.le_trans hr (Nat.le_of_eq e))), fun a e => by injection e with e; rw [← e]; exact k1r, fun a e => by injection e with e; rw [← e]; exact k2r⟩
set_option maxRecDepth 100000 in
set_option maxHeartbeats 4000000 in
/-- the laws' changed: some claim of the same bounds -/
theorem changed_k (n i : Int) (hn : I64 n) (hi : I64 i) (LA : Option Addr) (lm lc : Nat) (LL : List Str) (PA : Option Addr) (p pc : Nat) (PL : List Str) (f t : Str) (q0 q1 : Int) (q2 q3 : Nat) (hq2 : q2 ≤ 255) (hq3 : q3 ≤ 255)
    (hlm : lm ≤ 100) (hp : p ≤ 100) (hLs : ∀ s ∈ LL, s.length ≤ 100) (hPs : ∀ s ∈ PL, s.length ≤ 100) (hLA : LA = none → lc = 0) (hPA : PA = none → pc = 0) (w : World) (hL : Strs w LA lm lc LL) (hP : Strs w PA p pc PL) :
    Calls Try.prog 33 #[.agg #[.int .i64 n, .int .i64 i, .slice LA lm lc, .slice PA p pc, .string ⟨f.toArray⟩, .string ⟨t.toArray⟩], .agg #[.int .u8 q0, .int .u8 q1, .int .u8 q2, .int .u8 q3]] w (ChP w f t) := by
  have HL := Lib.hid (fun w' (g : w.grownBy w' none) => hL.kept g)
  have HP := Lib.hid (fun w' (g : w.grownBy w' none) => hP.kept g)
  have HLs := Lib.hid hLs
  have HPs := Lib.hid hPs
  have Hn := Lib.hid hn
  have Hi := Lib.hid hi
  have hlc := hL.le
  have hlc2 := hL.cap
  have hpc := hP.le
  have hpc2 := hP.cap
  have HLA := Lib.hid hLA
  have HPA := Lib.hid hPA
  clear hL hP hLs hPs hLA hPA hn hi
  go_enter Try.func33, Try.ntmps33
  go_upto_region 2 with fail
  have hC : Cl (((w.alloc (Obj.cells #[Value.int IntKind.i64 n, Value.int IntKind.i64 i, Value.slice LA lm lc, Value.slice PA p pc, Value.string ⟨f.toArray⟩, Value.string ⟨t.toArray⟩] 46)).alloc (Obj.cells #[Value.int IntKind.u8 q0, Value.int IntKind.u8 q1, Value.int IntKind.u8 q2, Value.int IntKind.u8 q3] 44)).alloc (Obj.cells #[Value.int IntKind.i64 0, Value.int IntKind.i64 0, Value.slice none 0 0, Value.slice none 0 0, Value.string ⟨#[]⟩, Value.string ⟨#[]⟩] 46)) w.heap.size n i (.slice LA lm lc) (.slice PA p pc) f t := by
    refine ((World.grownBy_alloc _ _ none).block _ (by rw [World.size_alloc, World.size_alloc]; omega) (by simp)).trans (((World.grownBy_alloc _ _ none).block _ (by simp) (by simp)).trans (World.alloc_heap_new w _))
  have hQ : Q4 (((w.alloc (Obj.cells #[Value.int IntKind.i64 n, Value.int IntKind.i64 i, Value.slice LA lm lc, Value.slice PA p pc, Value.string ⟨f.toArray⟩, Value.string ⟨t.toArray⟩] 46)).alloc (Obj.cells #[Value.int IntKind.u8 q0, Value.int IntKind.u8 q1, Value.int IntKind.u8 q2, Value.int IntKind.u8 q3] 44)).alloc (Obj.cells #[Value.int IntKind.i64 0, Value.int IntKind.i64 0, Value.slice none 0 0, Value.slice none 0 0, Value.string ⟨#[]⟩, Value.string ⟨#[]⟩] 46)) (w.heap.size + 1) q0 q1 q2 q3 := by
    refine ((World.grownBy_alloc _ _ none).block _ (by simp) (by simp)).trans ?_
    have := World.alloc_heap_new (w.alloc (Obj.cells #[Value.int IntKind.i64 n, Value.int IntKind.i64 i, Value.slice LA lm lc, Value.slice PA p pc, Value.string ⟨f.toArray⟩, Value.string ⟨t.toArray⟩] 46)) (Obj.cells #[Value.int IntKind.u8 q0, Value.int IntKind.u8 q1, Value.int IntKind.u8 q2, Value.int IntKind.u8 q3] 44)
    rw [World.size_alloc] at this
    exact this
  have hR : Cl (((w.alloc (Obj.cells #[Value.int IntKind.i64 n, Value.int IntKind.i64 i, Value.slice LA lm lc, Value.slice PA p pc, Value.string ⟨f.toArray⟩, Value.string ⟨t.toArray⟩] 46)).alloc (Obj.cells #[Value.int IntKind.u8 q0, Value.int IntKind.u8 q1, Value.int IntKind.u8 q2, Value.int IntKind.u8 q3] 44)).alloc (Obj.cells #[Value.int IntKind.i64 0, Value.int IntKind.i64 0, Value.slice none 0 0, Value.slice none 0 0, Value.string ⟨#[]⟩, Value.string ⟨#[]⟩] 46)) (w.heap.size + 1 + 1) 0 0 (.slice none 0 0) (.slice none 0 0) [] [] := by
    have := World.alloc_heap_new ((w.alloc (Obj.cells #[Value.int IntKind.i64 n, Value.int IntKind.i64 i, Value.slice LA lm lc, Value.slice PA p pc, Value.string ⟨f.toArray⟩, Value.string ⟨t.toArray⟩] 46)).alloc (Obj.cells #[Value.int IntKind.u8 q0, Value.int IntKind.u8 q1, Value.int IntKind.u8 q2, Value.int IntKind.u8 q3] 44)) (Obj.cells #[Value.int IntKind.i64 0, Value.int IntKind.i64 0, Value.slice none 0 0, Value.slice none 0 0, Value.string ⟨#[]⟩, Value.string ⟨#[]⟩] 46)
    rw [World.size_alloc, World.size_alloc] at this
    exact this
  have g3 : w.grownBy (((w.alloc (Obj.cells #[Value.int IntKind.i64 n, Value.int IntKind.i64 i, Value.slice LA lm lc, Value.slice PA p pc, Value.string ⟨f.toArray⟩, Value.string ⟨t.toArray⟩] 46)).alloc (Obj.cells #[Value.int IntKind.u8 q0, Value.int IntKind.u8 q1, Value.int IntKind.u8 q2, Value.int IntKind.u8 q3] 44)).alloc (Obj.cells #[Value.int IntKind.i64 0, Value.int IntKind.i64 0, Value.slice none 0 0, Value.slice none 0 0, Value.string ⟨#[]⟩, Value.string ⟨#[]⟩] 46)) none := ((World.grownBy_alloc _ _ none).trans (World.grownBy_alloc _ _ none)).trans (World.grownBy_alloc _ _ none)
  have hsz : (((w.alloc (Obj.cells #[Value.int IntKind.i64 n, Value.int IntKind.i64 i, Value.slice LA lm lc, Value.slice PA p pc, Value.string ⟨f.toArray⟩, Value.string ⟨t.toArray⟩] 46)).alloc (Obj.cells #[Value.int IntKind.u8 q0, Value.int IntKind.u8 q1, Value.int IntKind.u8 q2, Value.int IntKind.u8 q3] 44)).alloc (Obj.cells #[Value.int IntKind.i64 0, Value.int IntKind.i64 0, Value.slice none 0 0, Value.slice none 0 0, Value.string ⟨#[]⟩, Value.string ⟨#[]⟩] 46)).heap.size = w.heap.size + 3 := by simp
  generalize (((w.alloc (Obj.cells #[Value.int IntKind.i64 n, Value.int IntKind.i64 i, Value.slice LA lm lc, Value.slice PA p pc, Value.string ⟨f.toArray⟩, Value.string ⟨t.toArray⟩] 46)).alloc (Obj.cells #[Value.int IntKind.u8 q0, Value.int IntKind.u8 q1, Value.int IntKind.u8 q2, Value.int IntKind.u8 q3] 44)).alloc (Obj.cells #[Value.int IntKind.i64 0, Value.int IntKind.i64 0, Value.slice none 0 0, Value.slice none 0 0, Value.string ⟨#[]⟩, Value.string ⟨#[]⟩] 46)) = w3 at *
  obtain ⟨b, hb⟩ : ∃ b, w.heap.size = b := ⟨_, rfl⟩
  rw [hb] at hC hQ hR hsz ⊢
  have d2 := hC.c2
  have hbl : b < w3.heap.size := by omega
  have HC := Lib.hid hC
  have HQ := Lib.hid hQ
  have HR := Lib.hid hR
  have G3 := Lib.hid g3
  have Hb := Lib.hid hb
  clear hC hQ hR g3 hb
  go_upto_region 3 with (at_builtin; refine wpList_append_fresh rfl _ _ rfl (b + 3) rfl LA lm lc LL rfl w3 rfl hsz.symm (HL.out w3 G3.out) HLA.out (by omega) ?_; intro k1 c1 w4 hrow1 hgrow1; have e2 := (HC.out.grown hgrow1 (by simp)).c2; have f2 := (HC.out.grown hgrow1 (by simp)).fz 2)
  have H1 : Hid (Row (w4.setCell ⟨b, 2, none⟩ (.slice (some ⟨k1, 0, none⟩) lm c1)) (b + 3) k1 lm c1 LL) := Lib.hid (hrow1.kept (grown_setC _ _ _ _) (by have := hrow1.lt; simp; omega))
  have C5 : Hid (Cl (w4.setCell ⟨b, 2, none⟩ (.slice (some ⟨k1, 0, none⟩) lm c1)) b n i (.slice (some ⟨k1, 0, none⟩) lm c1) (.slice PA p pc) f t) := Lib.hid ((HC.out.grown hgrow1 (by simp)).set2 _)
  have Q5 : Hid (Q4 (w4.setCell ⟨b, 2, none⟩ (.slice (some ⟨k1, 0, none⟩) lm c1)) (b + 1) q0 q1 q2 q3) := Lib.hid ((HQ.out.grown hgrow1 (by simp)).grown (grown_setC _ _ _ _) (by simp))
  have R5 : Hid (Cl (w4.setCell ⟨b, 2, none⟩ (.slice (some ⟨k1, 0, none⟩) lm c1)) (b + 1 + 1) 0 0 (.slice none 0 0) (.slice none 0 0) [] []) := Lib.hid ((HR.out.grown hgrow1 (by simp)).grown (grown_setC _ _ _ _) (by simp; omega))
  have G5 : Hid (w.grownBy (w4.setCell ⟨b, 2, none⟩ (.slice (some ⟨k1, 0, none⟩) lm c1)) none) := Lib.hid ((G3.out.trans hgrow1).andThen (grown_setC _ _ _ _) (fun r e => by injection e with e; exact .inl (Nat.le_of_eq (Hb.out.trans e))))
  clear hrow1 hgrow1 e2 f2 HC HQ HR G3 d2 hbl hsz
  generalize w4.setCell ⟨b, 2, none⟩ (.slice (some ⟨k1, 0, none⟩) lm c1) = w5 at *
  have d3 := C5.out.c3
  have hbl : b < w5.heap.size := C5.out.lt
  have hk1 := H1.out.lt
  obtain ⟨B5, hsz⟩ : ∃ B5, w5.heap.size = B5 := ⟨_, rfl⟩
  rw [hsz] at hk1 hbl
  go_upto_region 4 with (at_builtin; refine wpList_append_fresh rfl _ _ rfl B5 rfl PA p pc PL rfl w5 rfl hsz.symm (HP.out w5 G5.out) HPA.out (by omega) ?_; intro k2 c2 w6 hrow2 hgrow2; have e2 := (C5.out.grown hgrow2 (by simp)).c3; have f2 := (C5.out.grown hgrow2 (by simp)).fz 3)
  have H1 : Hid (Row (w6.setCell ⟨b, 3, none⟩ (.slice (some ⟨k2, 0, none⟩) p c2)) (b + 3) k1 lm c1 LL) := Lib.hid ((H1.out.kept hgrow2 (by simp)).kept (grown_setC _ _ _ _) (by simp; omega))
  have H2 : Hid (Row (w6.setCell ⟨b, 3, none⟩ (.slice (some ⟨k2, 0, none⟩) p c2)) B5 k2 p c2 PL) := Lib.hid (hrow2.kept (grown_setC _ _ _ _) (by have := hrow2.lt; simp; omega))
  have C5 : Hid (Cl (w6.setCell ⟨b, 3, none⟩ (.slice (some ⟨k2, 0, none⟩) p c2)) b n i (.slice (some ⟨k1, 0, none⟩) lm c1) (.slice (some ⟨k2, 0, none⟩) p c2) f t) := Lib.hid ((C5.out.grown hgrow2 (by simp)).set3 _)
  have Q5 : Hid (Q4 (w6.setCell ⟨b, 3, none⟩ (.slice (some ⟨k2, 0, none⟩) p c2)) (b + 1) q0 q1 q2 q3) := Lib.hid ((Q5.out.grown hgrow2 (by simp)).grown (grown_setC _ _ _ _) (by simp))
  have R5 : Hid (Cl (w6.setCell ⟨b, 3, none⟩ (.slice (some ⟨k2, 0, none⟩) p c2)) (b + 1 + 1) 0 0 (.slice none 0 0) (.slice none 0 0) [] []) := Lib.hid ((R5.out.grown hgrow2 (by simp)).grown (grown_setC _ _ _ _) (by simp; omega))
  have G5 : Hid (w.grownBy (w6.setCell ⟨b, 3, none⟩ (.slice (some ⟨k2, 0, none⟩) p c2)) none) := Lib.hid ((G5.out.trans hgrow2).andThen (grown_setC _ _ _ _) (fun r e => by injection e with e; exact .inl (Nat.le_of_eq (Hb.out.trans e))))
  clear hrow2 hgrow2 e2 f2 d3 hsz HL HP hbl
  have hk2 := H2.out.lt
  have hb1 := C5.out.lt
  generalize w6.setCell ⟨b, 3, none⟩ (.slice (some ⟨k2, 0, none⟩) p c2) = wc at *
  have d2 := Q5.out.c2
  go_upto_region 6 with fail
  generalize hz : (q2 : Int) % 6 = z at *
  clear hz
  by_cases h0 : z = 0
  · have e0 : (z == 0) = true := by simp [h0]
    have f0 := C5.out.fz 0
    have d0 := C5.out.c0
    clear h0
    go_upto_region 19 with fail
    have CC : Hid (Cl (wc.setCell ⟨b, 0, none⟩ (.int .i64 ((q3 : Int) % 24))) b ((q3 : Int) % 24) i (.slice (some ⟨k1, 0, none⟩) lm c1) (.slice (some ⟨k2, 0, none⟩) p c2) f t) := Lib.hid (C5.out.set0 _)
    have RR : Hid (Cl (wc.setCell ⟨b, 0, none⟩ (.int .i64 ((q3 : Int) % 24))) (b + 1 + 1) 0 0 (.slice none 0 0) (.slice none 0 0) [] []) := Lib.hid (R5.out.grown (grown_setC _ _ _ _) (by simp; omega))
    have GG : Hid (w.grownBy (wc.setCell ⟨b, 0, none⟩ (.int .i64 ((q3 : Int) % 24))) none) := Lib.hid (G5.out.andThen (grown_setC _ _ _ _) (fun r e => by injection e with e; exact .inl (Nat.le_of_eq (Hb.out.trans e))))
    have SL : Hid (Row (wc.setCell ⟨b, 0, none⟩ (.int .i64 ((q3 : Int) % 24))) (b + 3) k1 lm c1 LL) := Lib.hid (H1.out.kept (grown_setC _ _ _ _) (by simp; omega))
    have SP : Hid (Row (wc.setCell ⟨b, 0, none⟩ (.int .i64 ((q3 : Int) % 24))) B5 k2 p c2 PL) := Lib.hid (H2.out.kept (grown_setC _ _ _ _) (by simp; omega))
    have NE1 : Hid (k1 ≠ b + 1 + 1) := Lib.hid (by omega)
    have NE2 : Hid (k2 ≠ b + 1 + 1) := Lib.hid (by omega)
    have GE1 : Hid (w.heap.size ≤ k1) := Lib.hid (by have := Hb.out; omega)
    have GE2 : Hid (w.heap.size ≤ k2) := Lib.hid (by have := Hb.out; omega)
    have HI1 : Hid (I64 ((q3 : Int) % 24)) := Lib.hid (by constructor <;> omega)
    have HI2 : Hid (I64 i) := Lib.hid (Hi.out)
    have HL1 : Hid (∀ s ∈ LL, s.length ≤ 101) := Lib.hid (fun s hs => Nat.le_trans (HLs.out s hs) (by decide))
    have HL2 : Hid (∀ s ∈ PL, s.length ≤ 100) := Lib.hid (HPs.out)
    have HM1 : Hid (lm ≤ 100) := Lib.hid (by omega)
    have HM2 : Hid (p ≤ 101) := Lib.hid (by omega)
    clear C5 Q5 R5 G5 H1 H2 d2 hk2 hb1
    generalize (wc.setCell ⟨b, 0, none⟩ (.int .i64 ((q3 : Int) % 24))) = wz at *
    have y0 := CC.out.c0
    have y1 := CC.out.c1
    have y2 := CC.out.c2
    have y3 := CC.out.c3
    have y4 := CC.out.c4
    have y5 := CC.out.c5
    have z0 := RR.out.c0
    have z1 := RR.out.c1
    have z2 := RR.out.c2
    have z3 := RR.out.c3
    have z4 := RR.out.c4
    have z5 := RR.out.c5
    have x0 := RR.out.fz 0
    have x1 := RR.out.fz 1
    have x2 := RR.out.fz 2
    have x3 := RR.out.fz 3
    have x4 := RR.out.fz 4
    have x5 := RR.out.fz 5
    clear CC
    go_wp2_with fail
    have FIN := fin_claim (f := f) (t := t) SL.out SP.out NE1.out NE2.out GE1.out GE2.out (show w.heap.size ≤ b + 1 + 1 by have := Hb.out; omega) GG.out HI1.out HI2.out HM1.out HM2.out HL1.out HL2.out (.int .i64 ((q3 : Int) % 24)) (.int .i64 i) (.slice (some ⟨k1, 0, none⟩) lm c1) (.slice (some ⟨k2, 0, none⟩) p c2) (.string ⟨f.toArray⟩) (.string ⟨t.toArray⟩)
    have EQ := RR.out.setAll ((q3 : Int) % 24) i (.slice (some ⟨k1, 0, none⟩) lm c1) (.slice (some ⟨k2, 0, none⟩) p c2) f t
    clear z0 z1 z2 z3 z4 z5 y0 y1 y2 y3 y4 y5 x0 x1 x2 x3 x4 x5
    generalize ((((((wz.setCell ⟨b + 1 + 1, 0, none⟩ (.int .i64 ((q3 : Int) % 24))).setCell ⟨b + 1 + 1, 1, none⟩ (.int .i64 i)).setCell ⟨b + 1 + 1, 2, none⟩ (.slice (some ⟨k1, 0, none⟩) lm c1)).setCell ⟨b + 1 + 1, 3, none⟩ (.slice (some ⟨k2, 0, none⟩) p c2)).setCell ⟨b + 1 + 1, 4, none⟩ (.string ⟨f.toArray⟩)).setCell ⟨b + 1 + 1, 5, none⟩ (.string ⟨t.toArray⟩)) = wy at *
    first | exact ret_claim rfl rfl EQ FIN | exact ret_claim rfl rfl EQ.drew FIN.drew | trace_state

  · have e0 : (z == 0) = false := by simpa using h0
    clear h0
    by_cases h1 : z = 1
    · have e0 : (z == 1) = true := by simp [h1]
      have f0 := C5.out.fz 1
      have d0 := C5.out.c1
      clear h1
      go_upto_region 19 with fail
      have CC : Hid (Cl (wc.setCell ⟨b, 1, none⟩ (.int .i64 ((q3 : Int) % 24))) b n ((q3 : Int) % 24) (.slice (some ⟨k1, 0, none⟩) lm c1) (.slice (some ⟨k2, 0, none⟩) p c2) f t) := Lib.hid (C5.out.set1 _)
      have RR : Hid (Cl (wc.setCell ⟨b, 1, none⟩ (.int .i64 ((q3 : Int) % 24))) (b + 1 + 1) 0 0 (.slice none 0 0) (.slice none 0 0) [] []) := Lib.hid (R5.out.grown (grown_setC _ _ _ _) (by simp; omega))
      have GG : Hid (w.grownBy (wc.setCell ⟨b, 1, none⟩ (.int .i64 ((q3 : Int) % 24))) none) := Lib.hid (G5.out.andThen (grown_setC _ _ _ _) (fun r e => by injection e with e; exact .inl (Nat.le_of_eq (Hb.out.trans e))))
      have SL : Hid (Row (wc.setCell ⟨b, 1, none⟩ (.int .i64 ((q3 : Int) % 24))) (b + 3) k1 lm c1 LL) := Lib.hid (H1.out.kept (grown_setC _ _ _ _) (by simp; omega))
      have SP : Hid (Row (wc.setCell ⟨b, 1, none⟩ (.int .i64 ((q3 : Int) % 24))) B5 k2 p c2 PL) := Lib.hid (H2.out.kept (grown_setC _ _ _ _) (by simp; omega))
      have NE1 : Hid (k1 ≠ b + 1 + 1) := Lib.hid (by omega)
      have NE2 : Hid (k2 ≠ b + 1 + 1) := Lib.hid (by omega)
      have GE1 : Hid (w.heap.size ≤ k1) := Lib.hid (by have := Hb.out; omega)
      have GE2 : Hid (w.heap.size ≤ k2) := Lib.hid (by have := Hb.out; omega)
      have HI1 : Hid (I64 n) := Lib.hid (Hn.out)
      have HI2 : Hid (I64 ((q3 : Int) % 24)) := Lib.hid (by constructor <;> omega)
      have HL1 : Hid (∀ s ∈ LL, s.length ≤ 101) := Lib.hid (fun s hs => Nat.le_trans (HLs.out s hs) (by decide))
      have HL2 : Hid (∀ s ∈ PL, s.length ≤ 100) := Lib.hid (HPs.out)
      have HM1 : Hid (lm ≤ 100) := Lib.hid (by omega)
      have HM2 : Hid (p ≤ 101) := Lib.hid (by omega)
      clear C5 Q5 R5 G5 H1 H2 d2 hk2 hb1
      generalize (wc.setCell ⟨b, 1, none⟩ (.int .i64 ((q3 : Int) % 24))) = wz at *
      have y0 := CC.out.c0
      have y1 := CC.out.c1
      have y2 := CC.out.c2
      have y3 := CC.out.c3
      have y4 := CC.out.c4
      have y5 := CC.out.c5
      have z0 := RR.out.c0
      have z1 := RR.out.c1
      have z2 := RR.out.c2
      have z3 := RR.out.c3
      have z4 := RR.out.c4
      have z5 := RR.out.c5
      have x0 := RR.out.fz 0
      have x1 := RR.out.fz 1
      have x2 := RR.out.fz 2
      have x3 := RR.out.fz 3
      have x4 := RR.out.fz 4
      have x5 := RR.out.fz 5
      clear CC
      go_wp2_with fail
      have FIN := fin_claim (f := f) (t := t) SL.out SP.out NE1.out NE2.out GE1.out GE2.out (show w.heap.size ≤ b + 1 + 1 by have := Hb.out; omega) GG.out HI1.out HI2.out HM1.out HM2.out HL1.out HL2.out (.int .i64 n) (.int .i64 ((q3 : Int) % 24)) (.slice (some ⟨k1, 0, none⟩) lm c1) (.slice (some ⟨k2, 0, none⟩) p c2) (.string ⟨f.toArray⟩) (.string ⟨t.toArray⟩)
      have EQ := RR.out.setAll n ((q3 : Int) % 24) (.slice (some ⟨k1, 0, none⟩) lm c1) (.slice (some ⟨k2, 0, none⟩) p c2) f t
      clear z0 z1 z2 z3 z4 z5 y0 y1 y2 y3 y4 y5 x0 x1 x2 x3 x4 x5
      generalize ((((((wz.setCell ⟨b + 1 + 1, 0, none⟩ (.int .i64 n)).setCell ⟨b + 1 + 1, 1, none⟩ (.int .i64 ((q3 : Int) % 24))).setCell ⟨b + 1 + 1, 2, none⟩ (.slice (some ⟨k1, 0, none⟩) lm c1)).setCell ⟨b + 1 + 1, 3, none⟩ (.slice (some ⟨k2, 0, none⟩) p c2)).setCell ⟨b + 1 + 1, 4, none⟩ (.string ⟨f.toArray⟩)).setCell ⟨b + 1 + 1, 5, none⟩ (.string ⟨t.toArray⟩)) = wy at *
      first | exact ret_claim rfl rfl EQ FIN | exact ret_claim rfl rfl EQ.drew FIN.drew | trace_state

    · have e1 : (z == 1) = false := by simpa using h1
      clear h1
      by_cases h2 : z = 2
      · have e2 : (z == 2) = true := by simp [h2]
        have d0 := C5.out.c2
        have d1 := C5.out.c2
        clear h2
        by_cases hm0 : lm = 0
        · have m1 : decide (0 < lm) = false := by simp [hm0]
          clear hm0
          go_upto_region 19 with fail
          have CC : Hid (Cl wc b n i (.slice (some ⟨k1, 0, none⟩) lm c1) (.slice (some ⟨k2, 0, none⟩) p c2) f t) := Lib.hid (C5.out)
          have RR : Hid (Cl wc (b + 1 + 1) 0 0 (.slice none 0 0) (.slice none 0 0) [] []) := Lib.hid (R5.out)
          have GG : Hid (w.grownBy wc none) := Lib.hid (G5.out)
          have SL : Hid (Row wc (b + 3) k1 lm c1 LL) := Lib.hid (H1.out)
          have SP : Hid (Row wc B5 k2 p c2 PL) := Lib.hid (H2.out)
          have NE1 : Hid (k1 ≠ b + 1 + 1) := Lib.hid (by omega)
          have NE2 : Hid (k2 ≠ b + 1 + 1) := Lib.hid (by omega)
          have GE1 : Hid (w.heap.size ≤ k1) := Lib.hid (by have := Hb.out; omega)
          have GE2 : Hid (w.heap.size ≤ k2) := Lib.hid (by have := Hb.out; omega)
          have HI1 : Hid (I64 n) := Lib.hid (Hn.out)
          have HI2 : Hid (I64 i) := Lib.hid (Hi.out)
          have HL1 : Hid (∀ s ∈ LL, s.length ≤ 101) := Lib.hid (fun s hs => Nat.le_trans (HLs.out s hs) (by decide))
          have HL2 : Hid (∀ s ∈ PL, s.length ≤ 100) := Lib.hid (HPs.out)
          have HM1 : Hid (lm ≤ 100) := Lib.hid (by omega)
          have HM2 : Hid (p ≤ 101) := Lib.hid (by omega)
          clear C5 Q5 R5 G5 H1 H2 d2 hk2 hb1
          generalize wc = wz at *
          have y0 := CC.out.c0
          have y1 := CC.out.c1
          have y2 := CC.out.c2
          have y3 := CC.out.c3
          have y4 := CC.out.c4
          have y5 := CC.out.c5
          have z0 := RR.out.c0
          have z1 := RR.out.c1
          have z2 := RR.out.c2
          have z3 := RR.out.c3
          have z4 := RR.out.c4
          have z5 := RR.out.c5
          have x0 := RR.out.fz 0
          have x1 := RR.out.fz 1
          have x2 := RR.out.fz 2
          have x3 := RR.out.fz 3
          have x4 := RR.out.fz 4
          have x5 := RR.out.fz 5
          clear CC
          go_wp2_with fail
          have FIN := fin_claim (f := f) (t := t) SL.out SP.out NE1.out NE2.out GE1.out GE2.out (show w.heap.size ≤ b + 1 + 1 by have := Hb.out; omega) GG.out HI1.out HI2.out HM1.out HM2.out HL1.out HL2.out (.int .i64 n) (.int .i64 i) (.slice (some ⟨k1, 0, none⟩) lm c1) (.slice (some ⟨k2, 0, none⟩) p c2) (.string ⟨f.toArray⟩) (.string ⟨t.toArray⟩)
          have EQ := RR.out.setAll n i (.slice (some ⟨k1, 0, none⟩) lm c1) (.slice (some ⟨k2, 0, none⟩) p c2) f t
          clear z0 z1 z2 z3 z4 z5 y0 y1 y2 y3 y4 y5 x0 x1 x2 x3 x4 x5
          generalize ((((((wz.setCell ⟨b + 1 + 1, 0, none⟩ (.int .i64 n)).setCell ⟨b + 1 + 1, 1, none⟩ (.int .i64 i)).setCell ⟨b + 1 + 1, 2, none⟩ (.slice (some ⟨k1, 0, none⟩) lm c1)).setCell ⟨b + 1 + 1, 3, none⟩ (.slice (some ⟨k2, 0, none⟩) p c2)).setCell ⟨b + 1 + 1, 4, none⟩ (.string ⟨f.toArray⟩)).setCell ⟨b + 1 + 1, 5, none⟩ (.string ⟨t.toArray⟩)) = wy at *
          first | exact ret_claim rfl rfl EQ FIN | exact ret_claim rfl rfl EQ.drew FIN.drew | trace_state

        · have m1 : 0 < lm := by omega
          have ia3 : q3 % lm < lm := Nat.mod_lt _ (by omega)
          have hT : ((q3 : Int)).tmod (lm : Int) = ((q3 % lm : Nat) : Int) := rfl
          generalize q3 % lm = j at *
          have ia0 : (0 : Int) ≤ (j : Int) := by omega
          have ia1 : (j : Int) < (lm : Int) := by omega
          obtain ⟨x, hx⟩ : ∃ x, LL[j]? = some x := ⟨_, List.getElem?_eq_getElem (by rw [← H1.out.1]; exact ia3)⟩
          have cx := H1.out.cell _ x hx
          have fx := H1.out.fz j
          have hxl : x.length ≤ 100 := HLs.out x (List.mem_of_getElem? hx)
          have NB : Hid (some b ≠ some k1) := Lib.hid (by intro e; injection e with e; omega)
          clear hx
          go_upto_region 12 with fail
          refine wp_region_noPanic ?_
          refine wp_region_held_drew (S := (fun w' => wc.grownBy w' (some k1))) (by kernel_rfl) ?_ (fun hHeld => ?_)
          · (try dsimp only); (repeat (first | assumption | exact World.grownBy.refl _ _ | refine grown_drR ?_ | refine grown_alR ?_ | refine World.grownBy.trans ?_ (grown_setC _ k1 _ _)))
          refine wpAnyH_take (i := 0) (oi := _) (v := ?_) rfl (by kernel_rfl) (by kernel_rfl) (by kernel_rfl) (fun _ _ _ h => h) (Or.inl ⟨by rfl, ?_⟩) (by assumption) ?_
          rotate_left 1
          · (intro w hSw; (try dsimp only at hSw); go_simp; first | done | with_reducible rfl)
          try go_simp
          refine wpAnyH_take (i := 1) (oi := _) (v := .slice (some ⟨k1, 0, none⟩) lm c1) rfl (by kernel_rfl) (by kernel_rfl) (by kernel_rfl) (fun _ _ _ h => h) (Or.inl ⟨by kernel_rfl, ?_⟩) (by assumption) ?_
          · (intro w hSw; (try dsimp only at hSw); go_simp; have q9 := gcellR hSw NB.out d0; clear hSw; go_simp; first | done | with_reducible rfl)
          try go_simp
          refine wpAnyH_take (i := 2) (oi := _) (v := ?_) rfl (by kernel_rfl) (by kernel_rfl) (by kernel_rfl) (fun _ _ _ h => h) (Or.inl ⟨by rfl, ?_⟩) (by assumption) ?_
          rotate_left 1
          · (intro w hSw; (try dsimp only at hSw); go_simp; first | done | with_reducible rfl)
          try go_simp
          refine wpAnyH_take (i := 3) (oi := _) (v := ?_) rfl (by kernel_rfl) (by kernel_rfl) (by kernel_rfl) (fun _ _ _ h => h) (Or.inl ⟨by rfl, ?_⟩) (by assumption) ?_
          rotate_left 1
          · (intro w hSw; (try dsimp only at hSw); go_simp; first | done | with_reducible rfl)
          try go_simp
          refine wpAnyH_take (i := 4) (oi := _) (v := .slice (some ⟨k1, 0, none⟩) lm c1) rfl (by kernel_rfl) (by kernel_rfl) (by kernel_rfl) (fun _ _ _ h => h) (Or.inl ⟨by kernel_rfl, ?_⟩) (by assumption) ?_
          · (intro w hSw; (try dsimp only at hSw); go_simp; have q9 := gcellR hSw NB.out d0; clear hSw; go_simp; first | done | with_reducible rfl)
          try go_simp
          refine wpAnyH_take (i := 5) (oi := _) (v := ?_) rfl (by kernel_rfl) (by kernel_rfl) (by kernel_rfl) (fun _ _ _ h => h) (Or.inl ⟨by rfl, ?_⟩) (by assumption) ?_
          rotate_left 1
          · (intro w hSw; (try dsimp only at hSw); go_simp; first | done | with_reducible rfl)
          try go_simp
          refine wpAnyH_take (i := 6) (oi := _) (v := .int .i64 (j : Int)) rfl (by kernel_rfl) (by kernel_rfl) (by kernel_rfl) (fun _ _ _ h => h) (Or.inl ⟨by kernel_rfl, ?_⟩) (by assumption) ?_
          · (intro w hSw; (try dsimp only at hSw); go_simp; try rw [if_neg hm0, hT])
          try go_simp
          refine wpAnyH_take (i := 7) (oi := _) (v := ?_) rfl (by kernel_rfl) (by kernel_rfl) (by kernel_rfl) (fun _ _ _ h => h) (Or.inl ⟨by rfl, ?_⟩) (by assumption) ?_
          rotate_left 1
          · (intro w hSw; (try dsimp only at hSw); go_simp; first | done | with_reducible rfl)
          try go_simp
          refine wpAnyH_ready (rs := [8]) (by kernel_rfl) (by simp) ?_
          refine AllReadyH.cons (o := _) rfl (fun K hK => ?_) AllReadyH.nil
          go_simp
          first | (refine hK.out _ _ ?_ (fun hHeld => ?_)) | (go_wp2_with fail; refine hK.out _ _ ?_ (fun hHeld => ?_))
          · (try dsimp only); (repeat (first | assumption | exact World.grownBy.refl _ _ | refine grown_drR ?_ | refine grown_alR ?_ | refine World.grownBy.trans ?_ (grown_setC _ k1 _ _)))
          clear hK K
          refine wpAnyH_take (i := 9) (oi := _) (v := .string ⟨(x ++ [120]).toArray⟩) rfl (by kernel_rfl) (by kernel_rfl) (by kernel_rfl) (fun _ _ _ h => h) (Or.inl ⟨by kernel_rfl, ?_⟩) (by assumption) ?_
          · (intro w hSw; (try dsimp only at hSw); go_simp; rw [if_neg (by omega), show (⟨x.toArray⟩ : ByteArray) ++ ⟨#[120]⟩ = ⟨(x ++ [120]).toArray⟩ from str_app x [120]])
          try go_simp
          refine wpAnyH_take (i := 10) (oi := _) (v := ?_) rfl (by kernel_rfl) (by kernel_rfl) (by kernel_rfl) (fun _ _ _ h => h) (Or.inl ⟨by rfl, ?_⟩) (by assumption) ?_
          rotate_left 1
          · (intro w hSw; (try dsimp only at hSw); go_simp; first | done | with_reducible rfl)
          try go_simp
          refine wpAnyH_ready (rs := [11]) (by kernel_rfl) (by simp) ?_
          refine AllReadyH.cons (o := _) rfl (fun K hK => ?_) AllReadyH.nil
          go_simp
          first | (refine hK.out _ _ ?_ (fun hHeld => ?_)) | (go_wp2_with fail; refine hK.out _ _ ?_ (fun hHeld => ?_))
          · (try dsimp only); (repeat (first | assumption | exact World.grownBy.refl _ _ | refine grown_drR ?_ | refine grown_alR ?_ | refine World.grownBy.trans ?_ (grown_setC _ k1 _ _)))
          clear hK K
          refine wpAnyH_done (by kernel_rfl) ?_ _
          refine NoPanic.normal ?_
          go_simp
          clear cx fx d0 d1
          go_simp
          go_upto_region 19 with fail
          have CC : Hid (Cl (wc.setCell ⟨k1, j, none⟩ (.string ⟨(x ++ [120]).toArray⟩)) b n i (.slice (some ⟨k1, 0, none⟩) lm c1) (.slice (some ⟨k2, 0, none⟩) p c2) f t) := Lib.hid ((C5.out).grown (grown_setC _ _ _ _) (by simp; omega))
          have RR : Hid (Cl (wc.setCell ⟨k1, j, none⟩ (.string ⟨(x ++ [120]).toArray⟩)) (b + 1 + 1) 0 0 (.slice none 0 0) (.slice none 0 0) [] []) := Lib.hid ((R5.out).grown (grown_setC _ _ _ _) (by simp; omega))
          have GG : Hid (w.grownBy (wc.setCell ⟨k1, j, none⟩ (.string ⟨(x ++ [120]).toArray⟩)) none) := Lib.hid (G5.out.andThen (grown_setC _ _ _ _) (fun r e => by injection e with e; have := Hb.out; exact .inl (by omega)))
          have SL : Hid (Row (wc.setCell ⟨k1, j, none⟩ (.string ⟨(x ++ [120]).toArray⟩)) (b + 3) k1 lm c1 (LL.set j (x ++ [120]))) := Lib.hid ((H1.out).set j (x ++ [120]))
          have SP : Hid (Row (wc.setCell ⟨k1, j, none⟩ (.string ⟨(x ++ [120]).toArray⟩)) B5 k2 p c2 PL) := Lib.hid ((H2.out).kept (grown_setC _ _ _ _) (by simp; omega))
          have NE1 : Hid (k1 ≠ b + 1 + 1) := Lib.hid (by omega)
          have NE2 : Hid (k2 ≠ b + 1 + 1) := Lib.hid (by omega)
          have GE1 : Hid (w.heap.size ≤ k1) := Lib.hid (by have := Hb.out; omega)
          have GE2 : Hid (w.heap.size ≤ k2) := Lib.hid (by have := Hb.out; omega)
          have HI1 : Hid (I64 n) := Lib.hid (Hn.out)
          have HI2 : Hid (I64 i) := Lib.hid (Hi.out)
          have HL1 : Hid (∀ s ∈ (LL.set j (x ++ [120])), s.length ≤ 101) := Lib.hid (fun s hs => by
            rcases List.mem_or_eq_of_mem_set hs with h | rfl
            · exact Nat.le_trans (HLs.out s h) (by decide)
            · simp; omega)
          have HL2 : Hid (∀ s ∈ PL, s.length ≤ 100) := Lib.hid (HPs.out)
          have HM1 : Hid (lm ≤ 100) := Lib.hid (by omega)
          have HM2 : Hid (p ≤ 101) := Lib.hid (by omega)
          clear C5 Q5 R5 G5 H1 H2 d2 hk2 hb1
          generalize (wc.setCell ⟨k1, j, none⟩ (.string ⟨(x ++ [120]).toArray⟩)) = wz at *
          have y0 := CC.out.c0
          have y1 := CC.out.c1
          have y2 := CC.out.c2
          have y3 := CC.out.c3
          have y4 := CC.out.c4
          have y5 := CC.out.c5
          have z0 := RR.out.c0
          have z1 := RR.out.c1
          have z2 := RR.out.c2
          have z3 := RR.out.c3
          have z4 := RR.out.c4
          have z5 := RR.out.c5
          have x0 := RR.out.fz 0
          have x1 := RR.out.fz 1
          have x2 := RR.out.fz 2
          have x3 := RR.out.fz 3
          have x4 := RR.out.fz 4
          have x5 := RR.out.fz 5
          clear CC
          go_wp2_with fail
          have FIN := fin_claim (f := f) (t := t) SL.out SP.out NE1.out NE2.out GE1.out GE2.out (show w.heap.size ≤ b + 1 + 1 by have := Hb.out; omega) GG.out HI1.out HI2.out HM1.out HM2.out HL1.out HL2.out (.int .i64 n) (.int .i64 i) (.slice (some ⟨k1, 0, none⟩) lm c1) (.slice (some ⟨k2, 0, none⟩) p c2) (.string ⟨f.toArray⟩) (.string ⟨t.toArray⟩)
          have EQ := RR.out.setAll n i (.slice (some ⟨k1, 0, none⟩) lm c1) (.slice (some ⟨k2, 0, none⟩) p c2) f t
          clear z0 z1 z2 z3 z4 z5 y0 y1 y2 y3 y4 y5 x0 x1 x2 x3 x4 x5
          generalize ((((((wz.setCell ⟨b + 1 + 1, 0, none⟩ (.int .i64 n)).setCell ⟨b + 1 + 1, 1, none⟩ (.int .i64 i)).setCell ⟨b + 1 + 1, 2, none⟩ (.slice (some ⟨k1, 0, none⟩) lm c1)).setCell ⟨b + 1 + 1, 3, none⟩ (.slice (some ⟨k2, 0, none⟩) p c2)).setCell ⟨b + 1 + 1, 4, none⟩ (.string ⟨f.toArray⟩)).setCell ⟨b + 1 + 1, 5, none⟩ (.string ⟨t.toArray⟩)) = wy at *
          first | exact ret_claim rfl rfl EQ FIN | exact ret_claim rfl rfl EQ.drew FIN.drew | trace_state

      · have e2 : (z == 2) = false := by simpa using h2
        clear h2
        by_cases h3 : z = 3
        · have e3 : (z == 3) = true := by simp [h3]
          have d0 := C5.out.c3
          have d1 := C5.out.c3
          clear h3
          by_cases hm0 : p = 0
          · have m1 : decide (0 < p) = false := by simp [hm0]
            clear hm0
            go_upto_region 19 with fail
            have CC : Hid (Cl wc b n i (.slice (some ⟨k1, 0, none⟩) lm c1) (.slice (some ⟨k2, 0, none⟩) p c2) f t) := Lib.hid (C5.out)
            have RR : Hid (Cl wc (b + 1 + 1) 0 0 (.slice none 0 0) (.slice none 0 0) [] []) := Lib.hid (R5.out)
            have GG : Hid (w.grownBy wc none) := Lib.hid (G5.out)
            have SL : Hid (Row wc (b + 3) k1 lm c1 LL) := Lib.hid (H1.out)
            have SP : Hid (Row wc B5 k2 p c2 PL) := Lib.hid (H2.out)
            have NE1 : Hid (k1 ≠ b + 1 + 1) := Lib.hid (by omega)
            have NE2 : Hid (k2 ≠ b + 1 + 1) := Lib.hid (by omega)
            have GE1 : Hid (w.heap.size ≤ k1) := Lib.hid (by have := Hb.out; omega)
            have GE2 : Hid (w.heap.size ≤ k2) := Lib.hid (by have := Hb.out; omega)
            have HI1 : Hid (I64 n) := Lib.hid (Hn.out)
            have HI2 : Hid (I64 i) := Lib.hid (Hi.out)
            have HL1 : Hid (∀ s ∈ LL, s.length ≤ 101) := Lib.hid (fun s hs => Nat.le_trans (HLs.out s hs) (by decide))
            have HL2 : Hid (∀ s ∈ PL, s.length ≤ 100) := Lib.hid (HPs.out)
            have HM1 : Hid (lm ≤ 100) := Lib.hid (by omega)
            have HM2 : Hid (p ≤ 101) := Lib.hid (by omega)
            clear C5 Q5 R5 G5 H1 H2 d2 hk2 hb1
            generalize wc = wz at *
            have y0 := CC.out.c0
            have y1 := CC.out.c1
            have y2 := CC.out.c2
            have y3 := CC.out.c3
            have y4 := CC.out.c4
            have y5 := CC.out.c5
            have z0 := RR.out.c0
            have z1 := RR.out.c1
            have z2 := RR.out.c2
            have z3 := RR.out.c3
            have z4 := RR.out.c4
            have z5 := RR.out.c5
            have x0 := RR.out.fz 0
            have x1 := RR.out.fz 1
            have x2 := RR.out.fz 2
            have x3 := RR.out.fz 3
            have x4 := RR.out.fz 4
            have x5 := RR.out.fz 5
            clear CC
            go_wp2_with fail
            have FIN := fin_claim (f := f) (t := t) SL.out SP.out NE1.out NE2.out GE1.out GE2.out (show w.heap.size ≤ b + 1 + 1 by have := Hb.out; omega) GG.out HI1.out HI2.out HM1.out HM2.out HL1.out HL2.out (.int .i64 n) (.int .i64 i) (.slice (some ⟨k1, 0, none⟩) lm c1) (.slice (some ⟨k2, 0, none⟩) p c2) (.string ⟨f.toArray⟩) (.string ⟨t.toArray⟩)
            have EQ := RR.out.setAll n i (.slice (some ⟨k1, 0, none⟩) lm c1) (.slice (some ⟨k2, 0, none⟩) p c2) f t
            clear z0 z1 z2 z3 z4 z5 y0 y1 y2 y3 y4 y5 x0 x1 x2 x3 x4 x5
            generalize ((((((wz.setCell ⟨b + 1 + 1, 0, none⟩ (.int .i64 n)).setCell ⟨b + 1 + 1, 1, none⟩ (.int .i64 i)).setCell ⟨b + 1 + 1, 2, none⟩ (.slice (some ⟨k1, 0, none⟩) lm c1)).setCell ⟨b + 1 + 1, 3, none⟩ (.slice (some ⟨k2, 0, none⟩) p c2)).setCell ⟨b + 1 + 1, 4, none⟩ (.string ⟨f.toArray⟩)).setCell ⟨b + 1 + 1, 5, none⟩ (.string ⟨t.toArray⟩)) = wy at *
            first | exact ret_claim rfl rfl EQ FIN | exact ret_claim rfl rfl EQ.drew FIN.drew | trace_state

          · have m1 : 0 < p := by omega
            have ia3 : q3 % p < p := Nat.mod_lt _ (by omega)
            have hT : ((q3 : Int)).tmod (p : Int) = ((q3 % p : Nat) : Int) := rfl
            generalize q3 % p = j at *
            have ia0 : (0 : Int) ≤ (j : Int) := by omega
            have ia1 : (j : Int) < (p : Int) := by omega
            obtain ⟨x, hx⟩ : ∃ x, PL[j]? = some x := ⟨_, List.getElem?_eq_getElem (by rw [← H2.out.1]; exact ia3)⟩
            have cx := H2.out.cell _ x hx
            have fx := H2.out.fz j
            have hxl : x.length ≤ 100 := HPs.out x (List.mem_of_getElem? hx)
            have NB : Hid (some b ≠ some k2) := Lib.hid (by intro e; injection e with e; omega)
            clear hx
            go_upto_region 15 with fail
            refine wp_region_noPanic ?_
            refine wp_region_held_drew (S := (fun w' => wc.grownBy w' (some k2))) (by kernel_rfl) ?_ (fun hHeld => ?_)
            · (try dsimp only); (repeat (first | assumption | exact World.grownBy.refl _ _ | refine grown_drR ?_ | refine grown_alR ?_ | refine World.grownBy.trans ?_ (grown_setC _ k2 _ _)))
            refine wpAnyH_take (i := 0) (oi := _) (v := ?_) rfl (by kernel_rfl) (by kernel_rfl) (by kernel_rfl) (fun _ _ _ h => h) (Or.inl ⟨by rfl, ?_⟩) (by assumption) ?_
            rotate_left 1
            · (intro w hSw; (try dsimp only at hSw); go_simp; first | done | with_reducible rfl)
            try go_simp
            refine wpAnyH_take (i := 1) (oi := _) (v := .slice (some ⟨k2, 0, none⟩) p c2) rfl (by kernel_rfl) (by kernel_rfl) (by kernel_rfl) (fun _ _ _ h => h) (Or.inl ⟨by kernel_rfl, ?_⟩) (by assumption) ?_
            · (intro w hSw; (try dsimp only at hSw); go_simp; have q9 := gcellR hSw NB.out d0; clear hSw; go_simp; first | done | with_reducible rfl)
            try go_simp
            refine wpAnyH_take (i := 2) (oi := _) (v := ?_) rfl (by kernel_rfl) (by kernel_rfl) (by kernel_rfl) (fun _ _ _ h => h) (Or.inl ⟨by rfl, ?_⟩) (by assumption) ?_
            rotate_left 1
            · (intro w hSw; (try dsimp only at hSw); go_simp; first | done | with_reducible rfl)
            try go_simp
            refine wpAnyH_take (i := 3) (oi := _) (v := ?_) rfl (by kernel_rfl) (by kernel_rfl) (by kernel_rfl) (fun _ _ _ h => h) (Or.inl ⟨by rfl, ?_⟩) (by assumption) ?_
            rotate_left 1
            · (intro w hSw; (try dsimp only at hSw); go_simp; first | done | with_reducible rfl)
            try go_simp
            refine wpAnyH_take (i := 4) (oi := _) (v := .slice (some ⟨k2, 0, none⟩) p c2) rfl (by kernel_rfl) (by kernel_rfl) (by kernel_rfl) (fun _ _ _ h => h) (Or.inl ⟨by kernel_rfl, ?_⟩) (by assumption) ?_
            · (intro w hSw; (try dsimp only at hSw); go_simp; have q9 := gcellR hSw NB.out d0; clear hSw; go_simp; first | done | with_reducible rfl)
            try go_simp
            refine wpAnyH_take (i := 5) (oi := _) (v := ?_) rfl (by kernel_rfl) (by kernel_rfl) (by kernel_rfl) (fun _ _ _ h => h) (Or.inl ⟨by rfl, ?_⟩) (by assumption) ?_
            rotate_left 1
            · (intro w hSw; (try dsimp only at hSw); go_simp; first | done | with_reducible rfl)
            try go_simp
            refine wpAnyH_take (i := 6) (oi := _) (v := .int .i64 (j : Int)) rfl (by kernel_rfl) (by kernel_rfl) (by kernel_rfl) (fun _ _ _ h => h) (Or.inl ⟨by kernel_rfl, ?_⟩) (by assumption) ?_
            · (intro w hSw; (try dsimp only at hSw); go_simp; try rw [if_neg hm0, hT])
            try go_simp
            refine wpAnyH_ready (rs := [7]) (by kernel_rfl) (by simp) ?_
            refine AllReadyH.cons (o := _) rfl (fun K hK => ?_) AllReadyH.nil
            go_simp
            refine (of_r [120] (by simp) wc.drew).mono ?_
            rintro e wd ⟨rfl, gd⟩
            have gn : wc.grownBy wd none := (grown_dr (World.grownBy.refl _ _)).trans gd
            have gv := grown_any gn (some k2)
            have cx2 := gn.cell cx (by simp)
            have fx2 := (H2.out.kept gn (by simp)).fz j
            clear gd
            first | (refine hK.out _ _ ?_ (fun hHeld => ?_)) | (go_wp2_with fail; refine hK.out _ _ ?_ (fun hHeld => ?_))
            · (try dsimp only); (repeat (first | assumption | exact World.grownBy.refl _ _ | refine grown_drR ?_ | refine grown_alR ?_ | refine World.grownBy.trans ?_ (grown_setC _ k2 _ _)))
            clear hK K
            refine wpAnyH_take (i := 8) (oi := _) (v := ?_) rfl (by kernel_rfl) (by kernel_rfl) (by kernel_rfl) (fun _ _ _ h => h) (Or.inl ⟨by rfl, ?_⟩) (by assumption) ?_
            rotate_left 1
            · (intro w hSw; (try dsimp only at hSw); go_simp; first | done | with_reducible rfl)
            try go_simp
            refine wpAnyH_ready (rs := [9]) (by kernel_rfl) (by simp) ?_
            refine AllReadyH.cons (o := _) rfl (fun K hK => ?_) AllReadyH.nil
            go_simp
            first | (refine hK.out _ _ ?_ (fun hHeld => ?_)) | (go_wp2_with fail; refine hK.out _ _ ?_ (fun hHeld => ?_))
            · (try dsimp only); (repeat (first | assumption | exact World.grownBy.refl _ _ | refine grown_drR ?_ | refine grown_alR ?_ | refine World.grownBy.trans ?_ (grown_setC _ k2 _ _)))
            clear hK K
            refine wpAnyH_done (by kernel_rfl) ?_ _
            refine NoPanic.normal ?_
            go_simp
            clear cx fx d0 d1
            clear cx2 fx2 hHeld
            go_simp
            go_upto_region 19 with fail
            have CC : Hid (Cl (wd.setCell ⟨k2, j, none⟩ (.string ⟨(dg [120]).toArray⟩)) b n i (.slice (some ⟨k1, 0, none⟩) lm c1) (.slice (some ⟨k2, 0, none⟩) p c2) f t) := Lib.hid ((C5.out.grown gn (by simp)).grown (grown_setC _ _ _ _) (by simp; omega))
            have RR : Hid (Cl (wd.setCell ⟨k2, j, none⟩ (.string ⟨(dg [120]).toArray⟩)) (b + 1 + 1) 0 0 (.slice none 0 0) (.slice none 0 0) [] []) := Lib.hid ((R5.out.grown gn (by simp)).grown (grown_setC _ _ _ _) (by simp; omega))
            have GG : Hid (w.grownBy (wd.setCell ⟨k2, j, none⟩ (.string ⟨(dg [120]).toArray⟩)) none) := Lib.hid ((G5.out.trans gn).andThen (grown_setC _ _ _ _) (fun r e => by injection e with e; have := Hb.out; exact .inl (by omega)))
            have SL : Hid (Row (wd.setCell ⟨k2, j, none⟩ (.string ⟨(dg [120]).toArray⟩)) (b + 3) k1 lm c1 LL) := Lib.hid ((H1.out.kept gn (by simp)).kept (grown_setC _ _ _ _) (by simp; omega))
            have SP : Hid (Row (wd.setCell ⟨k2, j, none⟩ (.string ⟨(dg [120]).toArray⟩)) B5 k2 p c2 (PL.set j (dg [120]))) := Lib.hid ((H2.out.kept gn (by simp)).set j (dg [120]))
            have NE1 : Hid (k1 ≠ b + 1 + 1) := Lib.hid (by omega)
            have NE2 : Hid (k2 ≠ b + 1 + 1) := Lib.hid (by omega)
            have GE1 : Hid (w.heap.size ≤ k1) := Lib.hid (by have := Hb.out; omega)
            have GE2 : Hid (w.heap.size ≤ k2) := Lib.hid (by have := Hb.out; omega)
            have HI1 : Hid (I64 n) := Lib.hid (Hn.out)
            have HI2 : Hid (I64 i) := Lib.hid (Hi.out)
            have HL1 : Hid (∀ s ∈ LL, s.length ≤ 101) := Lib.hid (fun s hs => Nat.le_trans (HLs.out s hs) (by decide))
            have HL2 : Hid (∀ s ∈ (PL.set j (dg [120])), s.length ≤ 100) := Lib.hid (fun s hs => by
              rcases List.mem_or_eq_of_mem_set hs with h | rfl
              · exact HPs.out s h
              · rw [dg_len]; decide)
            have HM1 : Hid (lm ≤ 100) := Lib.hid (by omega)
            have HM2 : Hid (p ≤ 101) := Lib.hid (by omega)
            clear C5 Q5 R5 G5 H1 H2 d2 hk2 hb1
            generalize (wd.setCell ⟨k2, j, none⟩ (.string ⟨(dg [120]).toArray⟩)) = wz at *
            have y0 := CC.out.c0
            have y1 := CC.out.c1
            have y2 := CC.out.c2
            have y3 := CC.out.c3
            have y4 := CC.out.c4
            have y5 := CC.out.c5
            have z0 := RR.out.c0
            have z1 := RR.out.c1
            have z2 := RR.out.c2
            have z3 := RR.out.c3
            have z4 := RR.out.c4
            have z5 := RR.out.c5
            have x0 := RR.out.fz 0
            have x1 := RR.out.fz 1
            have x2 := RR.out.fz 2
            have x3 := RR.out.fz 3
            have x4 := RR.out.fz 4
            have x5 := RR.out.fz 5
            clear CC
            go_wp2_with fail
            have FIN := fin_claim (f := f) (t := t) SL.out SP.out NE1.out NE2.out GE1.out GE2.out (show w.heap.size ≤ b + 1 + 1 by have := Hb.out; omega) GG.out HI1.out HI2.out HM1.out HM2.out HL1.out HL2.out (.int .i64 n) (.int .i64 i) (.slice (some ⟨k1, 0, none⟩) lm c1) (.slice (some ⟨k2, 0, none⟩) p c2) (.string ⟨f.toArray⟩) (.string ⟨t.toArray⟩)
            have EQ := RR.out.setAll n i (.slice (some ⟨k1, 0, none⟩) lm c1) (.slice (some ⟨k2, 0, none⟩) p c2) f t
            clear z0 z1 z2 z3 z4 z5 y0 y1 y2 y3 y4 y5 x0 x1 x2 x3 x4 x5
            generalize ((((((wz.setCell ⟨b + 1 + 1, 0, none⟩ (.int .i64 n)).setCell ⟨b + 1 + 1, 1, none⟩ (.int .i64 i)).setCell ⟨b + 1 + 1, 2, none⟩ (.slice (some ⟨k1, 0, none⟩) lm c1)).setCell ⟨b + 1 + 1, 3, none⟩ (.slice (some ⟨k2, 0, none⟩) p c2)).setCell ⟨b + 1 + 1, 4, none⟩ (.string ⟨f.toArray⟩)).setCell ⟨b + 1 + 1, 5, none⟩ (.string ⟨t.toArray⟩)) = wy at *
            first | exact ret_claim rfl rfl EQ FIN | exact ret_claim rfl rfl EQ.drew FIN.drew | trace_state

        · have e3 : (z == 3) = false := by simpa using h3
          clear h3
          by_cases h4 : z = 4
          · have e4 : (z == 4) = true := by simp [h4]
            have d0 := C5.out.c2
            have d1 := C5.out.c2
            clear h4
            by_cases hm0 : lm = 0
            · have m1 : decide (0 < lm) = false := by simp [hm0]
              clear hm0
              go_upto_region 19 with fail
              have CC : Hid (Cl wc b n i (.slice (some ⟨k1, 0, none⟩) lm c1) (.slice (some ⟨k2, 0, none⟩) p c2) f t) := Lib.hid (C5.out)
              have RR : Hid (Cl wc (b + 1 + 1) 0 0 (.slice none 0 0) (.slice none 0 0) [] []) := Lib.hid (R5.out)
              have GG : Hid (w.grownBy wc none) := Lib.hid (G5.out)
              have SL : Hid (Row wc (b + 3) k1 lm c1 LL) := Lib.hid (H1.out)
              have SP : Hid (Row wc B5 k2 p c2 PL) := Lib.hid (H2.out)
              have NE1 : Hid (k1 ≠ b + 1 + 1) := Lib.hid (by omega)
              have NE2 : Hid (k2 ≠ b + 1 + 1) := Lib.hid (by omega)
              have GE1 : Hid (w.heap.size ≤ k1) := Lib.hid (by have := Hb.out; omega)
              have GE2 : Hid (w.heap.size ≤ k2) := Lib.hid (by have := Hb.out; omega)
              have HI1 : Hid (I64 n) := Lib.hid (Hn.out)
              have HI2 : Hid (I64 i) := Lib.hid (Hi.out)
              have HL1 : Hid (∀ s ∈ LL, s.length ≤ 101) := Lib.hid (fun s hs => Nat.le_trans (HLs.out s hs) (by decide))
              have HL2 : Hid (∀ s ∈ PL, s.length ≤ 100) := Lib.hid (HPs.out)
              have HM1 : Hid (lm ≤ 100) := Lib.hid (by omega)
              have HM2 : Hid (p ≤ 101) := Lib.hid (by omega)
              clear C5 Q5 R5 G5 H1 H2 d2 hk2 hb1
              generalize wc = wz at *
              have y0 := CC.out.c0
              have y1 := CC.out.c1
              have y2 := CC.out.c2
              have y3 := CC.out.c3
              have y4 := CC.out.c4
              have y5 := CC.out.c5
              have z0 := RR.out.c0
              have z1 := RR.out.c1
              have z2 := RR.out.c2
              have z3 := RR.out.c3
              have z4 := RR.out.c4
              have z5 := RR.out.c5
              have x0 := RR.out.fz 0
              have x1 := RR.out.fz 1
              have x2 := RR.out.fz 2
              have x3 := RR.out.fz 3
              have x4 := RR.out.fz 4
              have x5 := RR.out.fz 5
              clear CC
              go_wp2_with fail
              have FIN := fin_claim (f := f) (t := t) SL.out SP.out NE1.out NE2.out GE1.out GE2.out (show w.heap.size ≤ b + 1 + 1 by have := Hb.out; omega) GG.out HI1.out HI2.out HM1.out HM2.out HL1.out HL2.out (.int .i64 n) (.int .i64 i) (.slice (some ⟨k1, 0, none⟩) lm c1) (.slice (some ⟨k2, 0, none⟩) p c2) (.string ⟨f.toArray⟩) (.string ⟨t.toArray⟩)
              have EQ := RR.out.setAll n i (.slice (some ⟨k1, 0, none⟩) lm c1) (.slice (some ⟨k2, 0, none⟩) p c2) f t
              clear z0 z1 z2 z3 z4 z5 y0 y1 y2 y3 y4 y5 x0 x1 x2 x3 x4 x5
              generalize ((((((wz.setCell ⟨b + 1 + 1, 0, none⟩ (.int .i64 n)).setCell ⟨b + 1 + 1, 1, none⟩ (.int .i64 i)).setCell ⟨b + 1 + 1, 2, none⟩ (.slice (some ⟨k1, 0, none⟩) lm c1)).setCell ⟨b + 1 + 1, 3, none⟩ (.slice (some ⟨k2, 0, none⟩) p c2)).setCell ⟨b + 1 + 1, 4, none⟩ (.string ⟨f.toArray⟩)).setCell ⟨b + 1 + 1, 5, none⟩ (.string ⟨t.toArray⟩)) = wy at *
              first | exact ret_claim rfl rfl EQ FIN | exact ret_claim rfl rfl EQ.drew FIN.drew | trace_state

            · have m1 : 0 < lm := by omega
              have ia3 : q3 % lm < lm := Nat.mod_lt _ (by omega)
              have hT : ((q3 : Int)).tmod (lm : Int) = ((q3 % lm : Nat) : Int) := rfl
              have hT2 : (q3 : Int) % (lm : Int) = ((q3 % lm : Nat) : Int) := rfl
              generalize q3 % lm = j at *
              have ia0 : (0 : Int) ≤ (j : Int) := by omega
              have ia1 : (j : Int) < (lm : Int) := by omega
              have hcap := H1.out.le
              have ia4 : (j : Int) ≤ (c1 : Int) := by omega
              have ia5 : (j : Int) + 1 ≤ (lm : Int) := by omega
              have ia6 : IntKind.i64.wrap ((j : Int) + 1) = (j : Int) + 1 := by rw [IntKind.wrap_i64]; omega
              have ia7 : (0 : Int) ≤ (j : Int) + 1 := by omega
              go_upto_region 18 with fail
              have d9 : World.cell? { heap := wc.heap, tape := wc.tape, drawn := wc.drawn + 1, os := wc.os, output := wc.output } ⟨b, 2, none⟩ = some (.slice (some ⟨k1, 0, none⟩) lm c1) := d0
              have hlj : (LL.take j).length = j := by rw [List.length_take]; have := H1.out.1; omega
              have hld : (LL.take j ++ LL.drop (j + 1)).length = lm - 1 := by rw [List.length_append, hlj, List.length_drop]; have := H1.out.1; omega
              have gw : wc.grownBy wc.drew none := grown_dr (World.grownBy.refl _ _)
              have hO : wc.drew.ownsRow (b + 3) 9 1 (.slice (some ⟨k1, 0, none⟩) j c1) (LL.take j).length ((LL.take j).map fun s => .string ⟨s.toArray⟩) := by
                rw [hlj, List.map_take]
                exact own_take ((H1.out.kept gw (by simp)).2) (by omega)
              have hS := ((H1.out.kept gw (by simp)).strs (fun s hs => Nat.le_trans (HLs.out s hs) (by decide))).drop (show j + 1 ≤ lm by omega)
              have HO := Lib.hid hO
              have HS := Lib.hid hS
              have HLD := Lib.hid hld
              have HLJ := Lib.hid hlj
              clear hO hS hld hlj
              by_cases hcj : c1 = j + 1
              · rw [if_pos hcj] at HS
                have ia8 : (j : Int) ≤ (j : Int) + 1 := by omega
                have ia9 : (lm : Int) ≤ (j : Int) + 1 := by omega
                have HSX : Strs wc.drew (some ⟨k1, 0, none⟩) (lm - (j + 1)) 0 (LL.drop (j + 1)) := by
                  have := HS.out
                  rwa [show c1 - (j + 1) = 0 by omega] at this
                have hsw : b + 3 ≤ wc.drew.heap.size := by have := H1.out.lt; simp; omega
                go_still_tail 17, (by kernel_rfl)
                change wpList _ _ _ _ _ wc.drew
                generalize wc.drew = wd at *
                refine wpList_append_strs rfl _ _ rfl (b + 3) (.slice (some ⟨k1, 0, none⟩) j c1) (LL.take j) (by first | rfl | (rw [hcj]; rfl)) HO.out (some ⟨k1, 0, none⟩) (lm - (j + 1)) 0 (LL.drop (j + 1)) (by rfl) HSX (by intro h; cases h) (by rw [HLJ.out]; omega) hsw ?_
                intro v9 w9 hown9 hgrow9 _ hsome9
                rw [HLD.out] at hown9 hsome9
                rcases hsome9 with e | ⟨g9, c9, rfl⟩
                · cases e
                · have hbk : some b ≠ (Value.slice (some ⟨k1, 0, none⟩) j c1).ownBlock := by simp [Value.ownBlock]; omega
                  have hbk2 : some (b + 1 + 1) ≠ (Value.slice (some ⟨k1, 0, none⟩) j c1).ownBlock := by simp [Value.ownBlock]; omega
                  have hbk3 : some k2 ≠ (Value.slice (some ⟨k1, 0, none⟩) j c1).ownBlock := by simp [Value.ownBlock]; omega
                  have R9 : Hid (Row w9 (b + 3) g9 (lm - 1) c9 (LL.take j ++ LL.drop (j + 1))) := Lib.hid ⟨HLD.out.symm, hown9⟩
                  have C9 : Hid (Cl w9 b n i (.slice (some ⟨k1, 0, none⟩) lm c1) (.slice (some ⟨k2, 0, none⟩) p c2) f t) := Lib.hid ((C5.out.grown gw (by simp)).grown hgrow9 hbk)
                  have D9 : Hid (Cl w9 (b + 1 + 1) 0 0 (.slice none 0 0) (.slice none 0 0) [] []) := Lib.hid ((R5.out.grown gw (by simp)).grown hgrow9 hbk2)
                  have P9 : Hid (Row w9 B5 k2 p c2 PL) := Lib.hid ((H2.out.kept gw (by simp)).kept hgrow9 hbk3)
                  have G9 : Hid (w.grownBy w9 none) := Lib.hid ((G5.out.trans gw).andThen hgrow9 (fun r e => .inl (by have := Hb.out; simp [Value.ownBlock] at e; omega)))
                  have hg9 := R9.out.lt
                  have hm9 : lm - 1 ≤ 100 := by omega
                  have s2 := C9.out.c2
                  have sf := C9.out.fz 2
                  clear hown9 hgrow9 hbk hbk2 hbk3 gw HO HS HSX d0 d1 d9 H1 H2 ia0 ia1 ia4 ia5 ia6 ia7 hT hT2 hsw
                  go_upto_region 19 with fail
                  have CC : Hid (Cl (w9.setCell ⟨b, 2, none⟩ (.slice (some ⟨g9, 0, none⟩) (lm - 1) c9)) b n i (.slice (some ⟨g9, 0, none⟩) (lm - 1) c9) (.slice (some ⟨k2, 0, none⟩) p c2) f t) := Lib.hid (C9.out.set2 _)
                  have RR : Hid (Cl (w9.setCell ⟨b, 2, none⟩ (.slice (some ⟨g9, 0, none⟩) (lm - 1) c9)) (b + 1 + 1) 0 0 (.slice none 0 0) (.slice none 0 0) [] []) := Lib.hid (D9.out.grown (grown_setC _ _ _ _) (by simp; omega))
                  have GG : Hid (w.grownBy (w9.setCell ⟨b, 2, none⟩ (.slice (some ⟨g9, 0, none⟩) (lm - 1) c9)) none) := Lib.hid (G9.out.andThen (grown_setC _ _ _ _) (fun r e => by injection e with e; have := Hb.out; exact .inl (by omega)))
                  have SL : Hid (Row (w9.setCell ⟨b, 2, none⟩ (.slice (some ⟨g9, 0, none⟩) (lm - 1) c9)) (b + 3) g9 (lm - 1) c9 (LL.take j ++ LL.drop (j + 1))) := Lib.hid (R9.out.kept (grown_setC _ _ _ _) (by simp; omega))
                  have SP : Hid (Row (w9.setCell ⟨b, 2, none⟩ (.slice (some ⟨g9, 0, none⟩) (lm - 1) c9)) B5 k2 p c2 PL) := Lib.hid (P9.out.kept (grown_setC _ _ _ _) (by simp; omega))
                  have NE1 : Hid (g9 ≠ b + 1 + 1) := Lib.hid (by omega)
                  have NE2 : Hid (k2 ≠ b + 1 + 1) := Lib.hid (by omega)
                  have GE1 : Hid (w.heap.size ≤ g9) := Lib.hid (by have := Hb.out; omega)
                  have GE2 : Hid (w.heap.size ≤ k2) := Lib.hid (by have := Hb.out; omega)
                  have HI1 : Hid (I64 n) := Lib.hid (Hn.out)
                  have HI2 : Hid (I64 i) := Lib.hid (Hi.out)
                  have HL1 : Hid (∀ s ∈ (LL.take j ++ LL.drop (j + 1)), s.length ≤ 101) := Lib.hid (fun s hs => by
                    rcases List.mem_append.1 hs with h | h
                    · exact Nat.le_trans (HLs.out s (List.mem_of_mem_take h)) (by decide)
                    · exact Nat.le_trans (HLs.out s (List.mem_of_mem_drop h)) (by decide))
                  have HL2 : Hid (∀ s ∈ PL, s.length ≤ 100) := Lib.hid (HPs.out)
                  have HM1 : Hid ((lm - 1) ≤ 100) := Lib.hid (hm9)
                  have HM2 : Hid (p ≤ 101) := Lib.hid (by omega)
                  clear C5 Q5 R5 G5 d2 hk2 hb1 s2 sf R9 C9 D9 P9 G9
                  generalize (w9.setCell ⟨b, 2, none⟩ (.slice (some ⟨g9, 0, none⟩) (lm - 1) c9)) = wz at *
                  have y0 := CC.out.c0
                  have y1 := CC.out.c1
                  have y2 := CC.out.c2
                  have y3 := CC.out.c3
                  have y4 := CC.out.c4
                  have y5 := CC.out.c5
                  have z0 := RR.out.c0
                  have z1 := RR.out.c1
                  have z2 := RR.out.c2
                  have z3 := RR.out.c3
                  have z4 := RR.out.c4
                  have z5 := RR.out.c5
                  have x0 := RR.out.fz 0
                  have x1 := RR.out.fz 1
                  have x2 := RR.out.fz 2
                  have x3 := RR.out.fz 3
                  have x4 := RR.out.fz 4
                  have x5 := RR.out.fz 5
                  clear CC
                  go_wp2_with fail
                  have FIN := fin_claim (f := f) (t := t) SL.out SP.out NE1.out NE2.out GE1.out GE2.out (show w.heap.size ≤ b + 1 + 1 by have := Hb.out; omega) GG.out HI1.out HI2.out HM1.out HM2.out HL1.out HL2.out (.int .i64 n) (.int .i64 i) (.slice (some ⟨g9, 0, none⟩) (lm - 1) c9) (.slice (some ⟨k2, 0, none⟩) p c2) (.string ⟨f.toArray⟩) (.string ⟨t.toArray⟩)
                  have EQ := RR.out.setAll n i (.slice (some ⟨g9, 0, none⟩) (lm - 1) c9) (.slice (some ⟨k2, 0, none⟩) p c2) f t
                  clear z0 z1 z2 z3 z4 z5 y0 y1 y2 y3 y4 y5 x0 x1 x2 x3 x4 x5
                  generalize ((((((wz.setCell ⟨b + 1 + 1, 0, none⟩ (.int .i64 n)).setCell ⟨b + 1 + 1, 1, none⟩ (.int .i64 i)).setCell ⟨b + 1 + 1, 2, none⟩ (.slice (some ⟨g9, 0, none⟩) (lm - 1) c9)).setCell ⟨b + 1 + 1, 3, none⟩ (.slice (some ⟨k2, 0, none⟩) p c2)).setCell ⟨b + 1 + 1, 4, none⟩ (.string ⟨f.toArray⟩)).setCell ⟨b + 1 + 1, 5, none⟩ (.string ⟨t.toArray⟩)) = wy at *
                  first | exact ret_claim rfl rfl EQ FIN | exact ret_claim rfl rfl EQ.drew FIN.drew | trace_state

              · rw [if_neg hcj] at HS
                have HSX : Strs wc.drew (some ⟨k1, j + 1, none⟩) (lm - (j + 1)) (c1 - (j + 1)) (LL.drop (j + 1)) := by
                  have := HS.out
                  rwa [Option.map_some, show (⟨k1, 0, none⟩ : Addr).add (j + 1) = ⟨k1, j + 1, none⟩ by unfold Addr.add; split <;> simp_all] at this
                have hsw : b + 3 ≤ wc.drew.heap.size := by have := H1.out.lt; simp; omega
                go_still_tail 17, (by kernel_rfl)
                change wpList _ _ _ _ _ wc.drew
                generalize wc.drew = wd at *
                refine wpList_append_strs rfl _ _ rfl (b + 3) (.slice (some ⟨k1, 0, none⟩) j c1) (LL.take j) (by first | rfl | (rw [hcj]; rfl)) HO.out (some ⟨k1, j + 1, none⟩) (lm - (j + 1)) (c1 - (j + 1)) (LL.drop (j + 1)) (by rfl) HSX (by intro h; cases h) (by rw [HLJ.out]; omega) hsw ?_
                intro v9 w9 hown9 hgrow9 _ hsome9
                rw [HLD.out] at hown9 hsome9
                rcases hsome9 with e | ⟨g9, c9, rfl⟩
                · cases e
                · have hbk : some b ≠ (Value.slice (some ⟨k1, 0, none⟩) j c1).ownBlock := by simp [Value.ownBlock]; omega
                  have hbk2 : some (b + 1 + 1) ≠ (Value.slice (some ⟨k1, 0, none⟩) j c1).ownBlock := by simp [Value.ownBlock]; omega
                  have hbk3 : some k2 ≠ (Value.slice (some ⟨k1, 0, none⟩) j c1).ownBlock := by simp [Value.ownBlock]; omega
                  have R9 : Hid (Row w9 (b + 3) g9 (lm - 1) c9 (LL.take j ++ LL.drop (j + 1))) := Lib.hid ⟨HLD.out.symm, hown9⟩
                  have C9 : Hid (Cl w9 b n i (.slice (some ⟨k1, 0, none⟩) lm c1) (.slice (some ⟨k2, 0, none⟩) p c2) f t) := Lib.hid ((C5.out.grown gw (by simp)).grown hgrow9 hbk)
                  have D9 : Hid (Cl w9 (b + 1 + 1) 0 0 (.slice none 0 0) (.slice none 0 0) [] []) := Lib.hid ((R5.out.grown gw (by simp)).grown hgrow9 hbk2)
                  have P9 : Hid (Row w9 B5 k2 p c2 PL) := Lib.hid ((H2.out.kept gw (by simp)).kept hgrow9 hbk3)
                  have G9 : Hid (w.grownBy w9 none) := Lib.hid ((G5.out.trans gw).andThen hgrow9 (fun r e => .inl (by have := Hb.out; simp [Value.ownBlock] at e; omega)))
                  have hg9 := R9.out.lt
                  have hm9 : lm - 1 ≤ 100 := by omega
                  have s2 := C9.out.c2
                  have sf := C9.out.fz 2
                  clear hown9 hgrow9 hbk hbk2 hbk3 gw HO HS HSX d0 d1 d9 H1 H2 ia0 ia1 ia4 ia5 ia6 ia7 hT hT2 hsw
                  go_upto_region 19 with fail
                  have CC : Hid (Cl (w9.setCell ⟨b, 2, none⟩ (.slice (some ⟨g9, 0, none⟩) (lm - 1) c9)) b n i (.slice (some ⟨g9, 0, none⟩) (lm - 1) c9) (.slice (some ⟨k2, 0, none⟩) p c2) f t) := Lib.hid (C9.out.set2 _)
                  have RR : Hid (Cl (w9.setCell ⟨b, 2, none⟩ (.slice (some ⟨g9, 0, none⟩) (lm - 1) c9)) (b + 1 + 1) 0 0 (.slice none 0 0) (.slice none 0 0) [] []) := Lib.hid (D9.out.grown (grown_setC _ _ _ _) (by simp; omega))
                  have GG : Hid (w.grownBy (w9.setCell ⟨b, 2, none⟩ (.slice (some ⟨g9, 0, none⟩) (lm - 1) c9)) none) := Lib.hid (G9.out.andThen (grown_setC _ _ _ _) (fun r e => by injection e with e; have := Hb.out; exact .inl (by omega)))
                  have SL : Hid (Row (w9.setCell ⟨b, 2, none⟩ (.slice (some ⟨g9, 0, none⟩) (lm - 1) c9)) (b + 3) g9 (lm - 1) c9 (LL.take j ++ LL.drop (j + 1))) := Lib.hid (R9.out.kept (grown_setC _ _ _ _) (by simp; omega))
                  have SP : Hid (Row (w9.setCell ⟨b, 2, none⟩ (.slice (some ⟨g9, 0, none⟩) (lm - 1) c9)) B5 k2 p c2 PL) := Lib.hid (P9.out.kept (grown_setC _ _ _ _) (by simp; omega))
                  have NE1 : Hid (g9 ≠ b + 1 + 1) := Lib.hid (by omega)
                  have NE2 : Hid (k2 ≠ b + 1 + 1) := Lib.hid (by omega)
                  have GE1 : Hid (w.heap.size ≤ g9) := Lib.hid (by have := Hb.out; omega)
                  have GE2 : Hid (w.heap.size ≤ k2) := Lib.hid (by have := Hb.out; omega)
                  have HI1 : Hid (I64 n) := Lib.hid (Hn.out)
                  have HI2 : Hid (I64 i) := Lib.hid (Hi.out)
                  have HL1 : Hid (∀ s ∈ (LL.take j ++ LL.drop (j + 1)), s.length ≤ 101) := Lib.hid (fun s hs => by
                    rcases List.mem_append.1 hs with h | h
                    · exact Nat.le_trans (HLs.out s (List.mem_of_mem_take h)) (by decide)
                    · exact Nat.le_trans (HLs.out s (List.mem_of_mem_drop h)) (by decide))
                  have HL2 : Hid (∀ s ∈ PL, s.length ≤ 100) := Lib.hid (HPs.out)
                  have HM1 : Hid ((lm - 1) ≤ 100) := Lib.hid (hm9)
                  have HM2 : Hid (p ≤ 101) := Lib.hid (by omega)
                  clear C5 Q5 R5 G5 d2 hk2 hb1 s2 sf R9 C9 D9 P9 G9
                  generalize (w9.setCell ⟨b, 2, none⟩ (.slice (some ⟨g9, 0, none⟩) (lm - 1) c9)) = wz at *
                  have y0 := CC.out.c0
                  have y1 := CC.out.c1
                  have y2 := CC.out.c2
                  have y3 := CC.out.c3
                  have y4 := CC.out.c4
                  have y5 := CC.out.c5
                  have z0 := RR.out.c0
                  have z1 := RR.out.c1
                  have z2 := RR.out.c2
                  have z3 := RR.out.c3
                  have z4 := RR.out.c4
                  have z5 := RR.out.c5
                  have x0 := RR.out.fz 0
                  have x1 := RR.out.fz 1
                  have x2 := RR.out.fz 2
                  have x3 := RR.out.fz 3
                  have x4 := RR.out.fz 4
                  have x5 := RR.out.fz 5
                  clear CC
                  go_wp2_with fail
                  have FIN := fin_claim (f := f) (t := t) SL.out SP.out NE1.out NE2.out GE1.out GE2.out (show w.heap.size ≤ b + 1 + 1 by have := Hb.out; omega) GG.out HI1.out HI2.out HM1.out HM2.out HL1.out HL2.out (.int .i64 n) (.int .i64 i) (.slice (some ⟨g9, 0, none⟩) (lm - 1) c9) (.slice (some ⟨k2, 0, none⟩) p c2) (.string ⟨f.toArray⟩) (.string ⟨t.toArray⟩)
                  have EQ := RR.out.setAll n i (.slice (some ⟨g9, 0, none⟩) (lm - 1) c9) (.slice (some ⟨k2, 0, none⟩) p c2) f t
                  clear z0 z1 z2 z3 z4 z5 y0 y1 y2 y3 y4 y5 x0 x1 x2 x3 x4 x5
                  generalize ((((((wz.setCell ⟨b + 1 + 1, 0, none⟩ (.int .i64 n)).setCell ⟨b + 1 + 1, 1, none⟩ (.int .i64 i)).setCell ⟨b + 1 + 1, 2, none⟩ (.slice (some ⟨g9, 0, none⟩) (lm - 1) c9)).setCell ⟨b + 1 + 1, 3, none⟩ (.slice (some ⟨k2, 0, none⟩) p c2)).setCell ⟨b + 1 + 1, 4, none⟩ (.string ⟨f.toArray⟩)).setCell ⟨b + 1 + 1, 5, none⟩ (.string ⟨t.toArray⟩)) = wy at *
                  first | exact ret_claim rfl rfl EQ FIN | exact ret_claim rfl rfl EQ.drew FIN.drew | trace_state

          · have e4 : (z == 4) = false := by simpa using h4
            clear h4
            have d0 := C5.out.c3
            have d1 := C5.out.c3
            go_upto_region 5 with fail
            refine wp_region_noPanic ?_
            refine wp_region_held_drew (S := (fun _ => True)) (by kernel_rfl) ?_ (fun hHeld => ?_)
            · (try dsimp only); (all_goals trivial)
            refine wpAnyH_take (i := 0) (oi := _) (v := ?_) rfl (by kernel_rfl) (by kernel_rfl) (by kernel_rfl) (fun _ _ _ h => h) (Or.inl ⟨by rfl, ?_⟩) (by assumption) ?_
            rotate_left 1
            · (intro w hSw; (try dsimp only at hSw); go_simp; first | done | with_reducible rfl)
            try go_simp
            refine wpAnyH_ready (rs := [1, 2]) (by kernel_rfl) (by simp) ?_
            refine AllReadyH.cons (o := _) rfl (fun K hK => ?_) ?_
            · clear hHeld
              go_simp
              first | (refine hK.out _ _ ?_ (fun hHeld => ?_)) | (go_wp2_with fail; refine hK.out _ _ ?_ (fun hHeld => ?_))
              · all_goals trivial
              clear hK K
              refine wpAnyH_ready (rs := [2]) (by kernel_rfl) (by simp) ?_
              refine AllReadyH.cons (o := _) rfl (fun K hK => ?_) AllReadyH.nil
              go_simp
              refine (of_r [121] (by simp) wc.drew).mono ?_
              rintro e wd ⟨rfl, gd⟩
              have gn : wc.grownBy wd none := (grown_dr (World.grownBy.refl _ _)).trans gd
              have d5 := gn.cell d0 (by simp)
              have hbw : b < wd.heap.size := Nat.lt_of_lt_of_le hb1 gn.size
              clear gd
              first | (refine hK.out _ _ ?_ (fun hHeld => ?_)) | (go_wp2_with fail; refine hK.out _ _ ?_ (fun hHeld => ?_))
              · (try dsimp only); (all_goals trivial)
              clear hK K
              refine wpAnyH_ready (rs := [3]) (by kernel_rfl) (by simp) ?_
              refine AllReadyH.cons (o := _) rfl (fun K hK => ?_) AllReadyH.nil
              go_simp
              first | (refine hK.out _ _ ?_ (fun hHeld => ?_)) | (go_wp2_with fail; refine hK.out _ _ ?_ (fun hHeld => ?_))
              · (try dsimp only); (all_goals trivial)
              clear hK K
              refine wpAnyH_ready (rs := [4]) (by kernel_rfl) (by simp) ?_
              refine AllReadyH.cons (o := _) rfl (fun K hK => ?_) AllReadyH.nil
              clear hHeld
              have ga := World.grownBy_alloc wd (.cells #[.string ⟨(dg [121]).toArray⟩] 9) none
              have hn4 := heap_alloc_new wd (.cells #[.string ⟨(dg [121]).toArray⟩] 9)
              have hO : (wd.alloc (.cells #[.string ⟨(dg [121]).toArray⟩] 9)).ownsRow B5 9 1 (.slice (some ⟨k2, 0, none⟩) p c2) PL.length (PL.map fun s => .string ⟨s.toArray⟩) := by
                rw [← H2.out.1]
                exact (H2.out.2.kept gn (Classical.em _)).kept ga (Classical.em _)
              have hSX : Strs (wd.alloc (.cells #[.string ⟨(dg [121]).toArray⟩] 9)) (some ⟨wd.heap.size, 0, none⟩) 1 1 [dg [121]] := by
                refine ⟨rfl, Nat.le_refl _, by decide, fun s hs => ?_, fun _ => ⟨_, rfl, by simp, fun j s hj => ?_⟩⟩
                · rw [List.mem_singleton] at hs
                  rw [hs, dg_len]; decide
                · match j, hj with
                  | 0, hj =>
                    simp at hj
                    subst hj
                    exact World.news_of_block (cs := #[.string ⟨(dg [121]).toArray⟩]) (t := 9) (fr := (0, 0)) hn4 0 _ rfl
              have hpl := H2.out.1
              have hsz := gn.size
              refine step_append_strs rfl _ _ rfl B5 (.slice (some ⟨k2, 0, none⟩) p c2) PL (by rfl) hO (some ⟨wd.heap.size, 0, none⟩) 1 1 [dg [121]] (by rfl) hSX (by intro h; cases h) (by omega) (by simp; omega) ?_
              intro v9 w9 hown9 hgrow9 _ hsome9
              rw [show (PL ++ [dg [121]]).length = p + 1 by rw [List.length_append, ← hpl]; rfl] at hown9 hsome9
              rcases hsome9 with e | ⟨g9, c9, rfl⟩
              · cases e
              have hbk : some b ≠ (Value.slice (some ⟨k2, 0, none⟩) p c2).ownBlock := by simp [Value.ownBlock]; omega
              have hbk2 : some (b + 1 + 1) ≠ (Value.slice (some ⟨k2, 0, none⟩) p c2).ownBlock := by simp [Value.ownBlock]; omega
              have hbk3 : some k1 ≠ (Value.slice (some ⟨k2, 0, none⟩) p c2).ownBlock := by simp [Value.ownBlock]; omega
              have gw := gn.trans ga
              have R9 : Hid (Row w9 B5 g9 (p + 1) c9 (PL ++ [dg [121]])) := Lib.hid ⟨by rw [List.length_append, ← hpl]; rfl, hown9⟩
              have C9 : Hid (Cl w9 b n i (.slice (some ⟨k1, 0, none⟩) lm c1) (.slice (some ⟨k2, 0, none⟩) p c2) f t) := Lib.hid ((C5.out.grown gw (by simp)).grown hgrow9 hbk)
              have D9 : Hid (Cl w9 (b + 1 + 1) 0 0 (.slice none 0 0) (.slice none 0 0) [] []) := Lib.hid ((R5.out.grown gw (by simp)).grown hgrow9 hbk2)
              have P9 : Hid (Row w9 (b + 3) k1 lm c1 LL) := Lib.hid ((H1.out.kept gw (by simp)).kept hgrow9 hbk3)
              have G9 : Hid (w.grownBy w9 none) := Lib.hid ((G5.out.trans gw).andThen hgrow9 (fun r e => .inl (by have := Hb.out; simp [Value.ownBlock] at e; omega)))
              have hg9 := R9.out.lt
              have s2 := C9.out.c3
              have sf := C9.out.fz 3
              clear hown9 hgrow9 hbk hbk2 hbk3 gw hO hSX d0 d1 d5 hbw H1 H2 hn4 ga gn hpl hsz
              refine hK.out _ _ ?_ (fun hHeld => ?_)
              · all_goals trivial
              clear hK K
              try go_simp
              refine wpAnyH_take (i := 5) (oi := _) (v := ?_) rfl (by kernel_rfl) (by kernel_rfl) (by kernel_rfl) (fun _ _ _ h => h) (Or.inl ⟨by rfl, ?_⟩) (by assumption) ?_
              rotate_left 1
              · (intro w hSw; (try dsimp only at hSw); go_simp; first | done | with_reducible rfl)
              try go_simp
              refine wpAnyH_ready (rs := [6]) (by kernel_rfl) (by simp) ?_
              refine AllReadyH.cons (o := _) rfl (fun K hK => ?_) AllReadyH.nil
              go_simp
              first | (refine hK.out _ _ ?_ (fun hHeld => ?_)) | (go_wp2_with fail; refine hK.out _ _ ?_ (fun hHeld => ?_))
              · (try dsimp only); (all_goals trivial)
              clear hK K
              refine wpAnyH_done (by kernel_rfl) ?_ _
              refine NoPanic.normal ?_
              go_simp
              clear hHeld
              go_upto_region 19 with fail
              have CC : Hid (Cl (w9.setCell ⟨b, 3, none⟩ (.slice (some ⟨g9, 0, none⟩) (p + 1) c9)) b n i (.slice (some ⟨k1, 0, none⟩) lm c1) (.slice (some ⟨g9, 0, none⟩) (p + 1) c9) f t) := Lib.hid (C9.out.set3 _)
              have RR : Hid (Cl (w9.setCell ⟨b, 3, none⟩ (.slice (some ⟨g9, 0, none⟩) (p + 1) c9)) (b + 1 + 1) 0 0 (.slice none 0 0) (.slice none 0 0) [] []) := Lib.hid (D9.out.grown (grown_setC _ _ _ _) (by simp; omega))
              have GG : Hid (w.grownBy (w9.setCell ⟨b, 3, none⟩ (.slice (some ⟨g9, 0, none⟩) (p + 1) c9)) none) := Lib.hid (G9.out.andThen (grown_setC _ _ _ _) (fun r e => by injection e with e; have := Hb.out; exact .inl (by omega)))
              have SL : Hid (Row (w9.setCell ⟨b, 3, none⟩ (.slice (some ⟨g9, 0, none⟩) (p + 1) c9)) (b + 3) k1 lm c1 LL) := Lib.hid (P9.out.kept (grown_setC _ _ _ _) (by simp; omega))
              have SP : Hid (Row (w9.setCell ⟨b, 3, none⟩ (.slice (some ⟨g9, 0, none⟩) (p + 1) c9)) B5 g9 (p + 1) c9 (PL ++ [dg [121]])) := Lib.hid (R9.out.kept (grown_setC _ _ _ _) (by simp; omega))
              have NE1 : Hid (k1 ≠ b + 1 + 1) := Lib.hid (by omega)
              have NE2 : Hid (g9 ≠ b + 1 + 1) := Lib.hid (by omega)
              have GE1 : Hid (w.heap.size ≤ k1) := Lib.hid (by have := Hb.out; omega)
              have GE2 : Hid (w.heap.size ≤ g9) := Lib.hid (by have := Hb.out; omega)
              have HI1 : Hid (I64 n) := Lib.hid (Hn.out)
              have HI2 : Hid (I64 i) := Lib.hid (Hi.out)
              have HL1 : Hid (∀ s ∈ LL, s.length ≤ 101) := Lib.hid (fun s hs => Nat.le_trans (HLs.out s hs) (by decide))
              have HL2 : Hid (∀ s ∈ (PL ++ [dg [121]]), s.length ≤ 100) := Lib.hid (fun s hs => by
                rcases List.mem_append.1 hs with h | h
                · exact HPs.out s h
                · rw [List.mem_singleton] at h; rw [h, dg_len]; decide)
              have HM1 : Hid (lm ≤ 100) := Lib.hid (by omega)
              have HM2 : Hid ((p + 1) ≤ 101) := Lib.hid (by omega)
              clear C5 Q5 R5 G5 d2 hk2 hb1 s2 sf R9 C9 D9 P9 G9
              generalize (w9.setCell ⟨b, 3, none⟩ (.slice (some ⟨g9, 0, none⟩) (p + 1) c9)) = wz at *
              have y0 := CC.out.c0
              have y1 := CC.out.c1
              have y2 := CC.out.c2
              have y3 := CC.out.c3
              have y4 := CC.out.c4
              have y5 := CC.out.c5
              have z0 := RR.out.c0
              have z1 := RR.out.c1
              have z2 := RR.out.c2
              have z3 := RR.out.c3
              have z4 := RR.out.c4
              have z5 := RR.out.c5
              have x0 := RR.out.fz 0
              have x1 := RR.out.fz 1
              have x2 := RR.out.fz 2
              have x3 := RR.out.fz 3
              have x4 := RR.out.fz 4
              have x5 := RR.out.fz 5
              clear CC
              go_wp2_with fail
              have FIN := fin_claim (f := f) (t := t) SL.out SP.out NE1.out NE2.out GE1.out GE2.out (show w.heap.size ≤ b + 1 + 1 by have := Hb.out; omega) GG.out HI1.out HI2.out HM1.out HM2.out HL1.out HL2.out (.int .i64 n) (.int .i64 i) (.slice (some ⟨k1, 0, none⟩) lm c1) (.slice (some ⟨g9, 0, none⟩) (p + 1) c9) (.string ⟨f.toArray⟩) (.string ⟨t.toArray⟩)
              have EQ := RR.out.setAll n i (.slice (some ⟨k1, 0, none⟩) lm c1) (.slice (some ⟨g9, 0, none⟩) (p + 1) c9) f t
              clear z0 z1 z2 z3 z4 z5 y0 y1 y2 y3 y4 y5 x0 x1 x2 x3 x4 x5
              generalize ((((((wz.setCell ⟨b + 1 + 1, 0, none⟩ (.int .i64 n)).setCell ⟨b + 1 + 1, 1, none⟩ (.int .i64 i)).setCell ⟨b + 1 + 1, 2, none⟩ (.slice (some ⟨k1, 0, none⟩) lm c1)).setCell ⟨b + 1 + 1, 3, none⟩ (.slice (some ⟨g9, 0, none⟩) (p + 1) c9)).setCell ⟨b + 1 + 1, 4, none⟩ (.string ⟨f.toArray⟩)).setCell ⟨b + 1 + 1, 5, none⟩ (.string ⟨t.toArray⟩)) = wy at *
              first | exact ret_claim rfl rfl EQ FIN | exact ret_claim rfl rfl EQ.drew FIN.drew | trace_state
            refine AllReadyH.cons (o := _) rfl (fun K hK => ?_) AllReadyH.nil
            · clear hHeld
              go_simp
              refine (of_r [121] (by simp) wc.drew).mono ?_
              rintro e wd ⟨rfl, gd⟩
              have gn : wc.grownBy wd none := (grown_dr (World.grownBy.refl _ _)).trans gd
              have d5 := gn.cell d0 (by simp)
              have hbw : b < wd.heap.size := Nat.lt_of_lt_of_le hb1 gn.size
              clear gd
              first | (refine hK.out _ _ ?_ (fun hHeld => ?_)) | (go_wp2_with fail; refine hK.out _ _ ?_ (fun hHeld => ?_))
              · all_goals trivial
              clear hK K
              refine wpAnyH_ready (rs := [1, 3]) (by kernel_rfl) (by simp) ?_
              refine AllReadyH.cons (o := _) rfl (fun K hK => ?_) ?_
              · clear hHeld
                go_simp
                first | (refine hK.out _ _ ?_ (fun hHeld => ?_)) | (go_wp2_with fail; refine hK.out _ _ ?_ (fun hHeld => ?_))
                · all_goals trivial
                clear hK K
                refine wpAnyH_ready (rs := [3]) (by kernel_rfl) (by simp) ?_
                refine AllReadyH.cons (o := _) rfl (fun K hK => ?_) AllReadyH.nil
                go_simp
                first | (refine hK.out _ _ ?_ (fun hHeld => ?_)) | (go_wp2_with fail; refine hK.out _ _ ?_ (fun hHeld => ?_))
                · (try dsimp only); (all_goals trivial)
                clear hK K
                refine wpAnyH_ready (rs := [4]) (by kernel_rfl) (by simp) ?_
                refine AllReadyH.cons (o := _) rfl (fun K hK => ?_) AllReadyH.nil
                clear hHeld
                have ga := World.grownBy_alloc wd (.cells #[.string ⟨(dg [121]).toArray⟩] 9) none
                have hn4 := heap_alloc_new wd (.cells #[.string ⟨(dg [121]).toArray⟩] 9)
                have hO : (wd.alloc (.cells #[.string ⟨(dg [121]).toArray⟩] 9)).ownsRow B5 9 1 (.slice (some ⟨k2, 0, none⟩) p c2) PL.length (PL.map fun s => .string ⟨s.toArray⟩) := by
                  rw [← H2.out.1]
                  exact (H2.out.2.kept gn (Classical.em _)).kept ga (Classical.em _)
                have hSX : Strs (wd.alloc (.cells #[.string ⟨(dg [121]).toArray⟩] 9)) (some ⟨wd.heap.size, 0, none⟩) 1 1 [dg [121]] := by
                  refine ⟨rfl, Nat.le_refl _, by decide, fun s hs => ?_, fun _ => ⟨_, rfl, by simp, fun j s hj => ?_⟩⟩
                  · rw [List.mem_singleton] at hs
                    rw [hs, dg_len]; decide
                  · match j, hj with
                    | 0, hj =>
                      simp at hj
                      subst hj
                      exact World.news_of_block (cs := #[.string ⟨(dg [121]).toArray⟩]) (t := 9) (fr := (0, 0)) hn4 0 _ rfl
                have hpl := H2.out.1
                have hsz := gn.size
                refine step_append_strs rfl _ _ rfl B5 (.slice (some ⟨k2, 0, none⟩) p c2) PL (by rfl) hO (some ⟨wd.heap.size, 0, none⟩) 1 1 [dg [121]] (by rfl) hSX (by intro h; cases h) (by omega) (by simp; omega) ?_
                intro v9 w9 hown9 hgrow9 _ hsome9
                rw [show (PL ++ [dg [121]]).length = p + 1 by rw [List.length_append, ← hpl]; rfl] at hown9 hsome9
                rcases hsome9 with e | ⟨g9, c9, rfl⟩
                · cases e
                have hbk : some b ≠ (Value.slice (some ⟨k2, 0, none⟩) p c2).ownBlock := by simp [Value.ownBlock]; omega
                have hbk2 : some (b + 1 + 1) ≠ (Value.slice (some ⟨k2, 0, none⟩) p c2).ownBlock := by simp [Value.ownBlock]; omega
                have hbk3 : some k1 ≠ (Value.slice (some ⟨k2, 0, none⟩) p c2).ownBlock := by simp [Value.ownBlock]; omega
                have gw := gn.trans ga
                have R9 : Hid (Row w9 B5 g9 (p + 1) c9 (PL ++ [dg [121]])) := Lib.hid ⟨by rw [List.length_append, ← hpl]; rfl, hown9⟩
                have C9 : Hid (Cl w9 b n i (.slice (some ⟨k1, 0, none⟩) lm c1) (.slice (some ⟨k2, 0, none⟩) p c2) f t) := Lib.hid ((C5.out.grown gw (by simp)).grown hgrow9 hbk)
                have D9 : Hid (Cl w9 (b + 1 + 1) 0 0 (.slice none 0 0) (.slice none 0 0) [] []) := Lib.hid ((R5.out.grown gw (by simp)).grown hgrow9 hbk2)
                have P9 : Hid (Row w9 (b + 3) k1 lm c1 LL) := Lib.hid ((H1.out.kept gw (by simp)).kept hgrow9 hbk3)
                have G9 : Hid (w.grownBy w9 none) := Lib.hid ((G5.out.trans gw).andThen hgrow9 (fun r e => .inl (by have := Hb.out; simp [Value.ownBlock] at e; omega)))
                have hg9 := R9.out.lt
                have s2 := C9.out.c3
                have sf := C9.out.fz 3
                clear hown9 hgrow9 hbk hbk2 hbk3 gw hO hSX d0 d1 d5 hbw H1 H2 hn4 ga gn hpl hsz
                refine hK.out _ _ ?_ (fun hHeld => ?_)
                · all_goals trivial
                clear hK K
                try go_simp
                refine wpAnyH_take (i := 5) (oi := _) (v := ?_) rfl (by kernel_rfl) (by kernel_rfl) (by kernel_rfl) (fun _ _ _ h => h) (Or.inl ⟨by rfl, ?_⟩) (by assumption) ?_
                rotate_left 1
                · (intro w hSw; (try dsimp only at hSw); go_simp; first | done | with_reducible rfl)
                try go_simp
                refine wpAnyH_ready (rs := [6]) (by kernel_rfl) (by simp) ?_
                refine AllReadyH.cons (o := _) rfl (fun K hK => ?_) AllReadyH.nil
                go_simp
                first | (refine hK.out _ _ ?_ (fun hHeld => ?_)) | (go_wp2_with fail; refine hK.out _ _ ?_ (fun hHeld => ?_))
                · (try dsimp only); (all_goals trivial)
                clear hK K
                refine wpAnyH_done (by kernel_rfl) ?_ _
                refine NoPanic.normal ?_
                go_simp
                clear hHeld
                go_upto_region 19 with fail
                have CC : Hid (Cl (w9.setCell ⟨b, 3, none⟩ (.slice (some ⟨g9, 0, none⟩) (p + 1) c9)) b n i (.slice (some ⟨k1, 0, none⟩) lm c1) (.slice (some ⟨g9, 0, none⟩) (p + 1) c9) f t) := Lib.hid (C9.out.set3 _)
                have RR : Hid (Cl (w9.setCell ⟨b, 3, none⟩ (.slice (some ⟨g9, 0, none⟩) (p + 1) c9)) (b + 1 + 1) 0 0 (.slice none 0 0) (.slice none 0 0) [] []) := Lib.hid (D9.out.grown (grown_setC _ _ _ _) (by simp; omega))
                have GG : Hid (w.grownBy (w9.setCell ⟨b, 3, none⟩ (.slice (some ⟨g9, 0, none⟩) (p + 1) c9)) none) := Lib.hid (G9.out.andThen (grown_setC _ _ _ _) (fun r e => by injection e with e; have := Hb.out; exact .inl (by omega)))
                have SL : Hid (Row (w9.setCell ⟨b, 3, none⟩ (.slice (some ⟨g9, 0, none⟩) (p + 1) c9)) (b + 3) k1 lm c1 LL) := Lib.hid (P9.out.kept (grown_setC _ _ _ _) (by simp; omega))
                have SP : Hid (Row (w9.setCell ⟨b, 3, none⟩ (.slice (some ⟨g9, 0, none⟩) (p + 1) c9)) B5 g9 (p + 1) c9 (PL ++ [dg [121]])) := Lib.hid (R9.out.kept (grown_setC _ _ _ _) (by simp; omega))
                have NE1 : Hid (k1 ≠ b + 1 + 1) := Lib.hid (by omega)
                have NE2 : Hid (g9 ≠ b + 1 + 1) := Lib.hid (by omega)
                have GE1 : Hid (w.heap.size ≤ k1) := Lib.hid (by have := Hb.out; omega)
                have GE2 : Hid (w.heap.size ≤ g9) := Lib.hid (by have := Hb.out; omega)
                have HI1 : Hid (I64 n) := Lib.hid (Hn.out)
                have HI2 : Hid (I64 i) := Lib.hid (Hi.out)
                have HL1 : Hid (∀ s ∈ LL, s.length ≤ 101) := Lib.hid (fun s hs => Nat.le_trans (HLs.out s hs) (by decide))
                have HL2 : Hid (∀ s ∈ (PL ++ [dg [121]]), s.length ≤ 100) := Lib.hid (fun s hs => by
                  rcases List.mem_append.1 hs with h | h
                  · exact HPs.out s h
                  · rw [List.mem_singleton] at h; rw [h, dg_len]; decide)
                have HM1 : Hid (lm ≤ 100) := Lib.hid (by omega)
                have HM2 : Hid ((p + 1) ≤ 101) := Lib.hid (by omega)
                clear C5 Q5 R5 G5 d2 hk2 hb1 s2 sf R9 C9 D9 P9 G9
                generalize (w9.setCell ⟨b, 3, none⟩ (.slice (some ⟨g9, 0, none⟩) (p + 1) c9)) = wz at *
                have y0 := CC.out.c0
                have y1 := CC.out.c1
                have y2 := CC.out.c2
                have y3 := CC.out.c3
                have y4 := CC.out.c4
                have y5 := CC.out.c5
                have z0 := RR.out.c0
                have z1 := RR.out.c1
                have z2 := RR.out.c2
                have z3 := RR.out.c3
                have z4 := RR.out.c4
                have z5 := RR.out.c5
                have x0 := RR.out.fz 0
                have x1 := RR.out.fz 1
                have x2 := RR.out.fz 2
                have x3 := RR.out.fz 3
                have x4 := RR.out.fz 4
                have x5 := RR.out.fz 5
                clear CC
                go_wp2_with fail
                have FIN := fin_claim (f := f) (t := t) SL.out SP.out NE1.out NE2.out GE1.out GE2.out (show w.heap.size ≤ b + 1 + 1 by have := Hb.out; omega) GG.out HI1.out HI2.out HM1.out HM2.out HL1.out HL2.out (.int .i64 n) (.int .i64 i) (.slice (some ⟨k1, 0, none⟩) lm c1) (.slice (some ⟨g9, 0, none⟩) (p + 1) c9) (.string ⟨f.toArray⟩) (.string ⟨t.toArray⟩)
                have EQ := RR.out.setAll n i (.slice (some ⟨k1, 0, none⟩) lm c1) (.slice (some ⟨g9, 0, none⟩) (p + 1) c9) f t
                clear z0 z1 z2 z3 z4 z5 y0 y1 y2 y3 y4 y5 x0 x1 x2 x3 x4 x5
                generalize ((((((wz.setCell ⟨b + 1 + 1, 0, none⟩ (.int .i64 n)).setCell ⟨b + 1 + 1, 1, none⟩ (.int .i64 i)).setCell ⟨b + 1 + 1, 2, none⟩ (.slice (some ⟨k1, 0, none⟩) lm c1)).setCell ⟨b + 1 + 1, 3, none⟩ (.slice (some ⟨g9, 0, none⟩) (p + 1) c9)).setCell ⟨b + 1 + 1, 4, none⟩ (.string ⟨f.toArray⟩)).setCell ⟨b + 1 + 1, 5, none⟩ (.string ⟨t.toArray⟩)) = wy at *
                first | exact ret_claim rfl rfl EQ FIN | exact ret_claim rfl rfl EQ.drew FIN.drew | trace_state
              refine AllReadyH.cons (o := _) rfl (fun K hK => ?_) AllReadyH.nil
              · clear hHeld
                go_simp
                first | (refine hK.out _ _ ?_ (fun hHeld => ?_)) | (go_wp2_with fail; refine hK.out _ _ ?_ (fun hHeld => ?_))
                · all_goals trivial
                clear hK K
                refine wpAnyH_ready (rs := [1]) (by kernel_rfl) (by simp) ?_
                refine AllReadyH.cons (o := _) rfl (fun K hK => ?_) AllReadyH.nil
                go_simp
                first | (refine hK.out _ _ ?_ (fun hHeld => ?_)) | (go_wp2_with fail; refine hK.out _ _ ?_ (fun hHeld => ?_))
                · (try dsimp only); (all_goals trivial)
                clear hK K
                refine wpAnyH_ready (rs := [4]) (by kernel_rfl) (by simp) ?_
                refine AllReadyH.cons (o := _) rfl (fun K hK => ?_) AllReadyH.nil
                clear hHeld
                have ga := World.grownBy_alloc wd (.cells #[.string ⟨(dg [121]).toArray⟩] 9) none
                have hn4 := heap_alloc_new wd (.cells #[.string ⟨(dg [121]).toArray⟩] 9)
                have hO : (wd.alloc (.cells #[.string ⟨(dg [121]).toArray⟩] 9)).ownsRow B5 9 1 (.slice (some ⟨k2, 0, none⟩) p c2) PL.length (PL.map fun s => .string ⟨s.toArray⟩) := by
                  rw [← H2.out.1]
                  exact (H2.out.2.kept gn (Classical.em _)).kept ga (Classical.em _)
                have hSX : Strs (wd.alloc (.cells #[.string ⟨(dg [121]).toArray⟩] 9)) (some ⟨wd.heap.size, 0, none⟩) 1 1 [dg [121]] := by
                  refine ⟨rfl, Nat.le_refl _, by decide, fun s hs => ?_, fun _ => ⟨_, rfl, by simp, fun j s hj => ?_⟩⟩
                  · rw [List.mem_singleton] at hs
                    rw [hs, dg_len]; decide
                  · match j, hj with
                    | 0, hj =>
                      simp at hj
                      subst hj
                      exact World.news_of_block (cs := #[.string ⟨(dg [121]).toArray⟩]) (t := 9) (fr := (0, 0)) hn4 0 _ rfl
                have hpl := H2.out.1
                have hsz := gn.size
                refine step_append_strs rfl _ _ rfl B5 (.slice (some ⟨k2, 0, none⟩) p c2) PL (by rfl) hO (some ⟨wd.heap.size, 0, none⟩) 1 1 [dg [121]] (by rfl) hSX (by intro h; cases h) (by omega) (by simp; omega) ?_
                intro v9 w9 hown9 hgrow9 _ hsome9
                rw [show (PL ++ [dg [121]]).length = p + 1 by rw [List.length_append, ← hpl]; rfl] at hown9 hsome9
                rcases hsome9 with e | ⟨g9, c9, rfl⟩
                · cases e
                have hbk : some b ≠ (Value.slice (some ⟨k2, 0, none⟩) p c2).ownBlock := by simp [Value.ownBlock]; omega
                have hbk2 : some (b + 1 + 1) ≠ (Value.slice (some ⟨k2, 0, none⟩) p c2).ownBlock := by simp [Value.ownBlock]; omega
                have hbk3 : some k1 ≠ (Value.slice (some ⟨k2, 0, none⟩) p c2).ownBlock := by simp [Value.ownBlock]; omega
                have gw := gn.trans ga
                have R9 : Hid (Row w9 B5 g9 (p + 1) c9 (PL ++ [dg [121]])) := Lib.hid ⟨by rw [List.length_append, ← hpl]; rfl, hown9⟩
                have C9 : Hid (Cl w9 b n i (.slice (some ⟨k1, 0, none⟩) lm c1) (.slice (some ⟨k2, 0, none⟩) p c2) f t) := Lib.hid ((C5.out.grown gw (by simp)).grown hgrow9 hbk)
                have D9 : Hid (Cl w9 (b + 1 + 1) 0 0 (.slice none 0 0) (.slice none 0 0) [] []) := Lib.hid ((R5.out.grown gw (by simp)).grown hgrow9 hbk2)
                have P9 : Hid (Row w9 (b + 3) k1 lm c1 LL) := Lib.hid ((H1.out.kept gw (by simp)).kept hgrow9 hbk3)
                have G9 : Hid (w.grownBy w9 none) := Lib.hid ((G5.out.trans gw).andThen hgrow9 (fun r e => .inl (by have := Hb.out; simp [Value.ownBlock] at e; omega)))
                have hg9 := R9.out.lt
                have s2 := C9.out.c3
                have sf := C9.out.fz 3
                clear hown9 hgrow9 hbk hbk2 hbk3 gw hO hSX d0 d1 d5 hbw H1 H2 hn4 ga gn hpl hsz
                refine hK.out _ _ ?_ (fun hHeld => ?_)
                · all_goals trivial
                clear hK K
                try go_simp
                refine wpAnyH_take (i := 5) (oi := _) (v := ?_) rfl (by kernel_rfl) (by kernel_rfl) (by kernel_rfl) (fun _ _ _ h => h) (Or.inl ⟨by rfl, ?_⟩) (by assumption) ?_
                rotate_left 1
                · (intro w hSw; (try dsimp only at hSw); go_simp; first | done | with_reducible rfl)
                try go_simp
                refine wpAnyH_ready (rs := [6]) (by kernel_rfl) (by simp) ?_
                refine AllReadyH.cons (o := _) rfl (fun K hK => ?_) AllReadyH.nil
                go_simp
                first | (refine hK.out _ _ ?_ (fun hHeld => ?_)) | (go_wp2_with fail; refine hK.out _ _ ?_ (fun hHeld => ?_))
                · (try dsimp only); (all_goals trivial)
                clear hK K
                refine wpAnyH_done (by kernel_rfl) ?_ _
                refine NoPanic.normal ?_
                go_simp
                clear hHeld
                go_upto_region 19 with fail
                have CC : Hid (Cl (w9.setCell ⟨b, 3, none⟩ (.slice (some ⟨g9, 0, none⟩) (p + 1) c9)) b n i (.slice (some ⟨k1, 0, none⟩) lm c1) (.slice (some ⟨g9, 0, none⟩) (p + 1) c9) f t) := Lib.hid (C9.out.set3 _)
                have RR : Hid (Cl (w9.setCell ⟨b, 3, none⟩ (.slice (some ⟨g9, 0, none⟩) (p + 1) c9)) (b + 1 + 1) 0 0 (.slice none 0 0) (.slice none 0 0) [] []) := Lib.hid (D9.out.grown (grown_setC _ _ _ _) (by simp; omega))
                have GG : Hid (w.grownBy (w9.setCell ⟨b, 3, none⟩ (.slice (some ⟨g9, 0, none⟩) (p + 1) c9)) none) := Lib.hid (G9.out.andThen (grown_setC _ _ _ _) (fun r e => by injection e with e; have := Hb.out; exact .inl (by omega)))
                have SL : Hid (Row (w9.setCell ⟨b, 3, none⟩ (.slice (some ⟨g9, 0, none⟩) (p + 1) c9)) (b + 3) k1 lm c1 LL) := Lib.hid (P9.out.kept (grown_setC _ _ _ _) (by simp; omega))
                have SP : Hid (Row (w9.setCell ⟨b, 3, none⟩ (.slice (some ⟨g9, 0, none⟩) (p + 1) c9)) B5 g9 (p + 1) c9 (PL ++ [dg [121]])) := Lib.hid (R9.out.kept (grown_setC _ _ _ _) (by simp; omega))
                have NE1 : Hid (k1 ≠ b + 1 + 1) := Lib.hid (by omega)
                have NE2 : Hid (g9 ≠ b + 1 + 1) := Lib.hid (by omega)
                have GE1 : Hid (w.heap.size ≤ k1) := Lib.hid (by have := Hb.out; omega)
                have GE2 : Hid (w.heap.size ≤ g9) := Lib.hid (by have := Hb.out; omega)
                have HI1 : Hid (I64 n) := Lib.hid (Hn.out)
                have HI2 : Hid (I64 i) := Lib.hid (Hi.out)
                have HL1 : Hid (∀ s ∈ LL, s.length ≤ 101) := Lib.hid (fun s hs => Nat.le_trans (HLs.out s hs) (by decide))
                have HL2 : Hid (∀ s ∈ (PL ++ [dg [121]]), s.length ≤ 100) := Lib.hid (fun s hs => by
                  rcases List.mem_append.1 hs with h | h
                  · exact HPs.out s h
                  · rw [List.mem_singleton] at h; rw [h, dg_len]; decide)
                have HM1 : Hid (lm ≤ 100) := Lib.hid (by omega)
                have HM2 : Hid ((p + 1) ≤ 101) := Lib.hid (by omega)
                clear C5 Q5 R5 G5 d2 hk2 hb1 s2 sf R9 C9 D9 P9 G9
                generalize (w9.setCell ⟨b, 3, none⟩ (.slice (some ⟨g9, 0, none⟩) (p + 1) c9)) = wz at *
                have y0 := CC.out.c0
                have y1 := CC.out.c1
                have y2 := CC.out.c2
                have y3 := CC.out.c3
                have y4 := CC.out.c4
                have y5 := CC.out.c5
                have z0 := RR.out.c0
                have z1 := RR.out.c1
                have z2 := RR.out.c2
                have z3 := RR.out.c3
                have z4 := RR.out.c4
                have z5 := RR.out.c5
                have x0 := RR.out.fz 0
                have x1 := RR.out.fz 1
                have x2 := RR.out.fz 2
                have x3 := RR.out.fz 3
                have x4 := RR.out.fz 4
                have x5 := RR.out.fz 5
                clear CC
                go_wp2_with fail
                have FIN := fin_claim (f := f) (t := t) SL.out SP.out NE1.out NE2.out GE1.out GE2.out (show w.heap.size ≤ b + 1 + 1 by have := Hb.out; omega) GG.out HI1.out HI2.out HM1.out HM2.out HL1.out HL2.out (.int .i64 n) (.int .i64 i) (.slice (some ⟨k1, 0, none⟩) lm c1) (.slice (some ⟨g9, 0, none⟩) (p + 1) c9) (.string ⟨f.toArray⟩) (.string ⟨t.toArray⟩)
                have EQ := RR.out.setAll n i (.slice (some ⟨k1, 0, none⟩) lm c1) (.slice (some ⟨g9, 0, none⟩) (p + 1) c9) f t
                clear z0 z1 z2 z3 z4 z5 y0 y1 y2 y3 y4 y5 x0 x1 x2 x3 x4 x5
                generalize ((((((wz.setCell ⟨b + 1 + 1, 0, none⟩ (.int .i64 n)).setCell ⟨b + 1 + 1, 1, none⟩ (.int .i64 i)).setCell ⟨b + 1 + 1, 2, none⟩ (.slice (some ⟨k1, 0, none⟩) lm c1)).setCell ⟨b + 1 + 1, 3, none⟩ (.slice (some ⟨g9, 0, none⟩) (p + 1) c9)).setCell ⟨b + 1 + 1, 4, none⟩ (.string ⟨f.toArray⟩)).setCell ⟨b + 1 + 1, 5, none⟩ (.string ⟨t.toArray⟩)) = wy at *
                first | exact ret_claim rfl rfl EQ FIN | exact ret_claim rfl rfl EQ.drew FIN.drew | trace_state
end Go.Proofs.Ytljjmoeplfcblaa
