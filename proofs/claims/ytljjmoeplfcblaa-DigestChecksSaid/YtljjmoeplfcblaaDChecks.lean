/-
  The law DigestChecks.
-/
import Derived.Test.YtljjmoeplfcblaaRSort
import Derived.Test.YtljjmoeplfcblaaWide
import Derived.Test.YtljjmoeplfcblaaOpn
namespace Go.Proofs.Ytljjmoeplfcblaa
open Go.RowKit Go.Shelf
attribute [local go_sem] get_mk extract_mk
theorem Raw.kept {w w' : World} {A : Option Addr} {n c : Nat} {l : List (List UInt8)} (h : Raw w A n c l) (g : w.grownBy w' none) : Raw w' A n c l :=
  { h with
    cell := fun h0 => by
      obtain ⟨ad, e, hb, hc⟩ := h.cell h0
      exact ⟨ad, e, Nat.lt_of_lt_of_le hb g.size, fun j x hj => g.cell (hc j x hj) (by simp)⟩ }
theorem Raw.few {w : World} {A : Option Addr} {n c : Nat} {l : List (List UInt8)} (h : Raw w A n c l) :
    Calls Try.prog 20 #[.slice A n c] w fun e w' => ∃ v, e = .returned v ∧ w'.ownsRow w.heap.size 9 1 v (fewL l).length ((fewL l).map fun x => .string ⟨x.toArray⟩) ∧ w.grownBy w' none :=
  few_k A c n l w h.len h.cap h.le h.sl h.cell
theorem arL_mem {x : List Str} {a b s : Str} (h : s ∈ (if sortedB x then arT x a b else [])) : s ∈ x := by
  split at h
  · exact List.mem_of_mem_drop (List.mem_of_mem_take h)
  · cases h
theorem arL_len {x : List Str} {a b : Str} : (if sortedB x then arT x a b else []).length ≤ x.length := by
  split
  · unfold arT; rw [List.length_take, List.length_drop]; omega
  · simp
theorem arPL_len {x : List Str} {a b : Str} : (if sortedB x then arP x a b else []).length ≤ 2 * x.length := by
  split
  · unfold arP
    have h1 := proofL_len x (arI x a) (arJ x a b)
    have h2 := least_le x a
    unfold arI at h1 ⊢
    omega
  · simp
theorem arPL_8 {x : List Str} {a b : Str} : ∀ s ∈ (if sortedB x then arP x a b else []), s.length ≤ 8 := fun s hs => by
  split at hs
  · exact pl_8 x _ _ s hs
  · cases hs
theorem arI_le {x : List Str} {a : Str} : (if sortedB x then arI x a else 0) ≤ x.length := by
  have h := least_le x a
  split
  · unfold arI; omega
  · omega
/-- a claim at an offset of a block -/
def ClOk (W : World) (b o : Nat) : Prop :=
  ∃ (N I : Int) (LA : Option Addr) (lm lc : Nat) (LL : List Str) (PA : Option Addr) (p pc : Nat) (PL : List Str) (F T : Str), I64 N ∧ I64 I ∧ W.cell? ⟨b, o, none⟩ = some (.int .i64 N) ∧ W.cell? ⟨b, o + 1, none⟩ = some (.int .i64 I) ∧
    W.cell? ⟨b, o + 2, none⟩ = some (.slice LA lm lc) ∧ W.cell? ⟨b, o + 3, none⟩ = some (.slice PA p pc) ∧ W.cell? ⟨b, o + 4, none⟩ = some (.string ⟨F.toArray⟩) ∧ W.cell? ⟨b, o + 5, none⟩ = some (.string ⟨T.toArray⟩) ∧
    Strs W LA lm lc LL ∧ Strs W PA p pc PL ∧ lm ≤ 1000 ∧ p ≤ 1000 ∧ ∀ s ∈ LL, s.length ≤ 1152921504606846976
theorem ClOk.kept {W W' : World} {b o : Nat} (h : ClOk W b o) (g : W.grownBy W' none) : ClOk W' b o := by
  obtain ⟨N, I, LA, lm, lc, LL, PA, p, pc, PL, F, T, h1, h2, c0, c1, c2, c3, c4, c5, s1, s2, h3, h4, h5⟩ := h
  exact ⟨N, I, LA, lm, lc, LL, PA, p, pc, PL, F, T, h1, h2, gcellR g (by simp) c0, gcellR g (by simp) c1, gcellR g (by simp) c2, gcellR g (by simp) c3, gcellR g (by simp) c4, gcellR g (by simp) c5, s1.kept g, s2.kept g, h3, h4, h5⟩
theorem grown_setRow (w : World) (b : Nat) (cs : Array Value) : w.grownBy (w.setRow b cs) (some b) := by
  refine ⟨rfl, rfl, rfl, by simp [World.setRow], fun k _ hne => ?_⟩
  unfold World.setRow
  rw [Array.getElem?_modify, if_neg (fun e => hne (by rw [e]))]
theorem cell_at {W : World} {b i : Nat} {cs : Array Value} {t : TypeId} {v : Value} (h : W.heap[b]? = some (.cells cs t (0, 0))) (hi : cs[i]? = some v) : W.cell? ⟨b, i, none⟩ = some v := by simp [World.cell?, h, hi]
theorem one24 (n0 n1 n2 n3 m0 m1 m2 m3 : Int) (A0 A1 A2 A3 B0 B1 B2 B3 : Option Addr) (a0 a1 a2 a3 b0 b1 b2 b3 c0 c1 c2 c3 d0 d1 d2 d3 : Nat) (s0 s1 s2 s3 t0 t1 t2 t3 : ByteArray) :
    (#[.int .i64 n0, .int .i64 m0, .slice A0 a0 b0, .slice B0 c0 d0, .string s0, .string t0, .int .i64 n1, .int .i64 m1, .slice A1 a1 b1, .slice B1 c1 d1, .string s1, .string t1, .int .i64 n2, .int .i64 m2, .slice A2 a2 b2, .slice B2 c2 d2, .string s2, .string t2, .int .i64 n3, .int .i64 m3, .slice A3 a3 b3, .slice B3 c3 d3, .string s3, .string t3] : Array Value).all (·.oneCell') = true := by
  simp [Value.oneCell']
theorem own_far {w : World} {b n c : Nat} {A : Option Addr} {xs : List Value} {m : Nat} (h : w.ownsRow b 9 1 (.slice A n c) m xs) : ∀ a, A = some a → b ≤ a.block := by
  rcases h.2 with ⟨e, _⟩ | ⟨g, cap, cur, e, hb, _⟩
  · injection e with e1; intro a ha; rw [e1] at ha; cases ha
  · injection e with e1; intro a ha; rw [e1] at ha; injection ha with ha; subst ha; exact hb
set_option maxRecDepth 100000 in
set_option maxHeartbeats 16000000 in
theorem checks_walk (A : Option Addr) (n c : Nat) (l : List Str) (q0 q1 q2 q3 : Nat) (hq0 : q0 ≤ 255) (hq1 : q1 ≤ 255) (hq2 : q2 ≤ 255) (hq3 : q3 ≤ 255) (cN cI : Int) (hcN : I64 cN) (hcI : I64 cI) (LA : Option Addr) (lm lc : Nat) (LL : List Str) (PA : Option Addr) (pm pc : Nat) (PL : List Str) (a b : Str)
    (_ : a.length ≤ 9223372036854775807) (_ : b.length ≤ 9223372036854775807) (w : World) (hl : Raw w A n c l) (hL : Raw w LA lm lc LL) (hP : Raw w PA pm pc PL) :
    Calls Try.prog 6 #[.slice A n c, .agg #[.int .u8 q0, .int .u8 q1, .int .u8 q2, .int .u8 q3], .agg #[.int .i64 cN, .int .i64 cI, .slice LA lm lc, .slice PA pm pc, .string ⟨a.toArray⟩, .string ⟨b.toArray⟩]] w fun e w' => e = .returned (.bool true) ∧ w.grownBy w' none := by
  have HF1 := Lib.hid (fun w1 (g : w.grownBy w1 none) => (hL.kept g).few)
  have HF2 := Lib.hid (fun w1 (g : w.grownBy w1 none) => (hP.kept g).few)
  have HS := Lib.hid (fun w1 (g : w.grownBy w1 none) => sort_k A n c l w1 hl.len hl.cap hl.le hl.sl (hl.kept g).cell)
  clear hl hL hP
  obtain ⟨B, hB⟩ : ∃ B, w.heap.size = B := ⟨_, rfl⟩
  go_enter Try.func6, Try.ntmps6
  go_wp2_with fail
  have G0 := Lib.hid ((World.grownBy_alloc w (.cells #[.int .u8 q0, .int .u8 q1, .int .u8 q2, .int .u8 q3] 44) none).trans (World.grownBy_alloc _ (.cells #[.int .i64 cN, .int .i64 cI, .slice LA lm lc, .slice PA pm pc, .string ⟨a.toArray⟩, .string ⟨b.toArray⟩] 46) none))
  have HQ0 : Hid (Q4 ((w.alloc (.cells #[.int .u8 q0, .int .u8 q1, .int .u8 q2, .int .u8 q3] 44)).alloc (.cells #[.int .i64 cN, .int .i64 cI, .slice LA lm lc, .slice PA pm pc, .string ⟨a.toArray⟩, .string ⟨b.toArray⟩] 46)) B q0 q1 q2 q3) := Lib.hid (by
    have h1 := World.alloc_heap_new w (.cells #[.int .u8 q0, .int .u8 q1, .int .u8 q2, .int .u8 q3] 44)
    rw [hB] at h1
    exact blk_kept (World.grownBy_alloc (w.alloc (.cells #[.int .u8 q0, .int .u8 q1, .int .u8 q2, .int .u8 q3] 44)) _ none) h1)
  have HC0 : Hid (Cl ((w.alloc (.cells #[.int .u8 q0, .int .u8 q1, .int .u8 q2, .int .u8 q3] 44)).alloc (.cells #[.int .i64 cN, .int .i64 cI, .slice LA lm lc, .slice PA pm pc, .string ⟨a.toArray⟩, .string ⟨b.toArray⟩] 46)) (B + 1) cN cI (.slice LA lm lc) (.slice PA pm pc) a b) := Lib.hid (by
    have h1 := World.alloc_heap_new (w.alloc (.cells #[.int .u8 q0, .int .u8 q1, .int .u8 q2, .int .u8 q3] 44)) (.cells #[.int .i64 cN, .int .i64 cI, .slice LA lm lc, .slice PA pm pc, .string ⟨a.toArray⟩, .string ⟨b.toArray⟩] 46)
    rw [World.size_alloc, hB] at h1
    exact h1)
  generalize ((w.alloc (.cells #[.int .u8 q0, .int .u8 q1, .int .u8 q2, .int .u8 q3] 44)).alloc (.cells #[.int .i64 cN, .int .i64 cI, .slice LA lm lc, .slice PA pm pc, .string ⟨a.toArray⟩, .string ⟨b.toArray⟩] 46)) = w0 at *
  clear hB
  have HQ := Lib.hid (fun W (g : w0.grownBy W none) => HQ0.out.grown g (by simp))
  have HC := Lib.hid (fun W (g : w0.grownBy W none) => HC0.out.grown g (by simp))
  clear HQ0 HC0
  refine (sane_k w0).mono ?_
  rintro e w1 ⟨rfl, g1⟩
  have G1 := Lib.hid g1
  clear g1
  go_wp2_with fail
  refine (HS.out w1 (G0.out.trans G1.out)).mono ?_
  rintro e w2 ⟨XA, xn, xc, rfl, hX, hXN, g2⟩
  have G2 := Lib.hid (G1.out.trans g2)
  have hxl : (sortL (fewL l)).length ≤ 20 := by have := sortL_len (fewL l) []; have := few_len l; unfold sortL; simp at *; omega
  have H12 : Hid (∀ s ∈ sortL (fewL l), s.length ≤ 12) := Lib.hid (fun s hs => few_12 l s (by simpa using sortL_mem (fewL l) [] s hs))
  generalize sortL (fewL l) = x at *
  have Hxn := Lib.hid hX.len
  have hxn : xn ≤ 20 := by rw [hX.len]; exact hxl
  have hxc := hX.le
  have hxcc := hX.cap
  have HXN := Lib.hid hXN
  have HX := Lib.hid (fun W (g : w2.grownBy W none) => hX.kept g)
  have hxsh : Hid (∀ s ∈ x, s.length ≤ 1152921504606846976) := Lib.hid (fun s hs => Nat.le_trans (H12.out s hs) (by decide))
  clear hX hXN G1 g2 HS hxl
  go_wp2_with fail
  refine (root_r XA xn xc x (by omega) hxsh.out w2 (HX.out w2 (World.grownBy.refl _ _))).mono ?_
  rintro e w3 ⟨rfl, g3⟩
  have G3 := Lib.hid (G2.out.trans g3)
  have HX := Lib.hid (fun W (g : w3.grownBy W none) => HX.out W (g3.trans g))
  clear G2 g3
  generalize root x = R at *
  have d0 := (HQ.out w3 G3.out).c0
  have d1 := (HQ.out w3 G3.out).c1
  have e1 : Hid ((q0 : Int) % ((xn : Int) + 1) = ((q0 % (xn + 1) : Nat) : Int)) := Lib.hid (by simp)
  have hi := Nat.mod_lt q0 (show 0 < xn + 1 by omega)
  go_upto_region 5 with fail
  rw [e1.out]
  clear e1
  generalize q0 % (xn + 1) = i at *
  have hix : i ≤ xn := by omega
  have e1 : Hid ((q1 : Int) % ((xn : Int) - (i : Int) + 1) = ((q1 % (xn - i + 1) : Nat) : Int)) := Lib.hid (by
    rw [Int.natCast_emod]; congr 1; omega)
  have hj := Nat.mod_lt q1 (show 0 < xn - i + 1 by omega)
  have s1 : IntKind.i64.wrap ((xn : Int) - (i : Int)) = (xn : Int) - (i : Int) := by rw [IntKind.wrap_i64]; omega
  have s2 : IntKind.i64.wrap ((xn : Int) - (i : Int) + 1) = (xn : Int) - (i : Int) + 1 := by rw [IntKind.wrap_i64]; omega
  have s3 : (0 : Int) < (xn : Int) - (i : Int) + 1 := by omega
  have s4 : ((xn : Int) - (i : Int) + 1 == 0) = false := by rw [beq_eq_false_iff_ne]; omega
  obtain ⟨j, hjd⟩ : ∃ j, i + q1 % (xn - i + 1) = j := ⟨_, rfl⟩
  have hij : i ≤ j := by omega
  have hjx : j ≤ xn := by omega
  have e2 : Hid (wrap64 ((i : Int) + (q1 : Int) % ((xn : Int) - (i : Int) + 1)) = (j : Int)) := Lib.hid (by
    rw [e1.out, ← hjd, Int.natCast_add]
    exact IntWalk.wrap64_in _ (by omega))
  go_upto_region 6 with fail
  rw [e2.out, e1.out]
  clear e1 e2 hjd hj s1 s2 s3 s4 hi d0
  generalize q1 % (xn - i + 1) = q1m at *
  have PK := Lib.hid (prove_r XA xn xc x (by omega) i j hij hjx w3 (HX.out w3 (World.grownBy.refl _ _)) hxsh.out)
  have hpl := proofL_len x i j
  have hp8 := pl_8 x i j
  generalize proofL x i j = P at *
  go_wp2_with fail
  refine PK.out.mono ?_
  rintro e w4 ⟨v4, rfl, o4, g4⟩
  obtain ⟨RA, rc, rfl, HR, HRN⟩ := own_strs' o4 (fun s hs => Nat.le_trans (hp8 s hs) (by decide))
  obtain ⟨rn, hrn⟩ : ∃ k, P.length = k := ⟨_, rfl⟩
  rw [hrn] at HR hpl
  rw [hrn]
  rw [← Hxn.out] at hpl
  have hrn40 : rn ≤ 20 := by omega
  have HRN := Lib.hid HRN
  have Hp8 := Lib.hid hp8
  have HR := Lib.hid (fun W (g : w4.grownBy W none) => HR.kept g)
  have G4 := Lib.hid (G3.out.trans g4)
  have HX := Lib.hid (fun W (g : w4.grownBy W none) => HX.out W (g4.trans g))
  clear PK o4 hrn hp8 hpl g4 G3 d1
  have d1 := (HQ.out w4 G4.out).c1
  have e1 : Hid ((q1 : Int) % ((xn : Int) + 1) = ((q1 % (xn + 1) : Nat) : Int)) := Lib.hid (by simp)
  have hi := Nat.mod_lt q1 (show 0 < xn + 1 by omega)
  go_upto_region 8 with fail
  rw [e1.out]
  clear e1
  generalize q1 % (xn + 1) = m at *
  have hmx : m ≤ xn := by omega
  have PK := Lib.hid (grow_r XA xn xc x (by omega) m hmx w4 (HX.out w4 (World.grownBy.refl _ _)) hxsh.out)
  have hpl := proofL_len x m m
  have hp8 := pl_8 x m m
  generalize proofL x m m = Gr at *
  clear d1 hi
  go_wp2_with fail
  refine PK.out.mono ?_
  rintro e w5 ⟨v5, rfl, o5, g5⟩
  obtain ⟨GA, gc, rfl, HGr, HGN⟩ := own_strs' o5 (fun s hs => Nat.le_trans (hp8 s hs) (by decide))
  obtain ⟨gn, hgn⟩ : ∃ k, Gr.length = k := ⟨_, rfl⟩
  rw [hgn] at HGr hpl
  rw [hgn]
  rw [← Hxn.out] at hpl
  have hgn40 : gn ≤ 20 := by omega
  have HGN := Lib.hid HGN
  have Hg8 := Lib.hid hp8
  have HGr := Lib.hid (fun W (g : w5.grownBy W none) => HGr.kept g)
  have G5 := Lib.hid (G4.out.trans g5)
  have HX := Lib.hid (fun W (g : w5.grownBy W none) => HX.out W (g5.trans g))
  have HR := Lib.hid (fun W (g : w5.grownBy W none) => HR.out W (g5.trans g))
  clear PK o5 hgn hp8 hpl g5 G4
  have t1 : (m : Int) ≤ (xc : Int) := by omega
  go_wp2_with fail
  refine (root_r XA m xc (x.take m) (by omega) (fun s hs => hxsh.out s (List.mem_of_mem_take hs)) w5 ((HX.out w5 (World.grownBy.refl _ _)).take hmx)).mono ?_
  rintro e w6 ⟨rfl, g6⟩
  have G6 := Lib.hid (G5.out.trans g6)
  have HX := Lib.hid (fun W (g : w6.grownBy W none) => HX.out W (g6.trans g))
  have HR := Lib.hid (fun W (g : w6.grownBy W none) => HR.out W (g6.trans g))
  have HGr := Lib.hid (fun W (g : w6.grownBy W none) => HGr.out W (g6.trans g))
  clear g6 G5 t1
  generalize root (x.take m) = Old at *
  have s0 := (HC.out w6 G6.out).c4
  have s1 := (HC.out w6 G6.out).c5
  obtain ⟨ka, hka, ka1, ka2⟩ := min12 a
  obtain ⟨kb, hkb, kb1, kb2⟩ := min12 b
  go_upto_region 10 with fail
  refine wp_region_noPanic ?_
  refine wp_region_held_drew (S := (fun w' => w6.grownBy w' none)) (by kernel_rfl) ?_ (fun hHeld => ?_)
  · (try dsimp only); (repeat (first | assumption | exact World.grownBy.refl _ _ | refine grown_drR ?_ | refine grown_alR ?_))
  refine wpAnyH_take (i := 0) (oi := _) (v := ?_) rfl (by as_aux_lemma => kernel_rfl) (by as_aux_lemma => kernel_rfl) (by as_aux_lemma => kernel_rfl) (fun _ _ _ h => h) (Or.inl ⟨by rfl, ?_⟩) (by assumption) ?_
  rotate_left 1
  · (intro w hSw; (try dsimp only at hSw); go_simp; first | done | with_reducible rfl)
  try go_simp
  refine wpAnyH_take (i := 1) (oi := _) (v := .string ⟨a.toArray⟩) rfl (by as_aux_lemma => kernel_rfl) (by as_aux_lemma => kernel_rfl) (by as_aux_lemma => kernel_rfl) (fun _ _ _ h => h) (Or.inl ⟨by kernel_rfl, ?_⟩) (by assumption) ?_
  · (intro w hSw; (try dsimp only at hSw); go_simp; have y := gcellR hSw (by simp) s0; clear hSw; go_simp; first | done | with_reducible rfl)
  try go_simp
  refine wpAnyH_take (i := 2) (oi := _) (v := ?_) rfl (by as_aux_lemma => kernel_rfl) (by as_aux_lemma => kernel_rfl) (by as_aux_lemma => kernel_rfl) (fun _ _ _ h => h) (Or.inl ⟨by rfl, ?_⟩) (by assumption) ?_
  rotate_left 1
  · (intro w hSw; (try dsimp only at hSw); go_simp; first | done | with_reducible rfl)
  try go_simp
  refine wpAnyH_take (i := 3) (oi := _) (v := .string ⟨a.toArray⟩) rfl (by as_aux_lemma => kernel_rfl) (by as_aux_lemma => kernel_rfl) (by as_aux_lemma => kernel_rfl) (fun _ _ _ h => h) (Or.inl ⟨by kernel_rfl, ?_⟩) (by assumption) ?_
  · (intro w hSw; (try dsimp only at hSw); go_simp; have y := gcellR hSw (by simp) s0; clear hSw; go_simp; first | done | with_reducible rfl)
  try go_simp
  refine wpAnyH_take (i := 4) (oi := _) (v := ?_) rfl (by as_aux_lemma => kernel_rfl) (by as_aux_lemma => kernel_rfl) (by as_aux_lemma => kernel_rfl) (fun _ _ _ h => h) (Or.inl ⟨by rfl, ?_⟩) (by assumption) ?_
  rotate_left 1
  · (intro w hSw; (try dsimp only at hSw); go_simp; first | done | with_reducible rfl)
  try go_simp
  refine wpAnyH_take (i := 5) (oi := _) (v := .int .i64 (ka : Int)) rfl (by as_aux_lemma => kernel_rfl) (by as_aux_lemma => kernel_rfl) (by as_aux_lemma => kernel_rfl) (fun _ _ _ h => h) (Or.inl ⟨by kernel_rfl, ?_⟩) (by assumption) ?_
  · (intro w hSw; (try dsimp only at hSw); go_simp; first | done | with_reducible rfl)
  try go_simp
  refine wpAnyH_take (i := 6) (oi := _) (v := .string ⟨(a.take ka).toArray⟩) rfl (by as_aux_lemma => kernel_rfl) (by as_aux_lemma => kernel_rfl) (by as_aux_lemma => kernel_rfl) (fun _ _ _ h => h) (Or.inl ⟨by kernel_rfl, ?_⟩) (by assumption) ?_
  · (intro w hSw; (try dsimp only at hSw); go_simp; first | done | with_reducible rfl)
  try go_simp
  refine wpAnyH_take (i := 7) (oi := _) (v := ?_) rfl (by as_aux_lemma => kernel_rfl) (by as_aux_lemma => kernel_rfl) (by as_aux_lemma => kernel_rfl) (fun _ _ _ h => h) (Or.inl ⟨by rfl, ?_⟩) (by assumption) ?_
  rotate_left 1
  · (intro w hSw; (try dsimp only at hSw); go_simp; first | done | with_reducible rfl)
  try go_simp
  refine wpAnyH_take (i := 8) (oi := _) (v := .string ⟨b.toArray⟩) rfl (by as_aux_lemma => kernel_rfl) (by as_aux_lemma => kernel_rfl) (by as_aux_lemma => kernel_rfl) (fun _ _ _ h => h) (Or.inl ⟨by kernel_rfl, ?_⟩) (by assumption) ?_
  · (intro w hSw; (try dsimp only at hSw); go_simp; have y := gcellR hSw (by simp) s1; clear hSw; go_simp; first | done | with_reducible rfl)
  try go_simp
  refine wpAnyH_take (i := 9) (oi := _) (v := ?_) rfl (by as_aux_lemma => kernel_rfl) (by as_aux_lemma => kernel_rfl) (by as_aux_lemma => kernel_rfl) (fun _ _ _ h => h) (Or.inl ⟨by rfl, ?_⟩) (by assumption) ?_
  rotate_left 1
  · (intro w hSw; (try dsimp only at hSw); go_simp; first | done | with_reducible rfl)
  try go_simp
  refine wpAnyH_take (i := 10) (oi := _) (v := .string ⟨b.toArray⟩) rfl (by as_aux_lemma => kernel_rfl) (by as_aux_lemma => kernel_rfl) (by as_aux_lemma => kernel_rfl) (fun _ _ _ h => h) (Or.inl ⟨by kernel_rfl, ?_⟩) (by assumption) ?_
  · (intro w hSw; (try dsimp only at hSw); go_simp; have y := gcellR hSw (by simp) s1; clear hSw; go_simp; first | done | with_reducible rfl)
  try go_simp
  refine wpAnyH_take (i := 11) (oi := _) (v := ?_) rfl (by as_aux_lemma => kernel_rfl) (by as_aux_lemma => kernel_rfl) (by as_aux_lemma => kernel_rfl) (fun _ _ _ h => h) (Or.inl ⟨by rfl, ?_⟩) (by assumption) ?_
  rotate_left 1
  · (intro w hSw; (try dsimp only at hSw); go_simp; first | done | with_reducible rfl)
  try go_simp
  refine wpAnyH_take (i := 12) (oi := _) (v := .int .i64 (kb : Int)) rfl (by as_aux_lemma => kernel_rfl) (by as_aux_lemma => kernel_rfl) (by as_aux_lemma => kernel_rfl) (fun _ _ _ h => h) (Or.inl ⟨by kernel_rfl, ?_⟩) (by assumption) ?_
  · (intro w hSw; (try dsimp only at hSw); go_simp; first | done | with_reducible rfl)
  try go_simp
  refine wpAnyH_take (i := 13) (oi := _) (v := .string ⟨(b.take kb).toArray⟩) rfl (by as_aux_lemma => kernel_rfl) (by as_aux_lemma => kernel_rfl) (by as_aux_lemma => kernel_rfl) (fun _ _ _ h => h) (Or.inl ⟨by kernel_rfl, ?_⟩) (by assumption) ?_
  · (intro w hSw; (try dsimp only at hSw); go_simp; first | done | with_reducible rfl)
  try go_simp
  refine wpAnyH_take (i := 14) (oi := _) (v := ?_) rfl (by as_aux_lemma => kernel_rfl) (by as_aux_lemma => kernel_rfl) (by as_aux_lemma => kernel_rfl) (fun _ _ _ h => h) (Or.inl ⟨by rfl, ?_⟩) (by assumption) ?_
  rotate_left 1
  · (intro w hSw; (try dsimp only at hSw); go_simp; first | done | with_reducible rfl)
  try go_simp
  refine wpAnyH_take (i := 15) (oi := _) (v := ?_) rfl (by as_aux_lemma => kernel_rfl) (by as_aux_lemma => kernel_rfl) (by as_aux_lemma => kernel_rfl) (fun _ _ _ h => h) (Or.inl ⟨by rfl, ?_⟩) (by assumption) ?_
  rotate_left 1
  · (intro w hSw; (try dsimp only at hSw); go_simp; first | done | with_reducible rfl)
  try go_simp
  refine wpAnyH_done (by as_aux_lemma => kernel_rfl) ?_ _
  refine NoPanic.normal ?_
  go_simp
  clear hHeld s0 s1 hka hkb ka1 kb1
  have g7 : w6.grownBy w6.drew none := grown_dr (World.grownBy.refl _ _)
  have hal : (a.take ka).length ≤ 12 := by rw [List.length_take]; omega
  have hbl : (b.take kb).length ≤ 12 := by rw [List.length_take]; omega
  generalize a.take ka = a1 at *
  generalize b.take kb = b1 at *
  have AR := Lib.hid (around_ra XA xn xc x a1 b1 (by omega) HXN.out hxsh.out w6.drew (HX.out w6.drew g7))
  have hT1 : Hid (∀ s ∈ (if sortedB x then arT x a1 b1 else []), s ∈ x) := Lib.hid (fun s hs => arL_mem hs)
  have hT2 := arL_len (x := x) (a := a1) (b := b1)
  have hP1 := arPL_len (x := x) (a := a1) (b := b1)
  have hP2 : Hid (∀ s ∈ (if sortedB x then arP x a1 b1 else []), s.length ≤ 8) := Lib.hid arPL_8
  have hI1 := arI_le (x := x) (a := a1)
  rw [← Hxn.out] at hT2 hP1 hI1
  generalize (if sortedB x then arI x a1 else 0) = I2 at *
  generalize (if sortedB x then arT x a1 b1 else []) = T2 at *
  generalize (if sortedB x then arP x a1 b1 else []) = P2 at *
  generalize sortedB x = sb at *
  go_wp2_with fail
  refine AR.out.mono ?_
  rintro e w8 ⟨TA, tn, tc, YA, yn, yc, rfl, HT, HY, HTN, HYN, g8⟩
  have htn : tn ≤ 20 := by have := HT.len; omega
  have hyn : yn ≤ 40 := by have := HY.len; omega
  have htc := HT.le
  have G8 := Lib.hid (G6.out.trans (g7.trans g8))
  have HX := Lib.hid (fun W (g : w8.grownBy W none) => HX.out W ((g7.trans g8).trans g))
  have HR := Lib.hid (fun W (g : w8.grownBy W none) => HR.out W ((g7.trans g8).trans g))
  have HGr := Lib.hid (fun W (g : w8.grownBy W none) => HGr.out W ((g7.trans g8).trans g))
  have HT := Lib.hid (fun W (g : w8.grownBy W none) => HT.kept g)
  have HY := Lib.hid (fun W (g : w8.grownBy W none) => HY.kept g)
  have HTN := Lib.hid HTN
  have HYN := Lib.hid HYN
  clear AR g7 g8 G6 hT2 hP1
  go_upto_region 12 with fail
  obtain ⟨SA2, hsl⟩ : ∃ S, (if xc = i then XA else XA.map fun a => a.add i) = S := ⟨_, rfl⟩
  have HSl : Hid (∀ W, w8.grownBy W none → Strs W SA2 (j - i) (xc - i) ((x.take j).drop i)) := Lib.hid (fun W g => by
    have := ((HX.out W g).take hjx).drop hij
    rwa [hsl] at this)
  have HSN : Hid (SA2 = none → xc - i = 0) := Lib.hid (fun e => by
    by_cases h : xc = i
    · omega
    · rw [if_neg h] at hsl
      cases XA with
      | none => have := HXN.out rfl; omega
      | some ad => rw [← hsl] at e; cases e)
  have HLs : Hid (∀ s ∈ ((x.take j).drop i), s.length ≤ 100) := Lib.hid (fun s hs => Nat.le_trans (H12.out s (List.mem_of_mem_take (List.mem_of_mem_drop hs))) (by decide))
  have HPs : Hid (∀ s ∈ P, s.length ≤ 100) := Lib.hid (fun s hs => Nat.le_trans (Hp8.out s hs) (by decide))
  have Hf1 := few_len LL
  have Hf2 := few_12 LL
  have He1 := few_len PL
  have He2 := few_12 PL
  generalize fewL LL = fl1 at *
  generalize fewL PL = fl2 at *
  have Hf2 := Lib.hid Hf2
  have He2 := Lib.hid He2
  have c0 := (HC.out w8 G8.out).c0
  have c1 := (HC.out w8 G8.out).c1
  have c2 := (HC.out w8 G8.out).c2
  have c3 := (HC.out w8 G8.out).c3
  have r0 := (HQ.out w8 G8.out).c0
  have r1 := (HQ.out w8 G8.out).c1
  have r2 := (HQ.out w8 G8.out).c2
  have r3 := (HQ.out w8 G8.out).c3
  have t1 : (i : Int) ≤ (j : Int) := by omega
  have t2 : (j : Int) ≤ (xc : Int) := by omega
  have HW8 := Lib.hid (G0.out.trans G8.out)
  have g9 : w8.grownBy w8.drew none := grown_dr (World.grownBy.refl _ _)
  go_cut [24] (fun q wx => ∃ b, q = .pointer (some ⟨b, 0, none⟩) ∧ w8.grownBy wx none ∧ ∀ k : Nat, k < 4 → ClOk wx b (k * 6))
  case first =>
    refine wp_region_noPanic ?_
    refine wp_region_held_drew (S := (fun w' => w8.grownBy w' none)) (by kernel_rfl) ?_ (fun hHeld => ?_)
    · (try dsimp only); (repeat (first | assumption | exact World.grownBy.refl _ _ | refine grown_drR ?_ | refine grown_alR ?_))
    have HSl := Lib.hid (fun W (g : w8.drew.grownBy W none) => HSl.out W (g9.trans g))
    have HR := Lib.hid (fun W (g : w8.drew.grownBy W none) => HR.out W (g9.trans g))
    have HT := Lib.hid (fun W (g : w8.drew.grownBy W none) => HT.out W (g9.trans g))
    have HY := Lib.hid (fun W (g : w8.drew.grownBy W none) => HY.out W (g9.trans g))
    generalize w8.drew = yd at *
    refine wpAnyH_take (i := 0) (oi := _) (v := ?_) rfl (by as_aux_lemma => kernel_rfl) (by as_aux_lemma => kernel_rfl) (by as_aux_lemma => kernel_rfl) (fun _ _ _ h => h) (Or.inl ⟨by rfl, ?_⟩) (by assumption) ?_
    rotate_left 1
    · (intro w hSw; (try dsimp only at hSw); go_simp; first | done | with_reducible rfl)
    try go_simp
    refine wpAnyH_take (i := 1) (oi := _) (v := ?_) rfl (by as_aux_lemma => kernel_rfl) (by as_aux_lemma => kernel_rfl) (by as_aux_lemma => kernel_rfl) (fun _ _ _ h => h) (Or.inl ⟨by rfl, ?_⟩) (by assumption) ?_
    rotate_left 1
    · (intro w hSw; (try dsimp only at hSw); go_simp; first | done | with_reducible rfl)
    try go_simp
    refine wpAnyH_take (i := 2) (oi := _) (v := ?_) rfl (by as_aux_lemma => kernel_rfl) (by as_aux_lemma => kernel_rfl) (by as_aux_lemma => kernel_rfl) (fun _ _ _ h => h) (Or.inl ⟨by rfl, ?_⟩) (by assumption) ?_
    rotate_left 1
    · (intro w hSw; (try dsimp only at hSw); go_simp; first | done | with_reducible rfl)
    try go_simp
    refine wpAnyH_take (i := 3) (oi := _) (v := ?_) rfl (by as_aux_lemma => kernel_rfl) (by as_aux_lemma => kernel_rfl) (by as_aux_lemma => kernel_rfl) (fun _ _ _ h => h) (Or.inl ⟨by rfl, ?_⟩) (by assumption) ?_
    rotate_left 1
    · (intro w hSw; (try dsimp only at hSw); go_simp; first | done | with_reducible rfl)
    try go_simp
    refine wpAnyH_take (i := 4) (oi := _) (v := ?_) rfl (by as_aux_lemma => kernel_rfl) (by as_aux_lemma => kernel_rfl) (by as_aux_lemma => kernel_rfl) (fun _ _ _ h => h) (Or.inl ⟨by rfl, ?_⟩) (by assumption) ?_
    rotate_left 1
    · (intro w hSw; (try dsimp only at hSw); go_simp; first | done | with_reducible rfl)
    try go_simp
    refine wpAnyH_take (i := 5) (oi := _) (v := ?_) rfl (by as_aux_lemma => kernel_rfl) (by as_aux_lemma => kernel_rfl) (by as_aux_lemma => kernel_rfl) (fun _ _ _ h => h) (Or.inl ⟨by rfl, ?_⟩) (by assumption) ?_
    rotate_left 1
    · (intro w hSw; (try dsimp only at hSw); go_simp; first | done | with_reducible rfl)
    try go_simp
    refine wpAnyH_take (i := 6) (oi := _) (v := .slice SA2 (j - i) (xc - i)) rfl (by as_aux_lemma => kernel_rfl) (by as_aux_lemma => kernel_rfl) (by as_aux_lemma => kernel_rfl) (fun _ _ _ h => h) (Or.inl ⟨by kernel_rfl, ?_⟩) (by assumption) ?_
    · (intro w hSw; (try dsimp only at hSw); go_simp; first | done | with_reducible rfl)
    try go_simp
    refine wpAnyH_take (i := 7) (oi := _) (v := ?_) rfl (by as_aux_lemma => kernel_rfl) (by as_aux_lemma => kernel_rfl) (by as_aux_lemma => kernel_rfl) (fun _ _ _ h => h) (Or.inl ⟨by rfl, ?_⟩) (by assumption) ?_
    rotate_left 1
    · (intro w hSw; (try dsimp only at hSw); go_simp; first | done | with_reducible rfl)
    try go_simp
    refine wpAnyH_take (i := 8) (oi := _) (v := ?_) rfl (by as_aux_lemma => kernel_rfl) (by as_aux_lemma => kernel_rfl) (by as_aux_lemma => kernel_rfl) (fun _ _ _ h => h) (Or.inl ⟨by rfl, ?_⟩) (by assumption) ?_
    rotate_left 1
    · (intro w hSw; (try dsimp only at hSw); go_simp; first | done | with_reducible rfl)
    try go_simp
    refine wpAnyH_take (i := 9) (oi := _) (v := ?_) rfl (by as_aux_lemma => kernel_rfl) (by as_aux_lemma => kernel_rfl) (by as_aux_lemma => kernel_rfl) (fun _ _ _ h => h) (Or.inl ⟨by rfl, ?_⟩) (by assumption) ?_
    rotate_left 1
    · (intro w hSw; (try dsimp only at hSw); go_simp; first | done | with_reducible rfl)
    try go_simp
    refine wpAnyH_take (i := 10) (oi := _) (v := ?_) rfl (by as_aux_lemma => kernel_rfl) (by as_aux_lemma => kernel_rfl) (by as_aux_lemma => kernel_rfl) (fun _ _ _ h => h) (Or.inl ⟨by rfl, ?_⟩) (by assumption) ?_
    rotate_left 1
    · (intro w hSw; (try dsimp only at hSw); go_simp; first | done | with_reducible rfl)
    try go_simp
    refine wpAnyH_take (i := 11) (oi := _) (v := ?_) rfl (by as_aux_lemma => kernel_rfl) (by as_aux_lemma => kernel_rfl) (by as_aux_lemma => kernel_rfl) (fun _ _ _ h => h) (Or.inl ⟨by rfl, ?_⟩) (by assumption) ?_
    rotate_left 1
    · (intro w hSw; (try dsimp only at hSw); go_simp; first | done | with_reducible rfl)
    try go_simp
    refine wpAnyH_take (i := 12) (oi := _) (v := ?_) rfl (by as_aux_lemma => kernel_rfl) (by as_aux_lemma => kernel_rfl) (by as_aux_lemma => kernel_rfl) (fun _ _ _ h => h) (Or.inl ⟨by rfl, ?_⟩) (by assumption) ?_
    rotate_left 1
    · (intro w hSw; (try dsimp only at hSw); go_simp; first | done | with_reducible rfl)
    try go_simp
    refine wpAnyH_take (i := 13) (oi := _) (v := ?_) rfl (by as_aux_lemma => kernel_rfl) (by as_aux_lemma => kernel_rfl) (by as_aux_lemma => kernel_rfl) (fun _ _ _ h => h) (Or.inl ⟨by rfl, ?_⟩) (by assumption) ?_
    rotate_left 1
    · (intro w hSw; (try dsimp only at hSw); go_simp; first | done | with_reducible rfl)
    try go_simp
    refine wpAnyH_take (i := 14) (oi := _) (v := ?_) rfl (by as_aux_lemma => kernel_rfl) (by as_aux_lemma => kernel_rfl) (by as_aux_lemma => kernel_rfl) (fun _ _ _ h => h) (Or.inl ⟨by rfl, ?_⟩) (by assumption) ?_
    rotate_left 1
    · (intro w hSw; (try dsimp only at hSw); go_simp; first | done | with_reducible rfl)
    try go_simp
    refine wpAnyH_take (i := 15) (oi := _) (v := ?_) rfl (by as_aux_lemma => kernel_rfl) (by as_aux_lemma => kernel_rfl) (by as_aux_lemma => kernel_rfl) (fun _ _ _ h => h) (Or.inl ⟨by rfl, ?_⟩) (by assumption) ?_
    rotate_left 1
    · (intro w hSw; (try dsimp only at hSw); go_simp; first | done | with_reducible rfl)
    try go_simp
    refine wpAnyH_take (i := 16) (oi := _) (v := ?_) rfl (by as_aux_lemma => kernel_rfl) (by as_aux_lemma => kernel_rfl) (by as_aux_lemma => kernel_rfl) (fun _ _ _ h => h) (Or.inl ⟨by rfl, ?_⟩) (by assumption) ?_
    rotate_left 1
    · (intro w hSw; (try dsimp only at hSw); go_simp; first | done | with_reducible rfl)
    try go_simp
    refine wpAnyH_take (i := 17) (oi := _) (v := ?_) rfl (by as_aux_lemma => kernel_rfl) (by as_aux_lemma => kernel_rfl) (by as_aux_lemma => kernel_rfl) (fun _ _ _ h => h) (Or.inl ⟨by rfl, ?_⟩) (by assumption) ?_
    rotate_left 1
    · (intro w hSw; (try dsimp only at hSw); go_simp; first | done | with_reducible rfl)
    try go_simp
    refine wpAnyH_take (i := 18) (oi := _) (v := ?_) rfl (by as_aux_lemma => kernel_rfl) (by as_aux_lemma => kernel_rfl) (by as_aux_lemma => kernel_rfl) (fun _ _ _ h => h) (Or.inl ⟨by rfl, ?_⟩) (by assumption) ?_
    rotate_left 1
    · (intro w hSw; (try dsimp only at hSw); go_simp; first | done | with_reducible rfl)
    try go_simp
    refine wpAnyH_take (i := 19) (oi := _) (v := ?_) rfl (by as_aux_lemma => kernel_rfl) (by as_aux_lemma => kernel_rfl) (by as_aux_lemma => kernel_rfl) (fun _ _ _ h => h) (Or.inl ⟨by rfl, ?_⟩) (by assumption) ?_
    rotate_left 1
    · (intro w hSw; (try dsimp only at hSw); go_simp; first | done | with_reducible rfl)
    try go_simp
    refine wpAnyH_take (i := 20) (oi := _) (v := .int .i64 cN) rfl (by as_aux_lemma => kernel_rfl) (by as_aux_lemma => kernel_rfl) (by as_aux_lemma => kernel_rfl) (fun _ _ _ h => h) (Or.inl ⟨by kernel_rfl, ?_⟩) (by assumption) ?_
    · (intro w hSw; (try dsimp only at hSw); go_simp; have y := gcellR hSw (by simp) c0; clear hSw; go_simp; first | done | with_reducible rfl)
    try go_simp
    refine wpAnyH_take (i := 21) (oi := _) (v := ?_) rfl (by as_aux_lemma => kernel_rfl) (by as_aux_lemma => kernel_rfl) (by as_aux_lemma => kernel_rfl) (fun _ _ _ h => h) (Or.inl ⟨by rfl, ?_⟩) (by assumption) ?_
    rotate_left 1
    · (intro w hSw; (try dsimp only at hSw); go_simp; first | done | with_reducible rfl)
    try go_simp
    refine wpAnyH_take (i := 22) (oi := _) (v := .int .i64 cI) rfl (by as_aux_lemma => kernel_rfl) (by as_aux_lemma => kernel_rfl) (by as_aux_lemma => kernel_rfl) (fun _ _ _ h => h) (Or.inl ⟨by kernel_rfl, ?_⟩) (by assumption) ?_
    · (intro w hSw; (try dsimp only at hSw); go_simp; have y := gcellR hSw (by simp) c1; clear hSw; go_simp; first | done | with_reducible rfl)
    try go_simp
    refine wpAnyH_take (i := 23) (oi := _) (v := ?_) rfl (by as_aux_lemma => kernel_rfl) (by as_aux_lemma => kernel_rfl) (by as_aux_lemma => kernel_rfl) (fun _ _ _ h => h) (Or.inl ⟨by rfl, ?_⟩) (by assumption) ?_
    rotate_left 1
    · (intro w hSw; (try dsimp only at hSw); go_simp; first | done | with_reducible rfl)
    try go_simp
    refine wpAnyH_take (i := 24) (oi := _) (v := .slice LA lm lc) rfl (by as_aux_lemma => kernel_rfl) (by as_aux_lemma => kernel_rfl) (by as_aux_lemma => kernel_rfl) (fun _ _ _ h => h) (Or.inl ⟨by kernel_rfl, ?_⟩) (by assumption) ?_
    · (intro w hSw; (try dsimp only at hSw); go_simp; have y := gcellR hSw (by simp) c2; clear hSw; go_simp; first | done | with_reducible rfl)
    try go_simp
    refine wpAnyH_take (i := 26) (oi := _) (v := ?_) rfl (by as_aux_lemma => kernel_rfl) (by as_aux_lemma => kernel_rfl) (by as_aux_lemma => kernel_rfl) (fun _ _ _ h => h) (Or.inl ⟨by rfl, ?_⟩) (by assumption) ?_
    rotate_left 1
    · (intro w hSw; (try dsimp only at hSw); go_simp; first | done | with_reducible rfl)
    try go_simp
    refine wpAnyH_take (i := 27) (oi := _) (v := .slice PA pm pc) rfl (by as_aux_lemma => kernel_rfl) (by as_aux_lemma => kernel_rfl) (by as_aux_lemma => kernel_rfl) (fun _ _ _ h => h) (Or.inl ⟨by kernel_rfl, ?_⟩) (by assumption) ?_
    · (intro w hSw; (try dsimp only at hSw); go_simp; have y := gcellR hSw (by simp) c3; clear hSw; go_simp; first | done | with_reducible rfl)
    try go_simp
    refine wpAnyH_take (i := 29) (oi := _) (v := ?_) rfl (by as_aux_lemma => kernel_rfl) (by as_aux_lemma => kernel_rfl) (by as_aux_lemma => kernel_rfl) (fun _ _ _ h => h) (Or.inl ⟨by rfl, ?_⟩) (by assumption) ?_
    rotate_left 1
    · (intro w hSw; (try dsimp only at hSw); go_simp; first | done | with_reducible rfl)
    try go_simp
    refine wpAnyH_take (i := 30) (oi := _) (v := ?_) rfl (by as_aux_lemma => kernel_rfl) (by as_aux_lemma => kernel_rfl) (by as_aux_lemma => kernel_rfl) (fun _ _ _ h => h) (Or.inl ⟨by rfl, ?_⟩) (by assumption) ?_
    rotate_left 1
    · (intro w hSw; (try dsimp only at hSw); go_simp; first | done | with_reducible rfl)
    try go_simp
    refine wpAnyH_take (i := 32) (oi := _) (v := ?_) rfl (by as_aux_lemma => kernel_rfl) (by as_aux_lemma => kernel_rfl) (by as_aux_lemma => kernel_rfl) (fun _ _ _ h => h) (Or.inl ⟨by rfl, ?_⟩) (by assumption) ?_
    rotate_left 1
    · (intro w hSw; (try dsimp only at hSw); go_simp; first | done | with_reducible rfl)
    try go_simp
    refine wpAnyH_take (i := 33) (oi := _) (v := ?_) rfl (by as_aux_lemma => kernel_rfl) (by as_aux_lemma => kernel_rfl) (by as_aux_lemma => kernel_rfl) (fun _ _ _ h => h) (Or.inl ⟨by rfl, ?_⟩) (by assumption) ?_
    rotate_left 1
    · (intro w hSw; (try dsimp only at hSw); go_simp; first | done | with_reducible rfl)
    try go_simp
    refine wpAnyH_take (i := 34) (oi := _) (v := ?_) rfl (by as_aux_lemma => kernel_rfl) (by as_aux_lemma => kernel_rfl) (by as_aux_lemma => kernel_rfl) (fun _ _ _ h => h) (Or.inl ⟨by rfl, ?_⟩) (by assumption) ?_
    rotate_left 1
    · (intro w hSw; (try dsimp only at hSw); go_simp; first | done | with_reducible rfl)
    try go_simp
    refine wpAnyH_take (i := 35) (oi := _) (v := ?_) rfl (by as_aux_lemma => kernel_rfl) (by as_aux_lemma => kernel_rfl) (by as_aux_lemma => kernel_rfl) (fun _ _ _ h => h) (Or.inl ⟨by rfl, ?_⟩) (by assumption) ?_
    rotate_left 1
    · (intro w hSw; (try dsimp only at hSw); go_simp; first | done | with_reducible rfl)
    try go_simp
    refine wpAnyH_take (i := 36) (oi := _) (v := ?_) rfl (by as_aux_lemma => kernel_rfl) (by as_aux_lemma => kernel_rfl) (by as_aux_lemma => kernel_rfl) (fun _ _ _ h => h) (Or.inl ⟨by rfl, ?_⟩) (by assumption) ?_
    rotate_left 1
    · (intro w hSw; (try dsimp only at hSw); go_simp; first | done | with_reducible rfl)
    try go_simp
    refine wpAnyH_take (i := 37) (oi := _) (v := ?_) rfl (by as_aux_lemma => kernel_rfl) (by as_aux_lemma => kernel_rfl) (by as_aux_lemma => kernel_rfl) (fun _ _ _ h => h) (Or.inl ⟨by rfl, ?_⟩) (by assumption) ?_
    rotate_left 1
    · (intro w hSw; (try dsimp only at hSw); go_simp; first | done | with_reducible rfl)
    try go_simp
    refine wpAnyH_take (i := 38) (oi := _) (v := .slice SA2 (j - i) (xc - i)) rfl (by as_aux_lemma => kernel_rfl) (by as_aux_lemma => kernel_rfl) (by as_aux_lemma => kernel_rfl) (fun _ _ _ h => h) (Or.inl ⟨by kernel_rfl, ?_⟩) (by assumption) ?_
    · (intro w hSw; (try dsimp only at hSw); go_simp; first | done | with_reducible rfl)
    try go_simp
    refine wpAnyH_take (i := 39) (oi := _) (v := ?_) rfl (by as_aux_lemma => kernel_rfl) (by as_aux_lemma => kernel_rfl) (by as_aux_lemma => kernel_rfl) (fun _ _ _ h => h) (Or.inl ⟨by rfl, ?_⟩) (by assumption) ?_
    rotate_left 1
    · (intro w hSw; (try dsimp only at hSw); go_simp; first | done | with_reducible rfl)
    try go_simp
    refine wpAnyH_take (i := 40) (oi := _) (v := ?_) rfl (by as_aux_lemma => kernel_rfl) (by as_aux_lemma => kernel_rfl) (by as_aux_lemma => kernel_rfl) (fun _ _ _ h => h) (Or.inl ⟨by rfl, ?_⟩) (by assumption) ?_
    rotate_left 1
    · (intro w hSw; (try dsimp only at hSw); go_simp; first | done | with_reducible rfl)
    try go_simp
    refine wpAnyH_take (i := 41) (oi := _) (v := ?_) rfl (by as_aux_lemma => kernel_rfl) (by as_aux_lemma => kernel_rfl) (by as_aux_lemma => kernel_rfl) (fun _ _ _ h => h) (Or.inl ⟨by rfl, ?_⟩) (by assumption) ?_
    rotate_left 1
    · (intro w hSw; (try dsimp only at hSw); go_simp; first | done | with_reducible rfl)
    try go_simp
    refine wpAnyH_take (i := 42) (oi := _) (v := ?_) rfl (by as_aux_lemma => kernel_rfl) (by as_aux_lemma => kernel_rfl) (by as_aux_lemma => kernel_rfl) (fun _ _ _ h => h) (Or.inl ⟨by rfl, ?_⟩) (by assumption) ?_
    rotate_left 1
    · (intro w hSw; (try dsimp only at hSw); go_simp; first | done | with_reducible rfl)
    try go_simp
    refine wpAnyH_take (i := 43) (oi := _) (v := .agg #[.int .u8 q0, .int .u8 q1, .int .u8 q2, .int .u8 q3]) rfl (by as_aux_lemma => kernel_rfl) (by as_aux_lemma => kernel_rfl) (by as_aux_lemma => kernel_rfl) (fun _ _ _ h => h) (Or.inl ⟨by kernel_rfl, ?_⟩) (by assumption) ?_
    · (intro w hSw; (try dsimp only at hSw); go_simp; have y0 := gcellR hSw (by simp) r0; have y1 := gcellR hSw (by simp) r1; have y2 := gcellR hSw (by simp) r2; have y3 := gcellR hSw (by simp) r3; clear hSw; go_simp; first | done | with_reducible rfl)
    try go_simp
    refine wpAnyH_ready (rs := [25, 46]) (by as_aux_lemma => kernel_rfl) (by simp) ?_
    refine AllReadyH.cons (o := _) rfl (fun K hK => ?_) ?_
    · clear hHeld
      go_simp
      refine (HF1.out yd (HW8.out.trans g9)).mono ?_
      rintro e y0 ⟨v, rfl, o, gs⟩
      obtain ⟨FA, fc, rfl, hF, _⟩ := own_strs' o (fun s hs => Nat.le_trans (Hf2.out s hs) (by decide))
      have hff := own_far o
      have gy0 : w8.grownBy y0 none := g9.trans gs
      have HSl := Lib.hid (fun W (g : y0.grownBy W none) => HSl.out W (gs.trans g))
      have HR := Lib.hid (fun W (g : y0.grownBy W none) => HR.out W (gs.trans g))
      have HT := Lib.hid (fun W (g : y0.grownBy W none) => HT.out W (gs.trans g))
      have HY := Lib.hid (fun W (g : y0.grownBy W none) => HY.out W (gs.trans g))
      have HFs := Lib.hid (fun W (g : y0.grownBy W none) => hF.kept g)
      clear o hF hff gs
      first | (refine hK.out _ _ ?_ (fun hHeld => ?_)) | (go_wp2_with fail; refine hK.out _ _ ?_ (fun hHeld => ?_))
      · (try dsimp only); (repeat (first | assumption | exact World.grownBy.refl _ _ | refine grown_drR ?_ | refine grown_alR ?_))
      clear hK K
      refine wpAnyH_ready (rs := [28, 46]) (by as_aux_lemma => kernel_rfl) (by simp) ?_
      refine AllReadyH.cons (o := _) rfl (fun K hK => ?_) ?_
      · clear hHeld
        go_simp
        refine (HF2.out y0 (HW8.out.trans gy0)).mono ?_
        rintro e y1 ⟨v, rfl, o, gs⟩
        obtain ⟨EA, ec, rfl, hF, _⟩ := own_strs' o (fun s hs => Nat.le_trans (He2.out s hs) (by decide))
        have hff := own_far o
        have gy1 : w8.grownBy y1 none := gy0.trans gs
        have HSl := Lib.hid (fun W (g : y1.grownBy W none) => HSl.out W (gs.trans g))
        have HR := Lib.hid (fun W (g : y1.grownBy W none) => HR.out W (gs.trans g))
        have HT := Lib.hid (fun W (g : y1.grownBy W none) => HT.out W (gs.trans g))
        have HY := Lib.hid (fun W (g : y1.grownBy W none) => HY.out W (gs.trans g))
        have HFs := Lib.hid (fun W (g : y1.grownBy W none) => HFs.out W (gs.trans g))
        have HEs := Lib.hid (fun W (g : y1.grownBy W none) => hF.kept g)
        clear o hF hff gs
        first | (refine hK.out _ _ ?_ (fun hHeld => ?_)) | (go_wp2_with fail; refine hK.out _ _ ?_ (fun hHeld => ?_))
        · (try dsimp only); (repeat (first | assumption | exact World.grownBy.refl _ _ | refine grown_drR ?_ | refine grown_alR ?_))
        clear hK K
        refine wpAnyH_take (i := 31) (oi := _) (v := ?_) rfl (by as_aux_lemma => kernel_rfl) (by as_aux_lemma => kernel_rfl) (by as_aux_lemma => kernel_rfl) (fun _ _ _ h => h) (Or.inl ⟨by rfl, ?_⟩) (by assumption) ?_
        rotate_left 1
        · (intro w hSw; (try dsimp only at hSw); go_simp; first | done | with_reducible rfl)
        try go_simp
        refine wpAnyH_ready (rs := [44, 46]) (by as_aux_lemma => kernel_rfl) (by simp) ?_
        refine AllReadyH.cons (o := _) rfl (fun K hK => ?_) ?_
        · clear hHeld
          go_simp
          refine (changed_k xn i (by constructor <;> omega) (by constructor <;> omega) SA2 (j - i) (xc - i) ((x.take j).drop i) RA rn rc P a1 b1 q0 q1 q2 q3 hq2 hq3 (by omega) (by omega) HLs.out HPs.out HSN.out HRN.out y1 (HSl.out y1 (World.grownBy.refl _ _)) (HR.out y1 (World.grownBy.refl _ _))).mono ?_
          rintro e y2 ⟨n1, i1, LB, lb, lcb, L1, PB, pb, pcb, P1, rfl, hn1, hi1, hlb, hpb, hL1, hP1, hHL, hHP, gs, fL, fP⟩
          have gy2 : w8.grownBy y2 none := gy1.trans gs
          have HSl := Lib.hid (fun W (g : y2.grownBy W none) => HSl.out W (gs.trans g))
          have HR := Lib.hid (fun W (g : y2.grownBy W none) => HR.out W (gs.trans g))
          have HT := Lib.hid (fun W (g : y2.grownBy W none) => HT.out W (gs.trans g))
          have HY := Lib.hid (fun W (g : y2.grownBy W none) => HY.out W (gs.trans g))
          have HFs := Lib.hid (fun W (g : y2.grownBy W none) => HFs.out W (gs.trans g))
          have HEs := Lib.hid (fun W (g : y2.grownBy W none) => HEs.out W (gs.trans g))
          have HLB := Lib.hid (fun W (g : y2.grownBy W none) => hHL.kept g)
          have HPB := Lib.hid (fun W (g : y2.grownBy W none) => hHP.kept g)
          have HL1s := Lib.hid hL1
          clear hL1 hP1 hHL hHP fL fP gs
          first | (refine hK.out _ _ ?_ (fun hHeld => ?_)) | (go_wp2_with fail; refine hK.out _ _ ?_ (fun hHeld => ?_))
          · (try dsimp only); (repeat (first | assumption | exact World.grownBy.refl _ _ | refine grown_drR ?_ | refine grown_alR ?_))
          clear hK K
          refine wpAnyH_take (i := 45) (oi := _) (v := ?_) rfl (by as_aux_lemma => kernel_rfl) (by as_aux_lemma => kernel_rfl) (by as_aux_lemma => kernel_rfl) (fun _ _ _ h => h) (Or.inl ⟨by rfl, ?_⟩) (by assumption) ?_
          rotate_left 1
          · (intro w hSw; (try dsimp only at hSw); go_simp; first | done | with_reducible rfl)
          try go_simp
          refine wpAnyH_ready (rs := [46]) (by as_aux_lemma => kernel_rfl) (by simp) ?_
          refine AllReadyH.cons (o := _) rfl (fun K hK => ?_) AllReadyH.nil
          clear hHeld
          go_simp
          first | (refine hK.out _ _ ?_ (fun hHeld => ?_)) | (go_wp2_with fail; refine hK.out _ _ ?_ (fun hHeld => ?_))
          · (try dsimp only); (repeat (first | assumption | exact World.grownBy.refl _ _ | refine grown_drR ?_ | refine grown_alR ?_))
          clear hK K
          have hb0 := World.alloc_heap_new y2 (.cells #[.int .i64 0, .int .i64 0, .slice none 0 0, .slice none 0 0, .string ⟨#[]⟩, .string ⟨#[]⟩, .int .i64 0, .int .i64 0, .slice none 0 0, .slice none 0 0, .string ⟨#[]⟩, .string ⟨#[]⟩, .int .i64 0, .int .i64 0, .slice none 0 0, .slice none 0 0, .string ⟨#[]⟩, .string ⟨#[]⟩, .int .i64 0, .int .i64 0, .slice none 0 0, .slice none 0 0, .string ⟨#[]⟩, .string ⟨#[]⟩] 48)
          have gs := World.grownBy_alloc y2 (.cells #[.int .i64 0, .int .i64 0, .slice none 0 0, .slice none 0 0, .string ⟨#[]⟩, .string ⟨#[]⟩, .int .i64 0, .int .i64 0, .slice none 0 0, .slice none 0 0, .string ⟨#[]⟩, .string ⟨#[]⟩, .int .i64 0, .int .i64 0, .slice none 0 0, .slice none 0 0, .string ⟨#[]⟩, .string ⟨#[]⟩, .int .i64 0, .int .i64 0, .slice none 0 0, .slice none 0 0, .string ⟨#[]⟩, .string ⟨#[]⟩] 48) none
          have hlt : y2.heap.size < (y2.alloc (.cells #[.int .i64 0, .int .i64 0, .slice none 0 0, .slice none 0 0, .string ⟨#[]⟩, .string ⟨#[]⟩, .int .i64 0, .int .i64 0, .slice none 0 0, .slice none 0 0, .string ⟨#[]⟩, .string ⟨#[]⟩, .int .i64 0, .int .i64 0, .slice none 0 0, .slice none 0 0, .string ⟨#[]⟩, .string ⟨#[]⟩, .int .i64 0, .int .i64 0, .slice none 0 0, .slice none 0 0, .string ⟨#[]⟩, .string ⟨#[]⟩] 48)).heap.size := by rw [World.size_alloc]; omega
          have Hw8 := Lib.hid (gy2.size)
          generalize hX : y2.alloc (.cells #[.int .i64 0, .int .i64 0, .slice none 0 0, .slice none 0 0, .string ⟨#[]⟩, .string ⟨#[]⟩, .int .i64 0, .int .i64 0, .slice none 0 0, .slice none 0 0, .string ⟨#[]⟩, .string ⟨#[]⟩, .int .i64 0, .int .i64 0, .slice none 0 0, .slice none 0 0, .string ⟨#[]⟩, .string ⟨#[]⟩, .int .i64 0, .int .i64 0, .slice none 0 0, .slice none 0 0, .string ⟨#[]⟩, .string ⟨#[]⟩] 48) = y3 at *
          obtain ⟨bq, hbq⟩ : ∃ bq, y2.heap.size = bq := ⟨_, rfl⟩
          rw [hbq] at hb0 hlt Hw8 ⊢
          clear hX
          have gy3 : w8.grownBy y3 none := gy2.trans gs
          have GA := Lib.hid gs
          have HBQ := Lib.hid (fun W (g : y3.grownBy W none) => blk_kept g hb0)
          have HBL := Lib.hid hlt
          clear gs hb0 hlt
          refine wpAnyH_ready (rs := [47]) (by as_aux_lemma => kernel_rfl) (by simp) ?_
          refine AllReadyH.cons (o := _) rfl (fun K hK => ?_) AllReadyH.nil
          refine wp_store_row 48 _ _ (by rfl) bq #[.int .i64 xn, .int .i64 i, .slice SA2 (j - i) (xc - i), .slice RA rn rc, .string ⟨a1.toArray⟩, .string ⟨b1.toArray⟩, .int .i64 xn, .int .i64 I2, .slice TA tn tc, .slice YA yn yc, .string ⟨a1.toArray⟩, .string ⟨b1.toArray⟩, .int .i64 cN, .int .i64 cI, .slice FA fl1.length fc, .slice EA fl2.length ec, .string ⟨a1.toArray⟩, .string ⟨b1.toArray⟩, .int .i64 n1, .int .i64 i1, .slice LB lb lcb, .slice PB pb pcb, .string ⟨a1.toArray⟩, .string ⟨b1.toArray⟩] (by rfl) (by rfl) 48 #[.int .i64 0, .int .i64 0, .slice none 0 0, .slice none 0 0, .string ⟨#[]⟩, .string ⟨#[]⟩, .int .i64 0, .int .i64 0, .slice none 0 0, .slice none 0 0, .string ⟨#[]⟩, .string ⟨#[]⟩, .int .i64 0, .int .i64 0, .slice none 0 0, .slice none 0 0, .string ⟨#[]⟩, .string ⟨#[]⟩, .int .i64 0, .int .i64 0, .slice none 0 0, .slice none 0 0, .string ⟨#[]⟩, .string ⟨#[]⟩] (HBQ.out y3 (World.grownBy.refl _ _)) (by kernel_rfl) (by rfl) (one24 ..) ?_
          have hsr := grown_setRow y3 bq #[.int .i64 xn, .int .i64 i, .slice SA2 (j - i) (xc - i), .slice RA rn rc, .string ⟨a1.toArray⟩, .string ⟨b1.toArray⟩, .int .i64 xn, .int .i64 I2, .slice TA tn tc, .slice YA yn yc, .string ⟨a1.toArray⟩, .string ⟨b1.toArray⟩, .int .i64 cN, .int .i64 cI, .slice FA fl1.length fc, .slice EA fl2.length ec, .string ⟨a1.toArray⟩, .string ⟨b1.toArray⟩, .int .i64 n1, .int .i64 i1, .slice LB lb lcb, .slice PB pb pcb, .string ⟨a1.toArray⟩, .string ⟨b1.toArray⟩]
          have hw := setRow_heap y3 bq _ #[.int .i64 xn, .int .i64 i, .slice SA2 (j - i) (xc - i), .slice RA rn rc, .string ⟨a1.toArray⟩, .string ⟨b1.toArray⟩, .int .i64 xn, .int .i64 I2, .slice TA tn tc, .slice YA yn yc, .string ⟨a1.toArray⟩, .string ⟨b1.toArray⟩, .int .i64 cN, .int .i64 cI, .slice FA fl1.length fc, .slice EA fl2.length ec, .string ⟨a1.toArray⟩, .string ⟨b1.toArray⟩, .int .i64 n1, .int .i64 i1, .slice LB lb lcb, .slice PB pb pcb, .string ⟨a1.toArray⟩, .string ⟨b1.toArray⟩] 48 (0, 0) (HBQ.out y3 (World.grownBy.refl _ _))
          have gA := GA.out.andThen hsr (fun r e => by injection e with e; exact .inl (Nat.le_of_eq (hbq.trans e)))
          have gF : w8.grownBy (y3.setRow bq #[.int .i64 xn, .int .i64 i, .slice SA2 (j - i) (xc - i), .slice RA rn rc, .string ⟨a1.toArray⟩, .string ⟨b1.toArray⟩, .int .i64 xn, .int .i64 I2, .slice TA tn tc, .slice YA yn yc, .string ⟨a1.toArray⟩, .string ⟨b1.toArray⟩, .int .i64 cN, .int .i64 cI, .slice FA fl1.length fc, .slice EA fl2.length ec, .string ⟨a1.toArray⟩, .string ⟨b1.toArray⟩, .int .i64 n1, .int .i64 i1, .slice LB lb lcb, .slice PB pb pcb, .string ⟨a1.toArray⟩, .string ⟨b1.toArray⟩]) none := gy3.andThen hsr (fun r e => by injection e with e; exact .inl (Nat.le_trans Hw8.out (Nat.le_of_eq e)))
          refine hK.out _ _ gF (fun hHeld => ?_)
          clear hK K
          refine wpAnyH_done (by as_aux_lemma => kernel_rfl) ?_ _
          refine NoPanic.normal ?_
          go_simp
          go_wp2_with fail
          go_meet
          refine ⟨bq, rfl, gF, fun k hk => ?_⟩
          match k, hk with
          | 0, _ => unfold ClOk; exact ⟨xn, i, SA2, j - i, xc - i, _, RA, rn, rc, P, a1, b1, (by constructor <;> omega), (by constructor <;> omega), cell_at hw rfl, cell_at hw rfl, cell_at hw rfl, cell_at hw rfl, cell_at hw rfl, cell_at hw rfl, HSl.out _ gA, HR.out _ gA, by omega, by omega, fun s hs => Nat.le_trans (HLs.out s hs) (by decide)⟩
          | 1, _ => unfold ClOk; exact ⟨xn, I2, TA, tn, tc, T2, YA, yn, yc, P2, a1, b1, (by constructor <;> omega), (by constructor <;> omega), cell_at hw rfl, cell_at hw rfl, cell_at hw rfl, cell_at hw rfl, cell_at hw rfl, cell_at hw rfl, HT.out _ gA, HY.out _ gA, by omega, by omega, fun s hs => hxsh.out s (hT1.out s hs)⟩
          | 2, _ => unfold ClOk; exact ⟨cN, cI, FA, fl1.length, fc, fl1, EA, fl2.length, ec, fl2, a1, b1, hcN, hcI, cell_at hw rfl, cell_at hw rfl, cell_at hw rfl, cell_at hw rfl, cell_at hw rfl, cell_at hw rfl, HFs.out _ gA, HEs.out _ gA, by omega, by omega, fun s hs => Nat.le_trans (Hf2.out s hs) (by decide)⟩
          | 3, _ => unfold ClOk; exact ⟨n1, i1, LB, lb, lcb, L1, PB, pb, pcb, P1, a1, b1, hn1, hi1, cell_at hw rfl, cell_at hw rfl, cell_at hw rfl, cell_at hw rfl, cell_at hw rfl, cell_at hw rfl, HLB.out _ gA, HPB.out _ gA, by omega, by omega, fun s hs => Nat.le_trans (HL1s.out s hs) (by decide)⟩
        refine AllReadyH.cons (o := _) rfl (fun K hK => ?_) AllReadyH.nil
        clear hHeld
        go_simp
        first | (refine hK.out _ _ ?_ (fun hHeld => ?_)) | (go_wp2_with fail; refine hK.out _ _ ?_ (fun hHeld => ?_))
        · (try dsimp only); (repeat (first | assumption | exact World.grownBy.refl _ _ | refine grown_drR ?_ | refine grown_alR ?_))
        clear hK K
        have hb0 := World.alloc_heap_new y1 (.cells #[.int .i64 0, .int .i64 0, .slice none 0 0, .slice none 0 0, .string ⟨#[]⟩, .string ⟨#[]⟩, .int .i64 0, .int .i64 0, .slice none 0 0, .slice none 0 0, .string ⟨#[]⟩, .string ⟨#[]⟩, .int .i64 0, .int .i64 0, .slice none 0 0, .slice none 0 0, .string ⟨#[]⟩, .string ⟨#[]⟩, .int .i64 0, .int .i64 0, .slice none 0 0, .slice none 0 0, .string ⟨#[]⟩, .string ⟨#[]⟩] 48)
        have gs := World.grownBy_alloc y1 (.cells #[.int .i64 0, .int .i64 0, .slice none 0 0, .slice none 0 0, .string ⟨#[]⟩, .string ⟨#[]⟩, .int .i64 0, .int .i64 0, .slice none 0 0, .slice none 0 0, .string ⟨#[]⟩, .string ⟨#[]⟩, .int .i64 0, .int .i64 0, .slice none 0 0, .slice none 0 0, .string ⟨#[]⟩, .string ⟨#[]⟩, .int .i64 0, .int .i64 0, .slice none 0 0, .slice none 0 0, .string ⟨#[]⟩, .string ⟨#[]⟩] 48) none
        have hlt : y1.heap.size < (y1.alloc (.cells #[.int .i64 0, .int .i64 0, .slice none 0 0, .slice none 0 0, .string ⟨#[]⟩, .string ⟨#[]⟩, .int .i64 0, .int .i64 0, .slice none 0 0, .slice none 0 0, .string ⟨#[]⟩, .string ⟨#[]⟩, .int .i64 0, .int .i64 0, .slice none 0 0, .slice none 0 0, .string ⟨#[]⟩, .string ⟨#[]⟩, .int .i64 0, .int .i64 0, .slice none 0 0, .slice none 0 0, .string ⟨#[]⟩, .string ⟨#[]⟩] 48)).heap.size := by rw [World.size_alloc]; omega
        have Hw8 := Lib.hid (gy1.size)
        generalize hX : y1.alloc (.cells #[.int .i64 0, .int .i64 0, .slice none 0 0, .slice none 0 0, .string ⟨#[]⟩, .string ⟨#[]⟩, .int .i64 0, .int .i64 0, .slice none 0 0, .slice none 0 0, .string ⟨#[]⟩, .string ⟨#[]⟩, .int .i64 0, .int .i64 0, .slice none 0 0, .slice none 0 0, .string ⟨#[]⟩, .string ⟨#[]⟩, .int .i64 0, .int .i64 0, .slice none 0 0, .slice none 0 0, .string ⟨#[]⟩, .string ⟨#[]⟩] 48) = y2 at *
        obtain ⟨bq, hbq⟩ : ∃ bq, y1.heap.size = bq := ⟨_, rfl⟩
        rw [hbq] at hb0 hlt Hw8 ⊢
        clear hX
        have gy2 : w8.grownBy y2 none := gy1.trans gs
        have GA := Lib.hid gs
        have HBQ := Lib.hid (fun W (g : y2.grownBy W none) => blk_kept g hb0)
        have HBL := Lib.hid hlt
        clear gs hb0 hlt
        refine wpAnyH_ready (rs := [44]) (by as_aux_lemma => kernel_rfl) (by simp) ?_
        refine AllReadyH.cons (o := _) rfl (fun K hK => ?_) AllReadyH.nil
        clear hHeld
        go_simp
        refine (changed_k xn i (by constructor <;> omega) (by constructor <;> omega) SA2 (j - i) (xc - i) ((x.take j).drop i) RA rn rc P a1 b1 q0 q1 q2 q3 hq2 hq3 (by omega) (by omega) HLs.out HPs.out HSN.out HRN.out y2 (HSl.out y2 GA.out) (HR.out y2 GA.out)).mono ?_
        rintro e y3 ⟨n1, i1, LB, lb, lcb, L1, PB, pb, pcb, P1, rfl, hn1, hi1, hlb, hpb, hL1, hP1, hHL, hHP, gs, fL, fP⟩
        have gy3 : w8.grownBy y3 none := gy2.trans gs
        have GA := Lib.hid (GA.out.trans gs)
        have HBQ := Lib.hid (fun W (g : y3.grownBy W none) => HBQ.out W (gs.trans g))
        have HLB := Lib.hid (fun W (g : y3.grownBy W none) => hHL.kept g)
        have HPB := Lib.hid (fun W (g : y3.grownBy W none) => hHP.kept g)
        have HL1s := Lib.hid hL1
        have HLBf := Lib.hid (fun a e => Nat.ne_of_gt (Nat.lt_of_lt_of_le HBL.out (fL a e)))
        have HPBf := Lib.hid (fun a e => Nat.ne_of_gt (Nat.lt_of_lt_of_le HBL.out (fP a e)))
        have HBL := Lib.hid (Nat.lt_of_lt_of_le HBL.out gs.size)
        clear hL1 hP1 hHL hHP fL fP gs
        first | (refine hK.out _ _ ?_ (fun hHeld => ?_)) | (go_wp2_with fail; refine hK.out _ _ ?_ (fun hHeld => ?_))
        · (try dsimp only); (repeat (first | assumption | exact World.grownBy.refl _ _ | refine grown_drR ?_ | refine grown_alR ?_))
        clear hK K
        refine wpAnyH_take (i := 45) (oi := _) (v := ?_) rfl (by as_aux_lemma => kernel_rfl) (by as_aux_lemma => kernel_rfl) (by as_aux_lemma => kernel_rfl) (fun _ _ _ h => h) (Or.inl ⟨by rfl, ?_⟩) (by assumption) ?_
        rotate_left 1
        · (intro w hSw; (try dsimp only at hSw); go_simp; first | done | with_reducible rfl)
        try go_simp
        refine wpAnyH_ready (rs := [47]) (by as_aux_lemma => kernel_rfl) (by simp) ?_
        refine AllReadyH.cons (o := _) rfl (fun K hK => ?_) AllReadyH.nil
        refine wp_store_row 48 _ _ (by rfl) bq #[.int .i64 xn, .int .i64 i, .slice SA2 (j - i) (xc - i), .slice RA rn rc, .string ⟨a1.toArray⟩, .string ⟨b1.toArray⟩, .int .i64 xn, .int .i64 I2, .slice TA tn tc, .slice YA yn yc, .string ⟨a1.toArray⟩, .string ⟨b1.toArray⟩, .int .i64 cN, .int .i64 cI, .slice FA fl1.length fc, .slice EA fl2.length ec, .string ⟨a1.toArray⟩, .string ⟨b1.toArray⟩, .int .i64 n1, .int .i64 i1, .slice LB lb lcb, .slice PB pb pcb, .string ⟨a1.toArray⟩, .string ⟨b1.toArray⟩] (by rfl) (by rfl) 48 #[.int .i64 0, .int .i64 0, .slice none 0 0, .slice none 0 0, .string ⟨#[]⟩, .string ⟨#[]⟩, .int .i64 0, .int .i64 0, .slice none 0 0, .slice none 0 0, .string ⟨#[]⟩, .string ⟨#[]⟩, .int .i64 0, .int .i64 0, .slice none 0 0, .slice none 0 0, .string ⟨#[]⟩, .string ⟨#[]⟩, .int .i64 0, .int .i64 0, .slice none 0 0, .slice none 0 0, .string ⟨#[]⟩, .string ⟨#[]⟩] (HBQ.out y3 (World.grownBy.refl _ _)) (by kernel_rfl) (by rfl) (one24 ..) ?_
        have hsr := grown_setRow y3 bq #[.int .i64 xn, .int .i64 i, .slice SA2 (j - i) (xc - i), .slice RA rn rc, .string ⟨a1.toArray⟩, .string ⟨b1.toArray⟩, .int .i64 xn, .int .i64 I2, .slice TA tn tc, .slice YA yn yc, .string ⟨a1.toArray⟩, .string ⟨b1.toArray⟩, .int .i64 cN, .int .i64 cI, .slice FA fl1.length fc, .slice EA fl2.length ec, .string ⟨a1.toArray⟩, .string ⟨b1.toArray⟩, .int .i64 n1, .int .i64 i1, .slice LB lb lcb, .slice PB pb pcb, .string ⟨a1.toArray⟩, .string ⟨b1.toArray⟩]
        have hw := setRow_heap y3 bq _ #[.int .i64 xn, .int .i64 i, .slice SA2 (j - i) (xc - i), .slice RA rn rc, .string ⟨a1.toArray⟩, .string ⟨b1.toArray⟩, .int .i64 xn, .int .i64 I2, .slice TA tn tc, .slice YA yn yc, .string ⟨a1.toArray⟩, .string ⟨b1.toArray⟩, .int .i64 cN, .int .i64 cI, .slice FA fl1.length fc, .slice EA fl2.length ec, .string ⟨a1.toArray⟩, .string ⟨b1.toArray⟩, .int .i64 n1, .int .i64 i1, .slice LB lb lcb, .slice PB pb pcb, .string ⟨a1.toArray⟩, .string ⟨b1.toArray⟩] 48 (0, 0) (HBQ.out y3 (World.grownBy.refl _ _))
        have gA := GA.out.andThen hsr (fun r e => by injection e with e; exact .inl (Nat.le_of_eq (hbq.trans e)))
        have gF : w8.grownBy (y3.setRow bq #[.int .i64 xn, .int .i64 i, .slice SA2 (j - i) (xc - i), .slice RA rn rc, .string ⟨a1.toArray⟩, .string ⟨b1.toArray⟩, .int .i64 xn, .int .i64 I2, .slice TA tn tc, .slice YA yn yc, .string ⟨a1.toArray⟩, .string ⟨b1.toArray⟩, .int .i64 cN, .int .i64 cI, .slice FA fl1.length fc, .slice EA fl2.length ec, .string ⟨a1.toArray⟩, .string ⟨b1.toArray⟩, .int .i64 n1, .int .i64 i1, .slice LB lb lcb, .slice PB pb pcb, .string ⟨a1.toArray⟩, .string ⟨b1.toArray⟩]) none := gy3.andThen hsr (fun r e => by injection e with e; exact .inl (Nat.le_trans Hw8.out (Nat.le_of_eq e)))
        refine hK.out _ _ gF (fun hHeld => ?_)
        clear hK K
        refine wpAnyH_done (by as_aux_lemma => kernel_rfl) ?_ _
        refine NoPanic.normal ?_
        go_simp
        go_wp2_with fail
        go_meet
        refine ⟨bq, rfl, gF, fun k hk => ?_⟩
        match k, hk with
        | 0, _ => unfold ClOk; exact ⟨xn, i, SA2, j - i, xc - i, _, RA, rn, rc, P, a1, b1, (by constructor <;> omega), (by constructor <;> omega), cell_at hw rfl, cell_at hw rfl, cell_at hw rfl, cell_at hw rfl, cell_at hw rfl, cell_at hw rfl, HSl.out _ gA, HR.out _ gA, by omega, by omega, fun s hs => Nat.le_trans (HLs.out s hs) (by decide)⟩
        | 1, _ => unfold ClOk; exact ⟨xn, I2, TA, tn, tc, T2, YA, yn, yc, P2, a1, b1, (by constructor <;> omega), (by constructor <;> omega), cell_at hw rfl, cell_at hw rfl, cell_at hw rfl, cell_at hw rfl, cell_at hw rfl, cell_at hw rfl, HT.out _ gA, HY.out _ gA, by omega, by omega, fun s hs => hxsh.out s (hT1.out s hs)⟩
        | 2, _ => unfold ClOk; exact ⟨cN, cI, FA, fl1.length, fc, fl1, EA, fl2.length, ec, fl2, a1, b1, hcN, hcI, cell_at hw rfl, cell_at hw rfl, cell_at hw rfl, cell_at hw rfl, cell_at hw rfl, cell_at hw rfl, HFs.out _ gA, HEs.out _ gA, by omega, by omega, fun s hs => Nat.le_trans (Hf2.out s hs) (by decide)⟩
        | 3, _ => unfold ClOk; exact ⟨n1, i1, LB, lb, lcb, L1, PB, pb, pcb, P1, a1, b1, hn1, hi1, cell_at hw rfl, cell_at hw rfl, cell_at hw rfl, cell_at hw rfl, cell_at hw rfl, cell_at hw rfl, (HLB.out y3 (World.grownBy.refl _ _)).far HLBf.out hsr, (HPB.out y3 (World.grownBy.refl _ _)).far HPBf.out hsr, by omega, by omega, fun s hs => Nat.le_trans (HL1s.out s hs) (by decide)⟩
      refine AllReadyH.cons (o := _) rfl (fun K hK => ?_) AllReadyH.nil
      clear hHeld
      go_simp
      first | (refine hK.out _ _ ?_ (fun hHeld => ?_)) | (go_wp2_with fail; refine hK.out _ _ ?_ (fun hHeld => ?_))
      · (try dsimp only); (repeat (first | assumption | exact World.grownBy.refl _ _ | refine grown_drR ?_ | refine grown_alR ?_))
      clear hK K
      have hb0 := World.alloc_heap_new y0 (.cells #[.int .i64 0, .int .i64 0, .slice none 0 0, .slice none 0 0, .string ⟨#[]⟩, .string ⟨#[]⟩, .int .i64 0, .int .i64 0, .slice none 0 0, .slice none 0 0, .string ⟨#[]⟩, .string ⟨#[]⟩, .int .i64 0, .int .i64 0, .slice none 0 0, .slice none 0 0, .string ⟨#[]⟩, .string ⟨#[]⟩, .int .i64 0, .int .i64 0, .slice none 0 0, .slice none 0 0, .string ⟨#[]⟩, .string ⟨#[]⟩] 48)
      have gs := World.grownBy_alloc y0 (.cells #[.int .i64 0, .int .i64 0, .slice none 0 0, .slice none 0 0, .string ⟨#[]⟩, .string ⟨#[]⟩, .int .i64 0, .int .i64 0, .slice none 0 0, .slice none 0 0, .string ⟨#[]⟩, .string ⟨#[]⟩, .int .i64 0, .int .i64 0, .slice none 0 0, .slice none 0 0, .string ⟨#[]⟩, .string ⟨#[]⟩, .int .i64 0, .int .i64 0, .slice none 0 0, .slice none 0 0, .string ⟨#[]⟩, .string ⟨#[]⟩] 48) none
      have hlt : y0.heap.size < (y0.alloc (.cells #[.int .i64 0, .int .i64 0, .slice none 0 0, .slice none 0 0, .string ⟨#[]⟩, .string ⟨#[]⟩, .int .i64 0, .int .i64 0, .slice none 0 0, .slice none 0 0, .string ⟨#[]⟩, .string ⟨#[]⟩, .int .i64 0, .int .i64 0, .slice none 0 0, .slice none 0 0, .string ⟨#[]⟩, .string ⟨#[]⟩, .int .i64 0, .int .i64 0, .slice none 0 0, .slice none 0 0, .string ⟨#[]⟩, .string ⟨#[]⟩] 48)).heap.size := by rw [World.size_alloc]; omega
      have Hw8 := Lib.hid (gy0.size)
      generalize hX : y0.alloc (.cells #[.int .i64 0, .int .i64 0, .slice none 0 0, .slice none 0 0, .string ⟨#[]⟩, .string ⟨#[]⟩, .int .i64 0, .int .i64 0, .slice none 0 0, .slice none 0 0, .string ⟨#[]⟩, .string ⟨#[]⟩, .int .i64 0, .int .i64 0, .slice none 0 0, .slice none 0 0, .string ⟨#[]⟩, .string ⟨#[]⟩, .int .i64 0, .int .i64 0, .slice none 0 0, .slice none 0 0, .string ⟨#[]⟩, .string ⟨#[]⟩] 48) = y1 at *
      obtain ⟨bq, hbq⟩ : ∃ bq, y0.heap.size = bq := ⟨_, rfl⟩
      rw [hbq] at hb0 hlt Hw8 ⊢
      clear hX
      have gy1 : w8.grownBy y1 none := gy0.trans gs
      have GA := Lib.hid gs
      have HBQ := Lib.hid (fun W (g : y1.grownBy W none) => blk_kept g hb0)
      have HBL := Lib.hid hlt
      clear gs hb0 hlt
      refine wpAnyH_ready (rs := [28]) (by as_aux_lemma => kernel_rfl) (by simp) ?_
      refine AllReadyH.cons (o := _) rfl (fun K hK => ?_) AllReadyH.nil
      clear hHeld
      go_simp
      refine (HF2.out y1 (HW8.out.trans gy1)).mono ?_
      rintro e y2 ⟨v, rfl, o, gs⟩
      obtain ⟨EA, ec, rfl, hF, _⟩ := own_strs' o (fun s hs => Nat.le_trans (He2.out s hs) (by decide))
      have hff := own_far o
      have gy2 : w8.grownBy y2 none := gy1.trans gs
      have GA := Lib.hid (GA.out.trans gs)
      have HBQ := Lib.hid (fun W (g : y2.grownBy W none) => HBQ.out W (gs.trans g))
      have HEs := Lib.hid (fun W (g : y2.grownBy W none) => hF.kept g)
      have HEsf := Lib.hid (fun a e => Nat.ne_of_gt (Nat.lt_of_lt_of_le HBL.out (hff a e)))
      have HBL := Lib.hid (Nat.lt_of_lt_of_le HBL.out gs.size)
      clear o hF hff gs
      first | (refine hK.out _ _ ?_ (fun hHeld => ?_)) | (go_wp2_with fail; refine hK.out _ _ ?_ (fun hHeld => ?_))
      · (try dsimp only); (repeat (first | assumption | exact World.grownBy.refl _ _ | refine grown_drR ?_ | refine grown_alR ?_))
      clear hK K
      refine wpAnyH_take (i := 31) (oi := _) (v := ?_) rfl (by as_aux_lemma => kernel_rfl) (by as_aux_lemma => kernel_rfl) (by as_aux_lemma => kernel_rfl) (fun _ _ _ h => h) (Or.inl ⟨by rfl, ?_⟩) (by assumption) ?_
      rotate_left 1
      · (intro w hSw; (try dsimp only at hSw); go_simp; first | done | with_reducible rfl)
      try go_simp
      refine wpAnyH_ready (rs := [44]) (by as_aux_lemma => kernel_rfl) (by simp) ?_
      refine AllReadyH.cons (o := _) rfl (fun K hK => ?_) AllReadyH.nil
      clear hHeld
      go_simp
      refine (changed_k xn i (by constructor <;> omega) (by constructor <;> omega) SA2 (j - i) (xc - i) ((x.take j).drop i) RA rn rc P a1 b1 q0 q1 q2 q3 hq2 hq3 (by omega) (by omega) HLs.out HPs.out HSN.out HRN.out y2 (HSl.out y2 GA.out) (HR.out y2 GA.out)).mono ?_
      rintro e y3 ⟨n1, i1, LB, lb, lcb, L1, PB, pb, pcb, P1, rfl, hn1, hi1, hlb, hpb, hL1, hP1, hHL, hHP, gs, fL, fP⟩
      have gy3 : w8.grownBy y3 none := gy2.trans gs
      have GA := Lib.hid (GA.out.trans gs)
      have HBQ := Lib.hid (fun W (g : y3.grownBy W none) => HBQ.out W (gs.trans g))
      have HEs := Lib.hid (fun W (g : y3.grownBy W none) => HEs.out W (gs.trans g))
      have HLB := Lib.hid (fun W (g : y3.grownBy W none) => hHL.kept g)
      have HPB := Lib.hid (fun W (g : y3.grownBy W none) => hHP.kept g)
      have HL1s := Lib.hid hL1
      have HLBf := Lib.hid (fun a e => Nat.ne_of_gt (Nat.lt_of_lt_of_le HBL.out (fL a e)))
      have HPBf := Lib.hid (fun a e => Nat.ne_of_gt (Nat.lt_of_lt_of_le HBL.out (fP a e)))
      have HBL := Lib.hid (Nat.lt_of_lt_of_le HBL.out gs.size)
      clear hL1 hP1 hHL hHP fL fP gs
      first | (refine hK.out _ _ ?_ (fun hHeld => ?_)) | (go_wp2_with fail; refine hK.out _ _ ?_ (fun hHeld => ?_))
      · (try dsimp only); (repeat (first | assumption | exact World.grownBy.refl _ _ | refine grown_drR ?_ | refine grown_alR ?_))
      clear hK K
      refine wpAnyH_take (i := 45) (oi := _) (v := ?_) rfl (by as_aux_lemma => kernel_rfl) (by as_aux_lemma => kernel_rfl) (by as_aux_lemma => kernel_rfl) (fun _ _ _ h => h) (Or.inl ⟨by rfl, ?_⟩) (by assumption) ?_
      rotate_left 1
      · (intro w hSw; (try dsimp only at hSw); go_simp; first | done | with_reducible rfl)
      try go_simp
      refine wpAnyH_ready (rs := [47]) (by as_aux_lemma => kernel_rfl) (by simp) ?_
      refine AllReadyH.cons (o := _) rfl (fun K hK => ?_) AllReadyH.nil
      refine wp_store_row 48 _ _ (by rfl) bq #[.int .i64 xn, .int .i64 i, .slice SA2 (j - i) (xc - i), .slice RA rn rc, .string ⟨a1.toArray⟩, .string ⟨b1.toArray⟩, .int .i64 xn, .int .i64 I2, .slice TA tn tc, .slice YA yn yc, .string ⟨a1.toArray⟩, .string ⟨b1.toArray⟩, .int .i64 cN, .int .i64 cI, .slice FA fl1.length fc, .slice EA fl2.length ec, .string ⟨a1.toArray⟩, .string ⟨b1.toArray⟩, .int .i64 n1, .int .i64 i1, .slice LB lb lcb, .slice PB pb pcb, .string ⟨a1.toArray⟩, .string ⟨b1.toArray⟩] (by rfl) (by rfl) 48 #[.int .i64 0, .int .i64 0, .slice none 0 0, .slice none 0 0, .string ⟨#[]⟩, .string ⟨#[]⟩, .int .i64 0, .int .i64 0, .slice none 0 0, .slice none 0 0, .string ⟨#[]⟩, .string ⟨#[]⟩, .int .i64 0, .int .i64 0, .slice none 0 0, .slice none 0 0, .string ⟨#[]⟩, .string ⟨#[]⟩, .int .i64 0, .int .i64 0, .slice none 0 0, .slice none 0 0, .string ⟨#[]⟩, .string ⟨#[]⟩] (HBQ.out y3 (World.grownBy.refl _ _)) (by kernel_rfl) (by rfl) (one24 ..) ?_
      have hsr := grown_setRow y3 bq #[.int .i64 xn, .int .i64 i, .slice SA2 (j - i) (xc - i), .slice RA rn rc, .string ⟨a1.toArray⟩, .string ⟨b1.toArray⟩, .int .i64 xn, .int .i64 I2, .slice TA tn tc, .slice YA yn yc, .string ⟨a1.toArray⟩, .string ⟨b1.toArray⟩, .int .i64 cN, .int .i64 cI, .slice FA fl1.length fc, .slice EA fl2.length ec, .string ⟨a1.toArray⟩, .string ⟨b1.toArray⟩, .int .i64 n1, .int .i64 i1, .slice LB lb lcb, .slice PB pb pcb, .string ⟨a1.toArray⟩, .string ⟨b1.toArray⟩]
      have hw := setRow_heap y3 bq _ #[.int .i64 xn, .int .i64 i, .slice SA2 (j - i) (xc - i), .slice RA rn rc, .string ⟨a1.toArray⟩, .string ⟨b1.toArray⟩, .int .i64 xn, .int .i64 I2, .slice TA tn tc, .slice YA yn yc, .string ⟨a1.toArray⟩, .string ⟨b1.toArray⟩, .int .i64 cN, .int .i64 cI, .slice FA fl1.length fc, .slice EA fl2.length ec, .string ⟨a1.toArray⟩, .string ⟨b1.toArray⟩, .int .i64 n1, .int .i64 i1, .slice LB lb lcb, .slice PB pb pcb, .string ⟨a1.toArray⟩, .string ⟨b1.toArray⟩] 48 (0, 0) (HBQ.out y3 (World.grownBy.refl _ _))
      have gA := GA.out.andThen hsr (fun r e => by injection e with e; exact .inl (Nat.le_of_eq (hbq.trans e)))
      have gF : w8.grownBy (y3.setRow bq #[.int .i64 xn, .int .i64 i, .slice SA2 (j - i) (xc - i), .slice RA rn rc, .string ⟨a1.toArray⟩, .string ⟨b1.toArray⟩, .int .i64 xn, .int .i64 I2, .slice TA tn tc, .slice YA yn yc, .string ⟨a1.toArray⟩, .string ⟨b1.toArray⟩, .int .i64 cN, .int .i64 cI, .slice FA fl1.length fc, .slice EA fl2.length ec, .string ⟨a1.toArray⟩, .string ⟨b1.toArray⟩, .int .i64 n1, .int .i64 i1, .slice LB lb lcb, .slice PB pb pcb, .string ⟨a1.toArray⟩, .string ⟨b1.toArray⟩]) none := gy3.andThen hsr (fun r e => by injection e with e; exact .inl (Nat.le_trans Hw8.out (Nat.le_of_eq e)))
      refine hK.out _ _ gF (fun hHeld => ?_)
      clear hK K
      refine wpAnyH_done (by as_aux_lemma => kernel_rfl) ?_ _
      refine NoPanic.normal ?_
      go_simp
      go_wp2_with fail
      go_meet
      refine ⟨bq, rfl, gF, fun k hk => ?_⟩
      match k, hk with
      | 0, _ => unfold ClOk; exact ⟨xn, i, SA2, j - i, xc - i, _, RA, rn, rc, P, a1, b1, (by constructor <;> omega), (by constructor <;> omega), cell_at hw rfl, cell_at hw rfl, cell_at hw rfl, cell_at hw rfl, cell_at hw rfl, cell_at hw rfl, HSl.out _ gA, HR.out _ gA, by omega, by omega, fun s hs => Nat.le_trans (HLs.out s hs) (by decide)⟩
      | 1, _ => unfold ClOk; exact ⟨xn, I2, TA, tn, tc, T2, YA, yn, yc, P2, a1, b1, (by constructor <;> omega), (by constructor <;> omega), cell_at hw rfl, cell_at hw rfl, cell_at hw rfl, cell_at hw rfl, cell_at hw rfl, cell_at hw rfl, HT.out _ gA, HY.out _ gA, by omega, by omega, fun s hs => hxsh.out s (hT1.out s hs)⟩
      | 2, _ => unfold ClOk; exact ⟨cN, cI, FA, fl1.length, fc, fl1, EA, fl2.length, ec, fl2, a1, b1, hcN, hcI, cell_at hw rfl, cell_at hw rfl, cell_at hw rfl, cell_at hw rfl, cell_at hw rfl, cell_at hw rfl, HFs.out _ gA, (HEs.out y3 (World.grownBy.refl _ _)).far HEsf.out hsr, by omega, by omega, fun s hs => Nat.le_trans (Hf2.out s hs) (by decide)⟩
      | 3, _ => unfold ClOk; exact ⟨n1, i1, LB, lb, lcb, L1, PB, pb, pcb, P1, a1, b1, hn1, hi1, cell_at hw rfl, cell_at hw rfl, cell_at hw rfl, cell_at hw rfl, cell_at hw rfl, cell_at hw rfl, (HLB.out y3 (World.grownBy.refl _ _)).far HLBf.out hsr, (HPB.out y3 (World.grownBy.refl _ _)).far HPBf.out hsr, by omega, by omega, fun s hs => Nat.le_trans (HL1s.out s hs) (by decide)⟩
    refine AllReadyH.cons (o := _) rfl (fun K hK => ?_) AllReadyH.nil
    clear hHeld
    go_simp
    first | (refine hK.out _ _ ?_ (fun hHeld => ?_)) | (go_wp2_with fail; refine hK.out _ _ ?_ (fun hHeld => ?_))
    · (try dsimp only); (repeat (first | assumption | exact World.grownBy.refl _ _ | refine grown_drR ?_ | refine grown_alR ?_))
    clear hK K
    have hb0 := World.alloc_heap_new yd (.cells #[.int .i64 0, .int .i64 0, .slice none 0 0, .slice none 0 0, .string ⟨#[]⟩, .string ⟨#[]⟩, .int .i64 0, .int .i64 0, .slice none 0 0, .slice none 0 0, .string ⟨#[]⟩, .string ⟨#[]⟩, .int .i64 0, .int .i64 0, .slice none 0 0, .slice none 0 0, .string ⟨#[]⟩, .string ⟨#[]⟩, .int .i64 0, .int .i64 0, .slice none 0 0, .slice none 0 0, .string ⟨#[]⟩, .string ⟨#[]⟩] 48)
    have gs := World.grownBy_alloc yd (.cells #[.int .i64 0, .int .i64 0, .slice none 0 0, .slice none 0 0, .string ⟨#[]⟩, .string ⟨#[]⟩, .int .i64 0, .int .i64 0, .slice none 0 0, .slice none 0 0, .string ⟨#[]⟩, .string ⟨#[]⟩, .int .i64 0, .int .i64 0, .slice none 0 0, .slice none 0 0, .string ⟨#[]⟩, .string ⟨#[]⟩, .int .i64 0, .int .i64 0, .slice none 0 0, .slice none 0 0, .string ⟨#[]⟩, .string ⟨#[]⟩] 48) none
    have hlt : yd.heap.size < (yd.alloc (.cells #[.int .i64 0, .int .i64 0, .slice none 0 0, .slice none 0 0, .string ⟨#[]⟩, .string ⟨#[]⟩, .int .i64 0, .int .i64 0, .slice none 0 0, .slice none 0 0, .string ⟨#[]⟩, .string ⟨#[]⟩, .int .i64 0, .int .i64 0, .slice none 0 0, .slice none 0 0, .string ⟨#[]⟩, .string ⟨#[]⟩, .int .i64 0, .int .i64 0, .slice none 0 0, .slice none 0 0, .string ⟨#[]⟩, .string ⟨#[]⟩] 48)).heap.size := by rw [World.size_alloc]; omega
    have Hw8 := Lib.hid (g9.size)
    generalize hX : yd.alloc (.cells #[.int .i64 0, .int .i64 0, .slice none 0 0, .slice none 0 0, .string ⟨#[]⟩, .string ⟨#[]⟩, .int .i64 0, .int .i64 0, .slice none 0 0, .slice none 0 0, .string ⟨#[]⟩, .string ⟨#[]⟩, .int .i64 0, .int .i64 0, .slice none 0 0, .slice none 0 0, .string ⟨#[]⟩, .string ⟨#[]⟩, .int .i64 0, .int .i64 0, .slice none 0 0, .slice none 0 0, .string ⟨#[]⟩, .string ⟨#[]⟩] 48) = y0 at *
    obtain ⟨bq, hbq⟩ : ∃ bq, yd.heap.size = bq := ⟨_, rfl⟩
    rw [hbq] at hb0 hlt Hw8 ⊢
    clear hX
    have gy0 : w8.grownBy y0 none := g9.trans gs
    have GA := Lib.hid gs
    have HBQ := Lib.hid (fun W (g : y0.grownBy W none) => blk_kept g hb0)
    have HBL := Lib.hid hlt
    clear gs hb0 hlt
    refine wpAnyH_ready (rs := [25]) (by as_aux_lemma => kernel_rfl) (by simp) ?_
    refine AllReadyH.cons (o := _) rfl (fun K hK => ?_) AllReadyH.nil
    clear hHeld
    go_simp
    refine (HF1.out y0 (HW8.out.trans gy0)).mono ?_
    rintro e y1 ⟨v, rfl, o, gs⟩
    obtain ⟨FA, fc, rfl, hF, _⟩ := own_strs' o (fun s hs => Nat.le_trans (Hf2.out s hs) (by decide))
    have hff := own_far o
    have gy1 : w8.grownBy y1 none := gy0.trans gs
    have GA := Lib.hid (GA.out.trans gs)
    have HBQ := Lib.hid (fun W (g : y1.grownBy W none) => HBQ.out W (gs.trans g))
    have HFs := Lib.hid (fun W (g : y1.grownBy W none) => hF.kept g)
    have HFsf := Lib.hid (fun a e => Nat.ne_of_gt (Nat.lt_of_lt_of_le HBL.out (hff a e)))
    have HBL := Lib.hid (Nat.lt_of_lt_of_le HBL.out gs.size)
    clear o hF hff gs
    first | (refine hK.out _ _ ?_ (fun hHeld => ?_)) | (go_wp2_with fail; refine hK.out _ _ ?_ (fun hHeld => ?_))
    · (try dsimp only); (repeat (first | assumption | exact World.grownBy.refl _ _ | refine grown_drR ?_ | refine grown_alR ?_))
    clear hK K
    refine wpAnyH_ready (rs := [28]) (by as_aux_lemma => kernel_rfl) (by simp) ?_
    refine AllReadyH.cons (o := _) rfl (fun K hK => ?_) AllReadyH.nil
    clear hHeld
    go_simp
    refine (HF2.out y1 (HW8.out.trans gy1)).mono ?_
    rintro e y2 ⟨v, rfl, o, gs⟩
    obtain ⟨EA, ec, rfl, hF, _⟩ := own_strs' o (fun s hs => Nat.le_trans (He2.out s hs) (by decide))
    have hff := own_far o
    have gy2 : w8.grownBy y2 none := gy1.trans gs
    have GA := Lib.hid (GA.out.trans gs)
    have HBQ := Lib.hid (fun W (g : y2.grownBy W none) => HBQ.out W (gs.trans g))
    have HFs := Lib.hid (fun W (g : y2.grownBy W none) => HFs.out W (gs.trans g))
    have HEs := Lib.hid (fun W (g : y2.grownBy W none) => hF.kept g)
    have HEsf := Lib.hid (fun a e => Nat.ne_of_gt (Nat.lt_of_lt_of_le HBL.out (hff a e)))
    have HBL := Lib.hid (Nat.lt_of_lt_of_le HBL.out gs.size)
    clear o hF hff gs
    first | (refine hK.out _ _ ?_ (fun hHeld => ?_)) | (go_wp2_with fail; refine hK.out _ _ ?_ (fun hHeld => ?_))
    · (try dsimp only); (repeat (first | assumption | exact World.grownBy.refl _ _ | refine grown_drR ?_ | refine grown_alR ?_))
    clear hK K
    refine wpAnyH_take (i := 31) (oi := _) (v := ?_) rfl (by as_aux_lemma => kernel_rfl) (by as_aux_lemma => kernel_rfl) (by as_aux_lemma => kernel_rfl) (fun _ _ _ h => h) (Or.inl ⟨by rfl, ?_⟩) (by assumption) ?_
    rotate_left 1
    · (intro w hSw; (try dsimp only at hSw); go_simp; first | done | with_reducible rfl)
    try go_simp
    refine wpAnyH_ready (rs := [44]) (by as_aux_lemma => kernel_rfl) (by simp) ?_
    refine AllReadyH.cons (o := _) rfl (fun K hK => ?_) AllReadyH.nil
    clear hHeld
    go_simp
    refine (changed_k xn i (by constructor <;> omega) (by constructor <;> omega) SA2 (j - i) (xc - i) ((x.take j).drop i) RA rn rc P a1 b1 q0 q1 q2 q3 hq2 hq3 (by omega) (by omega) HLs.out HPs.out HSN.out HRN.out y2 (HSl.out y2 GA.out) (HR.out y2 GA.out)).mono ?_
    rintro e y3 ⟨n1, i1, LB, lb, lcb, L1, PB, pb, pcb, P1, rfl, hn1, hi1, hlb, hpb, hL1, hP1, hHL, hHP, gs, fL, fP⟩
    have gy3 : w8.grownBy y3 none := gy2.trans gs
    have GA := Lib.hid (GA.out.trans gs)
    have HBQ := Lib.hid (fun W (g : y3.grownBy W none) => HBQ.out W (gs.trans g))
    have HFs := Lib.hid (fun W (g : y3.grownBy W none) => HFs.out W (gs.trans g))
    have HEs := Lib.hid (fun W (g : y3.grownBy W none) => HEs.out W (gs.trans g))
    have HLB := Lib.hid (fun W (g : y3.grownBy W none) => hHL.kept g)
    have HPB := Lib.hid (fun W (g : y3.grownBy W none) => hHP.kept g)
    have HL1s := Lib.hid hL1
    have HLBf := Lib.hid (fun a e => Nat.ne_of_gt (Nat.lt_of_lt_of_le HBL.out (fL a e)))
    have HPBf := Lib.hid (fun a e => Nat.ne_of_gt (Nat.lt_of_lt_of_le HBL.out (fP a e)))
    have HBL := Lib.hid (Nat.lt_of_lt_of_le HBL.out gs.size)
    clear hL1 hP1 hHL hHP fL fP gs
    first | (refine hK.out _ _ ?_ (fun hHeld => ?_)) | (go_wp2_with fail; refine hK.out _ _ ?_ (fun hHeld => ?_))
    · (try dsimp only); (repeat (first | assumption | exact World.grownBy.refl _ _ | refine grown_drR ?_ | refine grown_alR ?_))
    clear hK K
    refine wpAnyH_take (i := 45) (oi := _) (v := ?_) rfl (by as_aux_lemma => kernel_rfl) (by as_aux_lemma => kernel_rfl) (by as_aux_lemma => kernel_rfl) (fun _ _ _ h => h) (Or.inl ⟨by rfl, ?_⟩) (by assumption) ?_
    rotate_left 1
    · (intro w hSw; (try dsimp only at hSw); go_simp; first | done | with_reducible rfl)
    try go_simp
    refine wpAnyH_ready (rs := [47]) (by as_aux_lemma => kernel_rfl) (by simp) ?_
    refine AllReadyH.cons (o := _) rfl (fun K hK => ?_) AllReadyH.nil
    refine wp_store_row 48 _ _ (by rfl) bq #[.int .i64 xn, .int .i64 i, .slice SA2 (j - i) (xc - i), .slice RA rn rc, .string ⟨a1.toArray⟩, .string ⟨b1.toArray⟩, .int .i64 xn, .int .i64 I2, .slice TA tn tc, .slice YA yn yc, .string ⟨a1.toArray⟩, .string ⟨b1.toArray⟩, .int .i64 cN, .int .i64 cI, .slice FA fl1.length fc, .slice EA fl2.length ec, .string ⟨a1.toArray⟩, .string ⟨b1.toArray⟩, .int .i64 n1, .int .i64 i1, .slice LB lb lcb, .slice PB pb pcb, .string ⟨a1.toArray⟩, .string ⟨b1.toArray⟩] (by rfl) (by rfl) 48 #[.int .i64 0, .int .i64 0, .slice none 0 0, .slice none 0 0, .string ⟨#[]⟩, .string ⟨#[]⟩, .int .i64 0, .int .i64 0, .slice none 0 0, .slice none 0 0, .string ⟨#[]⟩, .string ⟨#[]⟩, .int .i64 0, .int .i64 0, .slice none 0 0, .slice none 0 0, .string ⟨#[]⟩, .string ⟨#[]⟩, .int .i64 0, .int .i64 0, .slice none 0 0, .slice none 0 0, .string ⟨#[]⟩, .string ⟨#[]⟩] (HBQ.out y3 (World.grownBy.refl _ _)) (by kernel_rfl) (by rfl) (one24 ..) ?_
    have hsr := grown_setRow y3 bq #[.int .i64 xn, .int .i64 i, .slice SA2 (j - i) (xc - i), .slice RA rn rc, .string ⟨a1.toArray⟩, .string ⟨b1.toArray⟩, .int .i64 xn, .int .i64 I2, .slice TA tn tc, .slice YA yn yc, .string ⟨a1.toArray⟩, .string ⟨b1.toArray⟩, .int .i64 cN, .int .i64 cI, .slice FA fl1.length fc, .slice EA fl2.length ec, .string ⟨a1.toArray⟩, .string ⟨b1.toArray⟩, .int .i64 n1, .int .i64 i1, .slice LB lb lcb, .slice PB pb pcb, .string ⟨a1.toArray⟩, .string ⟨b1.toArray⟩]
    have hw := setRow_heap y3 bq _ #[.int .i64 xn, .int .i64 i, .slice SA2 (j - i) (xc - i), .slice RA rn rc, .string ⟨a1.toArray⟩, .string ⟨b1.toArray⟩, .int .i64 xn, .int .i64 I2, .slice TA tn tc, .slice YA yn yc, .string ⟨a1.toArray⟩, .string ⟨b1.toArray⟩, .int .i64 cN, .int .i64 cI, .slice FA fl1.length fc, .slice EA fl2.length ec, .string ⟨a1.toArray⟩, .string ⟨b1.toArray⟩, .int .i64 n1, .int .i64 i1, .slice LB lb lcb, .slice PB pb pcb, .string ⟨a1.toArray⟩, .string ⟨b1.toArray⟩] 48 (0, 0) (HBQ.out y3 (World.grownBy.refl _ _))
    have gA := GA.out.andThen hsr (fun r e => by injection e with e; exact .inl (Nat.le_of_eq (hbq.trans e)))
    have gF : w8.grownBy (y3.setRow bq #[.int .i64 xn, .int .i64 i, .slice SA2 (j - i) (xc - i), .slice RA rn rc, .string ⟨a1.toArray⟩, .string ⟨b1.toArray⟩, .int .i64 xn, .int .i64 I2, .slice TA tn tc, .slice YA yn yc, .string ⟨a1.toArray⟩, .string ⟨b1.toArray⟩, .int .i64 cN, .int .i64 cI, .slice FA fl1.length fc, .slice EA fl2.length ec, .string ⟨a1.toArray⟩, .string ⟨b1.toArray⟩, .int .i64 n1, .int .i64 i1, .slice LB lb lcb, .slice PB pb pcb, .string ⟨a1.toArray⟩, .string ⟨b1.toArray⟩]) none := gy3.andThen hsr (fun r e => by injection e with e; exact .inl (Nat.le_trans Hw8.out (Nat.le_of_eq e)))
    refine hK.out _ _ gF (fun hHeld => ?_)
    clear hK K
    refine wpAnyH_done (by as_aux_lemma => kernel_rfl) ?_ _
    refine NoPanic.normal ?_
    go_simp
    go_wp2_with fail
    go_meet
    refine ⟨bq, rfl, gF, fun k hk => ?_⟩
    match k, hk with
    | 0, _ => unfold ClOk; exact ⟨xn, i, SA2, j - i, xc - i, _, RA, rn, rc, P, a1, b1, (by constructor <;> omega), (by constructor <;> omega), cell_at hw rfl, cell_at hw rfl, cell_at hw rfl, cell_at hw rfl, cell_at hw rfl, cell_at hw rfl, HSl.out _ gA, HR.out _ gA, by omega, by omega, fun s hs => Nat.le_trans (HLs.out s hs) (by decide)⟩
    | 1, _ => unfold ClOk; exact ⟨xn, I2, TA, tn, tc, T2, YA, yn, yc, P2, a1, b1, (by constructor <;> omega), (by constructor <;> omega), cell_at hw rfl, cell_at hw rfl, cell_at hw rfl, cell_at hw rfl, cell_at hw rfl, cell_at hw rfl, HT.out _ gA, HY.out _ gA, by omega, by omega, fun s hs => hxsh.out s (hT1.out s hs)⟩
    | 2, _ => unfold ClOk; exact ⟨cN, cI, FA, fl1.length, fc, fl1, EA, fl2.length, ec, fl2, a1, b1, hcN, hcI, cell_at hw rfl, cell_at hw rfl, cell_at hw rfl, cell_at hw rfl, cell_at hw rfl, cell_at hw rfl, (HFs.out y3 (World.grownBy.refl _ _)).far HFsf.out hsr, (HEs.out y3 (World.grownBy.refl _ _)).far HEsf.out hsr, by omega, by omega, fun s hs => Nat.le_trans (Hf2.out s hs) (by decide)⟩
    | 3, _ => unfold ClOk; exact ⟨n1, i1, LB, lb, lcb, L1, PB, pb, pcb, P1, a1, b1, hn1, hi1, cell_at hw rfl, cell_at hw rfl, cell_at hw rfl, cell_at hw rfl, cell_at hw rfl, cell_at hw rfl, (HLB.out y3 (World.grownBy.refl _ _)).far HLBf.out hsr, (HPB.out y3 (World.grownBy.refl _ _)).far HPBf.out hsr, by omega, by omega, fun s hs => Nat.le_trans (HL1s.out s hs) (by decide)⟩
  case rest =>
  obtain ⟨b24, rfl, g10, HCl⟩ := hcut
  clear c0 c1 c2 c3 r0 r1 r2 r3 t1 t2 hsl g9
  have G10 := Lib.hid (G8.out.trans g10)
  have HCl := Lib.hid (fun W (g : wc.grownBy W none) k hk => (HCl k hk).kept g)
  have HGr := Lib.hid (fun W (g : wc.grownBy W none) => HGr.out W (g10.trans g))
  clear g10 HSl HSN HLs HPs HF1 HF2 Hf1 Hf2 He1 He2 HX HR HT HY HTN HYN hT1 hP2 H12 hxsh HXN HRN Hp8 HC
  go_wp2_with fail
  go_loopw [25] (fun z wr => ∃ k : Nat, k ≤ 4 ∧ z = .int .i64 k ∧ wc.grownBy wr none) (fun z _ => 4 - (intOf z).toNat)
  case atStart => exact ⟨0, Nat.zero_le _, rfl, World.grownBy.refl _ _⟩
  case round =>
    obtain ⟨k, hk, rfl, hg⟩ := hrel
    by_cases hlt : k < 4
    · as_aux_lemma =>
      obtain ⟨eN, eI, eL, el, elc, eLL, eP, ep, epc, ePL, eF, eT, hN, hI, z0, z1, z2, z3, z4, z5, sL, sP, hlm, hp, hsl⟩ := HCl.out wr hg k hlt
      have r1 : (0 : Int) ≤ (k : Int) := by omega
      have r2 : (k : Int) < 4 := by omega
      have HG := Lib.hid hg
      have sL := Lib.hid sL
      have sP := Lib.hid sP
      have hN := Lib.hid hN
      have hI := Lib.hid hI
      clear hg
      go_upto_region 17 with fail
      have gA := World.grownBy_alloc wr (.cells #[.int .i64 eN, .int .i64 eI, .slice eL el elc, .slice eP ep epc, .string ⟨eF.toArray⟩, .string ⟨eT.toArray⟩] 46) none
      have hcl : Cl (wr.alloc (.cells #[.int .i64 eN, .int .i64 eI, .slice eL el elc, .slice eP ep epc, .string ⟨eF.toArray⟩, .string ⟨eT.toArray⟩] 46)) wr.heap.size eN eI (.slice eL el elc) (.slice eP ep epc) eF eT := World.alloc_heap_new wr _
      generalize wr.alloc (.cells #[.int .i64 eN, .int .i64 eI, .slice eL el elc, .slice eP ep epc, .string ⟨eF.toArray⟩, .string ⟨eT.toArray⟩] 46) = wz at *
      generalize wr.heap.size = b26 at *
      have HCc := Lib.hid (fun W (g : wz.grownBy W none) => hcl.grown g (by simp))
      have sL := Lib.hid (sL.out.kept gA)
      have sP := Lib.hid (sP.out.kept gA)
      have HG := Lib.hid (HG.out.trans gA)
      have HV1 := Lib.hid (fun W (g : wz.grownBy W none) => verify_g R eN eI hN.out hI.out eL el elc eLL eP ep epc ePL hlm hp W (sL.out.kept g) (sP.out.kept g))
      have HV2 := Lib.hid (fun W (g : wz.grownBy W none) => rver_g R eN eI hN.out hI.out eL el elc eLL eP ep epc ePL hsl hlm W (sL.out.kept g) (sP.out.kept g))
      have HW1 := Lib.hid (within_g R eN eI a1 b1 eL el elc eLL eP ep epc ePL hN.out hI.out hlm hp wz sL.out sP.out)
      have HW2 := Lib.hid (fun W (g : wz.grownBy W none) => rwithin_g R eN eI a1 b1 eL el elc eLL eP ep epc ePL hN.out hI.out hlm hp hsl W (sL.out.kept g) (sP.out.kept g))
      have HE1 := Lib.hid (fun W (g : wz.grownBy W none) => ext_g Old R (m : Int) eN eP ep epc ePL hp W (sP.out.kept g))
      have HE2 := Lib.hid (fun W (g : wz.grownBy W none) => rext_g Old R (m : Int) eN eP ep epc ePL W (sP.out.kept g))
      have HE3 := Lib.hid (fun W (g : wz.grownBy W none) => ext_g Old R eI eN eP ep epc ePL hp W (sP.out.kept g))
      have HE4 := Lib.hid (fun W (g : wz.grownBy W none) => rext_g Old R eI eN eP ep epc ePL W (sP.out.kept g))
      generalize winL R eN eI a1 b1 eLL ePL = wl at *
      generalize winB R eN eI a1 b1 eLL ePL = wb at *
      generalize verB R eN eI eLL ePL = vb at *
      generalize extB Old (m : Int) R eN ePL = eb1 at *
      generalize extB Old eI R eN ePL = eb2 at *
      clear gA hcl sL sP hN hI hsl hlm hp z0 z1 z2 z3 z4 z5
      have c0 := (HCc.out wz (World.grownBy.refl _ _)).c0
      have c1 := (HCc.out wz (World.grownBy.refl _ _)).c1
      have c2 := (HCc.out wz (World.grownBy.refl _ _)).c2
      have c3 := (HCc.out wz (World.grownBy.refl _ _)).c3
      go_wp2_with fail
      refine HW1.out.mono ?_
      rintro e x1 ⟨D1, d1, dc1, rfl, t1, _, g1⟩
      have c0 := gcellR g1 (by simp) c0
      have c1 := gcellR g1 (by simp) c1
      have c2 := gcellR g1 (by simp) c2
      have c3 := gcellR g1 (by simp) c3
      have G1 := Lib.hid g1
      clear g1 HW1
      go_wp2_with fail
      refine (HW2.out x1 G1.out).mono ?_
      rintro e x2 ⟨D2, d2, dc2, rfl, t2, _, g2⟩
      have c0 := gcellR g2 (by simp) c0
      have c1 := gcellR g2 (by simp) c1
      have c2 := gcellR g2 (by simp) c2
      have c3 := gcellR g2 (by simp) c3
      have GZ := Lib.hid (G1.out.trans g2)
      have HSm := Lib.hid (fun W (g : x2.grownBy W none) => same_k D1 D2 d1 dc1 d2 dc2 wl wl W ((t1.kept g2).kept g) (t2.kept g))
      rw [decide_eq_true rfl] at HSm
      clear g2 t1 t2 HW2 G1
      go_upto_region 19 with fail
      refine wp_region_noPanic ?_
      refine wp_region_held_drew (S := (fun w' => x2.grownBy w' none)) (by kernel_rfl) ?_ (fun hHeld => ?_)
      · (try dsimp only); (repeat (first | assumption | exact World.grownBy.refl _ _ | refine grown_drR ?_ | refine grown_alR ?_))
      refine wpAnyH_take (i := 0) (oi := _) (v := ?_) rfl (by as_aux_lemma => kernel_rfl) (by as_aux_lemma => kernel_rfl) (by as_aux_lemma => kernel_rfl) (fun _ _ _ h => h) (Or.inl ⟨by rfl, ?_⟩) (by assumption) ?_
      rotate_left 1
      · (intro w hSw; (try dsimp only at hSw); go_simp; first | done | with_reducible rfl)
      try go_simp
      refine wpAnyH_take (i := 1) (oi := _) (v := ?_) rfl (by as_aux_lemma => kernel_rfl) (by as_aux_lemma => kernel_rfl) (by as_aux_lemma => kernel_rfl) (fun _ _ _ h => h) (Or.inl ⟨by rfl, ?_⟩) (by assumption) ?_
      rotate_left 1
      · (intro w hSw; (try dsimp only at hSw); go_simp; first | done | with_reducible rfl)
      try go_simp
      refine wpAnyH_take (i := 2) (oi := _) (v := .int .i64 eN) rfl (by as_aux_lemma => kernel_rfl) (by as_aux_lemma => kernel_rfl) (by as_aux_lemma => kernel_rfl) (fun _ _ _ h => h) (Or.inl ⟨by kernel_rfl, ?_⟩) (by assumption) ?_
      · (intro w hSw; (try dsimp only at hSw); go_simp; have y := gcellR hSw (by simp) c0; clear hSw; go_simp; first | done | with_reducible rfl)
      try go_simp
      refine wpAnyH_take (i := 3) (oi := _) (v := ?_) rfl (by as_aux_lemma => kernel_rfl) (by as_aux_lemma => kernel_rfl) (by as_aux_lemma => kernel_rfl) (fun _ _ _ h => h) (Or.inl ⟨by rfl, ?_⟩) (by assumption) ?_
      rotate_left 1
      · (intro w hSw; (try dsimp only at hSw); go_simp; first | done | with_reducible rfl)
      try go_simp
      refine wpAnyH_take (i := 4) (oi := _) (v := .int .i64 eI) rfl (by as_aux_lemma => kernel_rfl) (by as_aux_lemma => kernel_rfl) (by as_aux_lemma => kernel_rfl) (fun _ _ _ h => h) (Or.inl ⟨by kernel_rfl, ?_⟩) (by assumption) ?_
      · (intro w hSw; (try dsimp only at hSw); go_simp; have y := gcellR hSw (by simp) c1; clear hSw; go_simp; first | done | with_reducible rfl)
      try go_simp
      refine wpAnyH_take (i := 5) (oi := _) (v := ?_) rfl (by as_aux_lemma => kernel_rfl) (by as_aux_lemma => kernel_rfl) (by as_aux_lemma => kernel_rfl) (fun _ _ _ h => h) (Or.inl ⟨by rfl, ?_⟩) (by assumption) ?_
      rotate_left 1
      · (intro w hSw; (try dsimp only at hSw); go_simp; first | done | with_reducible rfl)
      try go_simp
      refine wpAnyH_take (i := 6) (oi := _) (v := .slice eL el elc) rfl (by as_aux_lemma => kernel_rfl) (by as_aux_lemma => kernel_rfl) (by as_aux_lemma => kernel_rfl) (fun _ _ _ h => h) (Or.inl ⟨by kernel_rfl, ?_⟩) (by assumption) ?_
      · (intro w hSw; (try dsimp only at hSw); go_simp; have y := gcellR hSw (by simp) c2; clear hSw; go_simp; first | done | with_reducible rfl)
      try go_simp
      refine wpAnyH_take (i := 7) (oi := _) (v := ?_) rfl (by as_aux_lemma => kernel_rfl) (by as_aux_lemma => kernel_rfl) (by as_aux_lemma => kernel_rfl) (fun _ _ _ h => h) (Or.inl ⟨by rfl, ?_⟩) (by assumption) ?_
      rotate_left 1
      · (intro w hSw; (try dsimp only at hSw); go_simp; first | done | with_reducible rfl)
      try go_simp
      refine wpAnyH_take (i := 8) (oi := _) (v := .slice eP ep epc) rfl (by as_aux_lemma => kernel_rfl) (by as_aux_lemma => kernel_rfl) (by as_aux_lemma => kernel_rfl) (fun _ _ _ h => h) (Or.inl ⟨by kernel_rfl, ?_⟩) (by assumption) ?_
      · (intro w hSw; (try dsimp only at hSw); go_simp; have y := gcellR hSw (by simp) c3; clear hSw; go_simp; first | done | with_reducible rfl)
      try go_simp
      refine wpAnyH_take (i := 10) (oi := _) (v := ?_) rfl (by as_aux_lemma => kernel_rfl) (by as_aux_lemma => kernel_rfl) (by as_aux_lemma => kernel_rfl) (fun _ _ _ h => h) (Or.inl ⟨by rfl, ?_⟩) (by assumption) ?_
      rotate_left 1
      · (intro w hSw; (try dsimp only at hSw); go_simp; first | done | with_reducible rfl)
      try go_simp
      refine wpAnyH_take (i := 11) (oi := _) (v := ?_) rfl (by as_aux_lemma => kernel_rfl) (by as_aux_lemma => kernel_rfl) (by as_aux_lemma => kernel_rfl) (fun _ _ _ h => h) (Or.inl ⟨by rfl, ?_⟩) (by assumption) ?_
      rotate_left 1
      · (intro w hSw; (try dsimp only at hSw); go_simp; first | done | with_reducible rfl)
      try go_simp
      refine wpAnyH_take (i := 12) (oi := _) (v := .int .i64 eN) rfl (by as_aux_lemma => kernel_rfl) (by as_aux_lemma => kernel_rfl) (by as_aux_lemma => kernel_rfl) (fun _ _ _ h => h) (Or.inl ⟨by kernel_rfl, ?_⟩) (by assumption) ?_
      · (intro w hSw; (try dsimp only at hSw); go_simp; have y := gcellR hSw (by simp) c0; clear hSw; go_simp; first | done | with_reducible rfl)
      try go_simp
      refine wpAnyH_take (i := 13) (oi := _) (v := ?_) rfl (by as_aux_lemma => kernel_rfl) (by as_aux_lemma => kernel_rfl) (by as_aux_lemma => kernel_rfl) (fun _ _ _ h => h) (Or.inl ⟨by rfl, ?_⟩) (by assumption) ?_
      rotate_left 1
      · (intro w hSw; (try dsimp only at hSw); go_simp; first | done | with_reducible rfl)
      try go_simp
      refine wpAnyH_take (i := 14) (oi := _) (v := .int .i64 eI) rfl (by as_aux_lemma => kernel_rfl) (by as_aux_lemma => kernel_rfl) (by as_aux_lemma => kernel_rfl) (fun _ _ _ h => h) (Or.inl ⟨by kernel_rfl, ?_⟩) (by assumption) ?_
      · (intro w hSw; (try dsimp only at hSw); go_simp; have y := gcellR hSw (by simp) c1; clear hSw; go_simp; first | done | with_reducible rfl)
      try go_simp
      refine wpAnyH_take (i := 15) (oi := _) (v := ?_) rfl (by as_aux_lemma => kernel_rfl) (by as_aux_lemma => kernel_rfl) (by as_aux_lemma => kernel_rfl) (fun _ _ _ h => h) (Or.inl ⟨by rfl, ?_⟩) (by assumption) ?_
      rotate_left 1
      · (intro w hSw; (try dsimp only at hSw); go_simp; first | done | with_reducible rfl)
      try go_simp
      refine wpAnyH_take (i := 16) (oi := _) (v := .slice eL el elc) rfl (by as_aux_lemma => kernel_rfl) (by as_aux_lemma => kernel_rfl) (by as_aux_lemma => kernel_rfl) (fun _ _ _ h => h) (Or.inl ⟨by kernel_rfl, ?_⟩) (by assumption) ?_
      · (intro w hSw; (try dsimp only at hSw); go_simp; have y := gcellR hSw (by simp) c2; clear hSw; go_simp; first | done | with_reducible rfl)
      try go_simp
      refine wpAnyH_take (i := 17) (oi := _) (v := ?_) rfl (by as_aux_lemma => kernel_rfl) (by as_aux_lemma => kernel_rfl) (by as_aux_lemma => kernel_rfl) (fun _ _ _ h => h) (Or.inl ⟨by rfl, ?_⟩) (by assumption) ?_
      rotate_left 1
      · (intro w hSw; (try dsimp only at hSw); go_simp; first | done | with_reducible rfl)
      try go_simp
      refine wpAnyH_take (i := 18) (oi := _) (v := .slice eP ep epc) rfl (by as_aux_lemma => kernel_rfl) (by as_aux_lemma => kernel_rfl) (by as_aux_lemma => kernel_rfl) (fun _ _ _ h => h) (Or.inl ⟨by kernel_rfl, ?_⟩) (by assumption) ?_
      · (intro w hSw; (try dsimp only at hSw); go_simp; have y := gcellR hSw (by simp) c3; clear hSw; go_simp; first | done | with_reducible rfl)
      try go_simp
      refine wpAnyH_ready (rs := [9]) (by as_aux_lemma => kernel_rfl) (by simp) ?_
      refine AllReadyH.cons (o := _) rfl (fun K hK => ?_) AllReadyH.nil
      go_simp
      refine (HV1.out x2.drew (GZ.out.trans (grown_dr (World.grownBy.refl x2 none)))).mono ?_
      rintro e x3 ⟨rfl, g3⟩
      have gx3 : x2.grownBy x3 none := (grown_dr (World.grownBy.refl x2 none)).trans g3
      first | (refine hK.out _ _ ?_ (fun hHeld => ?_)) | (go_wp2_with fail; refine hK.out _ _ ?_ (fun hHeld => ?_))
      · (try dsimp only); (repeat (first | assumption | exact World.grownBy.refl _ _ | refine grown_drR ?_ | refine grown_alR ?_))
      clear hK K
      refine wpAnyH_ready (rs := [19]) (by as_aux_lemma => kernel_rfl) (by simp) ?_
      refine AllReadyH.cons (o := _) rfl (fun K hK => ?_) AllReadyH.nil
      go_simp
      refine (HV2.out x3 (GZ.out.trans gx3)).mono ?_
      rintro e x4 ⟨rfl, g4⟩
      have gx4 : x2.grownBy x4 none := gx3.trans g4
      first | (refine hK.out _ _ ?_ (fun hHeld => ?_)) | (go_wp2_with fail; refine hK.out _ _ ?_ (fun hHeld => ?_))
      · (try dsimp only); (repeat (first | assumption | exact World.grownBy.refl _ _ | refine grown_drR ?_ | refine grown_alR ?_))
      clear hK K
      refine wpAnyH_take (i := 20) (oi := _) (v := .bool false) rfl (by as_aux_lemma => kernel_rfl) (by as_aux_lemma => kernel_rfl) (by as_aux_lemma => kernel_rfl) (fun _ _ _ h => h) (Or.inl ⟨by kernel_rfl, ?_⟩) (by assumption) ?_
      · (intro w hSw; (try dsimp only at hSw); go_simp; first | done | with_reducible rfl)
      try go_simp
      refine wpAnyH_take (i := 21) (oi := _) (v := ?_) rfl (by as_aux_lemma => kernel_rfl) (by as_aux_lemma => kernel_rfl) (by as_aux_lemma => kernel_rfl) (fun _ _ _ h => h) (Or.inl ⟨by rfl, ?_⟩) (by assumption) ?_
      rotate_left 1
      · (intro w hSw; (try dsimp only at hSw); go_simp; first | done | with_reducible rfl)
      try go_simp
      refine wpAnyH_take (i := 22) (oi := _) (v := ?_) rfl (by as_aux_lemma => kernel_rfl) (by as_aux_lemma => kernel_rfl) (by as_aux_lemma => kernel_rfl) (fun _ _ _ h => h) (Or.inl ⟨by kernel_rfl, ?_⟩) (by assumption) ?_
      rotate_left 1
      · (intro w hSw; (try dsimp only at hSw); go_simp; first | done | with_reducible rfl)
      try go_simp
      refine wpAnyH_take (i := 23) (oi := _) (v := ?_) rfl (by as_aux_lemma => kernel_rfl) (by as_aux_lemma => kernel_rfl) (by as_aux_lemma => kernel_rfl) (fun _ _ _ h => h) (Or.inl ⟨by kernel_rfl, ?_⟩) (by assumption) ?_
      rotate_left 1
      · (intro w hSw; (try dsimp only at hSw); go_simp; first | done | with_reducible rfl)
      try go_simp
      refine wpAnyH_take (i := 24) (oi := _) (v := .bool false) rfl (by as_aux_lemma => kernel_rfl) (by as_aux_lemma => kernel_rfl) (by as_aux_lemma => kernel_rfl) (fun _ _ _ h => h) (Or.inl ⟨by kernel_rfl, ?_⟩) (by assumption) ?_
      · (intro w hSw; (try dsimp only at hSw); go_simp; first | done | with_reducible rfl)
      try go_simp
      refine wpAnyH_take (i := 25) (oi := _) (v := ?_) rfl (by as_aux_lemma => kernel_rfl) (by as_aux_lemma => kernel_rfl) (by as_aux_lemma => kernel_rfl) (fun _ _ _ h => h) (Or.inl ⟨by rfl, ?_⟩) (by assumption) ?_
      rotate_left 1
      · (intro w hSw; (try dsimp only at hSw); go_simp; first | done | with_reducible rfl)
      try go_simp
      refine wpAnyH_take (i := 26) (oi := _) (v := ?_) rfl (by as_aux_lemma => kernel_rfl) (by as_aux_lemma => kernel_rfl) (by as_aux_lemma => kernel_rfl) (fun _ _ _ h => h) (Or.inl ⟨by rfl, ?_⟩) (by assumption) ?_
      rotate_left 1
      · (intro w hSw; (try dsimp only at hSw); go_simp; first | done | with_reducible rfl)
      try go_simp
      refine wpAnyH_take (i := 27) (oi := _) (v := ?_) rfl (by as_aux_lemma => kernel_rfl) (by as_aux_lemma => kernel_rfl) (by as_aux_lemma => kernel_rfl) (fun _ _ _ h => h) (Or.inl ⟨by kernel_rfl, ?_⟩) (by assumption) ?_
      rotate_left 1
      · (intro w hSw; (try dsimp only at hSw); go_simp; first | done | with_reducible rfl)
      try go_simp
      refine wpAnyH_take (i := 28) (oi := _) (v := ?_) rfl (by as_aux_lemma => kernel_rfl) (by as_aux_lemma => kernel_rfl) (by as_aux_lemma => kernel_rfl) (fun _ _ _ h => h) (Or.inl ⟨by kernel_rfl, ?_⟩) (by assumption) ?_
      rotate_left 1
      · (intro w hSw; (try dsimp only at hSw); go_simp; first | done | with_reducible rfl)
      try go_simp
      refine wpAnyH_ready (rs := [29]) (by as_aux_lemma => kernel_rfl) (by simp) ?_
      refine AllReadyH.cons (o := _) rfl (fun K hK => ?_) AllReadyH.nil
      go_simp
      refine (HSm.out x4 gx4).mono ?_
      rintro e x5 ⟨rfl, g5⟩
      have gx5 : x2.grownBy x5 none := gx4.trans g5
      first | (refine hK.out _ _ ?_ (fun hHeld => ?_)) | (go_wp2_with fail; refine hK.out _ _ ?_ (fun hHeld => ?_))
      · (try dsimp only); (repeat (first | assumption | exact World.grownBy.refl _ _ | refine grown_drR ?_ | refine grown_alR ?_))
      clear hK K
      refine wpAnyH_take (i := 30) (oi := _) (v := ?_) rfl (by as_aux_lemma => kernel_rfl) (by as_aux_lemma => kernel_rfl) (by as_aux_lemma => kernel_rfl) (fun _ _ _ h => h) (Or.inl ⟨by kernel_rfl, ?_⟩) (by assumption) ?_
      rotate_left 1
      · (intro w hSw; (try dsimp only at hSw); go_simp; first | done | with_reducible rfl)
      try go_simp
      refine wpAnyH_take (i := 31) (oi := _) (v := ?_) rfl (by as_aux_lemma => kernel_rfl) (by as_aux_lemma => kernel_rfl) (by as_aux_lemma => kernel_rfl) (fun _ _ _ h => h) (Or.inl ⟨by rfl, ?_⟩) (by assumption) ?_
      rotate_left 1
      · (intro w hSw; (try dsimp only at hSw); go_simp; first | done | with_reducible rfl)
      try go_simp
      refine wpAnyH_done (by as_aux_lemma => kernel_rfl) ?_ _
      refine NoPanic.normal ?_
      go_simp
      have c0 := gcellR gx5 (by simp) c0
      have c1 := gcellR gx5 (by simp) c1
      have c2 := gcellR gx5 (by simp) c2
      have c3 := gcellR gx5 (by simp) c3
      have GZ := Lib.hid (GZ.out.trans gx5)
      clear gx3 gx4 gx5 hHeld g3 g4 g5 HSm
      go_upto_region 21 with fail
      as_aux_lemma =>
      refine wp_region_noPanic ?_
      refine wp_region_held_drew (S := (fun w' => x5.grownBy w' none)) (by kernel_rfl) ?_ (fun hHeld => ?_)
      · (try dsimp only); (repeat (first | assumption | exact World.grownBy.refl _ _ | refine grown_drR ?_ | refine grown_alR ?_))
      refine wpAnyH_take (i := 0) (oi := _) (v := ?_) rfl (by as_aux_lemma => kernel_rfl) (by as_aux_lemma => kernel_rfl) (by as_aux_lemma => kernel_rfl) (fun _ _ _ h => h) (Or.inl ⟨by rfl, ?_⟩) (by assumption) ?_
      rotate_left 1
      · (intro w hSw; (try dsimp only at hSw); go_simp; first | done | with_reducible rfl)
      try go_simp
      refine wpAnyH_take (i := 1) (oi := _) (v := ?_) rfl (by as_aux_lemma => kernel_rfl) (by as_aux_lemma => kernel_rfl) (by as_aux_lemma => kernel_rfl) (fun _ _ _ h => h) (Or.inl ⟨by rfl, ?_⟩) (by assumption) ?_
      rotate_left 1
      · (intro w hSw; (try dsimp only at hSw); go_simp; first | done | with_reducible rfl)
      try go_simp
      refine wpAnyH_take (i := 2) (oi := _) (v := ?_) rfl (by as_aux_lemma => kernel_rfl) (by as_aux_lemma => kernel_rfl) (by as_aux_lemma => kernel_rfl) (fun _ _ _ h => h) (Or.inl ⟨by rfl, ?_⟩) (by assumption) ?_
      rotate_left 1
      · (intro w hSw; (try dsimp only at hSw); go_simp; first | done | with_reducible rfl)
      try go_simp
      refine wpAnyH_take (i := 3) (oi := _) (v := ?_) rfl (by as_aux_lemma => kernel_rfl) (by as_aux_lemma => kernel_rfl) (by as_aux_lemma => kernel_rfl) (fun _ _ _ h => h) (Or.inl ⟨by rfl, ?_⟩) (by assumption) ?_
      rotate_left 1
      · (intro w hSw; (try dsimp only at hSw); go_simp; first | done | with_reducible rfl)
      try go_simp
      refine wpAnyH_take (i := 4) (oi := _) (v := .int .i64 eN) rfl (by as_aux_lemma => kernel_rfl) (by as_aux_lemma => kernel_rfl) (by as_aux_lemma => kernel_rfl) (fun _ _ _ h => h) (Or.inl ⟨by kernel_rfl, ?_⟩) (by assumption) ?_
      · (intro w hSw; (try dsimp only at hSw); go_simp; have y := gcellR hSw (by simp) c0; clear hSw; go_simp; first | done | with_reducible rfl)
      try go_simp
      refine wpAnyH_take (i := 5) (oi := _) (v := ?_) rfl (by as_aux_lemma => kernel_rfl) (by as_aux_lemma => kernel_rfl) (by as_aux_lemma => kernel_rfl) (fun _ _ _ h => h) (Or.inl ⟨by rfl, ?_⟩) (by assumption) ?_
      rotate_left 1
      · (intro w hSw; (try dsimp only at hSw); go_simp; first | done | with_reducible rfl)
      try go_simp
      refine wpAnyH_take (i := 6) (oi := _) (v := .slice eP ep epc) rfl (by as_aux_lemma => kernel_rfl) (by as_aux_lemma => kernel_rfl) (by as_aux_lemma => kernel_rfl) (fun _ _ _ h => h) (Or.inl ⟨by kernel_rfl, ?_⟩) (by assumption) ?_
      · (intro w hSw; (try dsimp only at hSw); go_simp; have y := gcellR hSw (by simp) c3; clear hSw; go_simp; first | done | with_reducible rfl)
      try go_simp
      refine wpAnyH_take (i := 8) (oi := _) (v := ?_) rfl (by as_aux_lemma => kernel_rfl) (by as_aux_lemma => kernel_rfl) (by as_aux_lemma => kernel_rfl) (fun _ _ _ h => h) (Or.inl ⟨by rfl, ?_⟩) (by assumption) ?_
      rotate_left 1
      · (intro w hSw; (try dsimp only at hSw); go_simp; first | done | with_reducible rfl)
      try go_simp
      refine wpAnyH_take (i := 9) (oi := _) (v := ?_) rfl (by as_aux_lemma => kernel_rfl) (by as_aux_lemma => kernel_rfl) (by as_aux_lemma => kernel_rfl) (fun _ _ _ h => h) (Or.inl ⟨by rfl, ?_⟩) (by assumption) ?_
      rotate_left 1
      · (intro w hSw; (try dsimp only at hSw); go_simp; first | done | with_reducible rfl)
      try go_simp
      refine wpAnyH_take (i := 10) (oi := _) (v := ?_) rfl (by as_aux_lemma => kernel_rfl) (by as_aux_lemma => kernel_rfl) (by as_aux_lemma => kernel_rfl) (fun _ _ _ h => h) (Or.inl ⟨by rfl, ?_⟩) (by assumption) ?_
      rotate_left 1
      · (intro w hSw; (try dsimp only at hSw); go_simp; first | done | with_reducible rfl)
      try go_simp
      refine wpAnyH_take (i := 11) (oi := _) (v := ?_) rfl (by as_aux_lemma => kernel_rfl) (by as_aux_lemma => kernel_rfl) (by as_aux_lemma => kernel_rfl) (fun _ _ _ h => h) (Or.inl ⟨by rfl, ?_⟩) (by assumption) ?_
      rotate_left 1
      · (intro w hSw; (try dsimp only at hSw); go_simp; first | done | with_reducible rfl)
      try go_simp
      refine wpAnyH_take (i := 12) (oi := _) (v := .int .i64 eN) rfl (by as_aux_lemma => kernel_rfl) (by as_aux_lemma => kernel_rfl) (by as_aux_lemma => kernel_rfl) (fun _ _ _ h => h) (Or.inl ⟨by kernel_rfl, ?_⟩) (by assumption) ?_
      · (intro w hSw; (try dsimp only at hSw); go_simp; have y := gcellR hSw (by simp) c0; clear hSw; go_simp; first | done | with_reducible rfl)
      try go_simp
      refine wpAnyH_take (i := 13) (oi := _) (v := ?_) rfl (by as_aux_lemma => kernel_rfl) (by as_aux_lemma => kernel_rfl) (by as_aux_lemma => kernel_rfl) (fun _ _ _ h => h) (Or.inl ⟨by rfl, ?_⟩) (by assumption) ?_
      rotate_left 1
      · (intro w hSw; (try dsimp only at hSw); go_simp; first | done | with_reducible rfl)
      try go_simp
      refine wpAnyH_take (i := 14) (oi := _) (v := .slice eP ep epc) rfl (by as_aux_lemma => kernel_rfl) (by as_aux_lemma => kernel_rfl) (by as_aux_lemma => kernel_rfl) (fun _ _ _ h => h) (Or.inl ⟨by kernel_rfl, ?_⟩) (by assumption) ?_
      · (intro w hSw; (try dsimp only at hSw); go_simp; have y := gcellR hSw (by simp) c3; clear hSw; go_simp; first | done | with_reducible rfl)
      try go_simp
      refine wpAnyH_ready (rs := [7]) (by as_aux_lemma => kernel_rfl) (by simp) ?_
      refine AllReadyH.cons (o := _) rfl (fun K hK => ?_) AllReadyH.nil
      go_simp
      refine (HE1.out x5.drew (GZ.out.trans (grown_dr (World.grownBy.refl x5 none)))).mono ?_
      rintro e x6 ⟨rfl, g6⟩
      have gx6 : x5.grownBy x6 none := (grown_dr (World.grownBy.refl x5 none)).trans g6
      first | (refine hK.out _ _ ?_ (fun hHeld => ?_)) | (go_wp2_with fail; refine hK.out _ _ ?_ (fun hHeld => ?_))
      · (try dsimp only); (repeat (first | assumption | exact World.grownBy.refl _ _ | refine grown_drR ?_ | refine grown_alR ?_))
      clear hK K
      refine wpAnyH_ready (rs := [15]) (by as_aux_lemma => kernel_rfl) (by simp) ?_
      refine AllReadyH.cons (o := _) rfl (fun K hK => ?_) AllReadyH.nil
      go_simp
      refine (HE2.out x6 (GZ.out.trans gx6)).mono ?_
      rintro e x7 ⟨rfl, g7⟩
      have gx7 : x5.grownBy x7 none := gx6.trans g7
      first | (refine hK.out _ _ ?_ (fun hHeld => ?_)) | (go_wp2_with fail; refine hK.out _ _ ?_ (fun hHeld => ?_))
      · (try dsimp only); (repeat (first | assumption | exact World.grownBy.refl _ _ | refine grown_drR ?_ | refine grown_alR ?_))
      clear hK K
      refine wpAnyH_take (i := 16) (oi := _) (v := .bool false) rfl (by as_aux_lemma => kernel_rfl) (by as_aux_lemma => kernel_rfl) (by as_aux_lemma => kernel_rfl) (fun _ _ _ h => h) (Or.inl ⟨by kernel_rfl, ?_⟩) (by assumption) ?_
      · (intro w hSw; (try dsimp only at hSw); go_simp; first | done | with_reducible rfl)
      try go_simp
      refine wpAnyH_take (i := 17) (oi := _) (v := ?_) rfl (by as_aux_lemma => kernel_rfl) (by as_aux_lemma => kernel_rfl) (by as_aux_lemma => kernel_rfl) (fun _ _ _ h => h) (Or.inl ⟨by rfl, ?_⟩) (by assumption) ?_
      rotate_left 1
      · (intro w hSw; (try dsimp only at hSw); go_simp; first | done | with_reducible rfl)
      try go_simp
      refine wpAnyH_take (i := 18) (oi := _) (v := ?_) rfl (by as_aux_lemma => kernel_rfl) (by as_aux_lemma => kernel_rfl) (by as_aux_lemma => kernel_rfl) (fun _ _ _ h => h) (Or.inl ⟨by kernel_rfl, ?_⟩) (by assumption) ?_
      rotate_left 1
      · (intro w hSw; (try dsimp only at hSw); go_simp; first | done | with_reducible rfl)
      try go_simp
      refine wpAnyH_take (i := 19) (oi := _) (v := ?_) rfl (by as_aux_lemma => kernel_rfl) (by as_aux_lemma => kernel_rfl) (by as_aux_lemma => kernel_rfl) (fun _ _ _ h => h) (Or.inl ⟨by kernel_rfl, ?_⟩) (by assumption) ?_
      rotate_left 1
      · (intro w hSw; (try dsimp only at hSw); go_simp; first | done | with_reducible rfl)
      try go_simp
      refine wpAnyH_take (i := 20) (oi := _) (v := .int .i64 eI) rfl (by as_aux_lemma => kernel_rfl) (by as_aux_lemma => kernel_rfl) (by as_aux_lemma => kernel_rfl) (fun _ _ _ h => h) (Or.inl ⟨by kernel_rfl, ?_⟩) (by assumption) ?_
      · (intro w hSw; (try dsimp only at hSw); go_simp; have y := gcellR hSw (by simp) c1; clear hSw; go_simp; first | done | with_reducible rfl)
      try go_simp
      refine wpAnyH_take (i := 21) (oi := _) (v := ?_) rfl (by as_aux_lemma => kernel_rfl) (by as_aux_lemma => kernel_rfl) (by as_aux_lemma => kernel_rfl) (fun _ _ _ h => h) (Or.inl ⟨by kernel_rfl, ?_⟩) (by assumption) ?_
      rotate_left 1
      · (intro w hSw; (try dsimp only at hSw); go_simp; first | done | with_reducible rfl)
      try go_simp
      refine wpAnyH_take (i := 22) (oi := _) (v := ?_) rfl (by as_aux_lemma => kernel_rfl) (by as_aux_lemma => kernel_rfl) (by as_aux_lemma => kernel_rfl) (fun _ _ _ h => h) (Or.inl ⟨by kernel_rfl, ?_⟩) (by assumption) ?_
      rotate_left 1
      · (intro w hSw; (try dsimp only at hSw); go_simp; first | done | with_reducible rfl)
      try go_simp
      refine wpAnyH_take (i := 23) (oi := _) (v := .int .i64 eN) rfl (by as_aux_lemma => kernel_rfl) (by as_aux_lemma => kernel_rfl) (by as_aux_lemma => kernel_rfl) (fun _ _ _ h => h) (Or.inl ⟨by kernel_rfl, ?_⟩) (by assumption) ?_
      · (intro w hSw; (try dsimp only at hSw); go_simp; have y := gcellR hSw (by simp) c0; clear hSw; go_simp; first | done | with_reducible rfl)
      try go_simp
      refine wpAnyH_take (i := 24) (oi := _) (v := ?_) rfl (by as_aux_lemma => kernel_rfl) (by as_aux_lemma => kernel_rfl) (by as_aux_lemma => kernel_rfl) (fun _ _ _ h => h) (Or.inl ⟨by kernel_rfl, ?_⟩) (by assumption) ?_
      rotate_left 1
      · (intro w hSw; (try dsimp only at hSw); go_simp; first | done | with_reducible rfl)
      try go_simp
      refine wpAnyH_take (i := 25) (oi := _) (v := .slice eP ep epc) rfl (by as_aux_lemma => kernel_rfl) (by as_aux_lemma => kernel_rfl) (by as_aux_lemma => kernel_rfl) (fun _ _ _ h => h) (Or.inl ⟨by kernel_rfl, ?_⟩) (by assumption) ?_
      · (intro w hSw; (try dsimp only at hSw); go_simp; have y := gcellR hSw (by simp) c3; clear hSw; go_simp; first | done | with_reducible rfl)
      try go_simp
      refine wpAnyH_take (i := 27) (oi := _) (v := ?_) rfl (by as_aux_lemma => kernel_rfl) (by as_aux_lemma => kernel_rfl) (by as_aux_lemma => kernel_rfl) (fun _ _ _ h => h) (Or.inl ⟨by kernel_rfl, ?_⟩) (by assumption) ?_
      rotate_left 1
      · (intro w hSw; (try dsimp only at hSw); go_simp; first | done | with_reducible rfl)
      try go_simp
      refine wpAnyH_take (i := 28) (oi := _) (v := ?_) rfl (by as_aux_lemma => kernel_rfl) (by as_aux_lemma => kernel_rfl) (by as_aux_lemma => kernel_rfl) (fun _ _ _ h => h) (Or.inl ⟨by kernel_rfl, ?_⟩) (by assumption) ?_
      rotate_left 1
      · (intro w hSw; (try dsimp only at hSw); go_simp; first | done | with_reducible rfl)
      try go_simp
      refine wpAnyH_take (i := 29) (oi := _) (v := .int .i64 eI) rfl (by as_aux_lemma => kernel_rfl) (by as_aux_lemma => kernel_rfl) (by as_aux_lemma => kernel_rfl) (fun _ _ _ h => h) (Or.inl ⟨by kernel_rfl, ?_⟩) (by assumption) ?_
      · (intro w hSw; (try dsimp only at hSw); go_simp; have y := gcellR hSw (by simp) c1; clear hSw; go_simp; first | done | with_reducible rfl)
      try go_simp
      refine wpAnyH_take (i := 30) (oi := _) (v := ?_) rfl (by as_aux_lemma => kernel_rfl) (by as_aux_lemma => kernel_rfl) (by as_aux_lemma => kernel_rfl) (fun _ _ _ h => h) (Or.inl ⟨by kernel_rfl, ?_⟩) (by assumption) ?_
      rotate_left 1
      · (intro w hSw; (try dsimp only at hSw); go_simp; first | done | with_reducible rfl)
      try go_simp
      refine wpAnyH_take (i := 31) (oi := _) (v := ?_) rfl (by as_aux_lemma => kernel_rfl) (by as_aux_lemma => kernel_rfl) (by as_aux_lemma => kernel_rfl) (fun _ _ _ h => h) (Or.inl ⟨by kernel_rfl, ?_⟩) (by assumption) ?_
      rotate_left 1
      · (intro w hSw; (try dsimp only at hSw); go_simp; first | done | with_reducible rfl)
      try go_simp
      refine wpAnyH_take (i := 32) (oi := _) (v := .int .i64 eN) rfl (by as_aux_lemma => kernel_rfl) (by as_aux_lemma => kernel_rfl) (by as_aux_lemma => kernel_rfl) (fun _ _ _ h => h) (Or.inl ⟨by kernel_rfl, ?_⟩) (by assumption) ?_
      · (intro w hSw; (try dsimp only at hSw); go_simp; have y := gcellR hSw (by simp) c0; clear hSw; go_simp; first | done | with_reducible rfl)
      try go_simp
      refine wpAnyH_take (i := 33) (oi := _) (v := ?_) rfl (by as_aux_lemma => kernel_rfl) (by as_aux_lemma => kernel_rfl) (by as_aux_lemma => kernel_rfl) (fun _ _ _ h => h) (Or.inl ⟨by kernel_rfl, ?_⟩) (by assumption) ?_
      rotate_left 1
      · (intro w hSw; (try dsimp only at hSw); go_simp; first | done | with_reducible rfl)
      try go_simp
      refine wpAnyH_take (i := 34) (oi := _) (v := .slice eP ep epc) rfl (by as_aux_lemma => kernel_rfl) (by as_aux_lemma => kernel_rfl) (by as_aux_lemma => kernel_rfl) (fun _ _ _ h => h) (Or.inl ⟨by kernel_rfl, ?_⟩) (by assumption) ?_
      · (intro w hSw; (try dsimp only at hSw); go_simp; have y := gcellR hSw (by simp) c3; clear hSw; go_simp; first | done | with_reducible rfl)
      try go_simp
      refine wpAnyH_ready (rs := [26]) (by as_aux_lemma => kernel_rfl) (by simp) ?_
      refine AllReadyH.cons (o := _) rfl (fun K hK => ?_) AllReadyH.nil
      go_simp
      refine (HE3.out x7 (GZ.out.trans gx7)).mono ?_
      rintro e x8 ⟨rfl, g8⟩
      have gx8 : x5.grownBy x8 none := gx7.trans g8
      first | (refine hK.out _ _ ?_ (fun hHeld => ?_)) | (go_wp2_with fail; refine hK.out _ _ ?_ (fun hHeld => ?_))
      · (try dsimp only); (repeat (first | assumption | exact World.grownBy.refl _ _ | refine grown_drR ?_ | refine grown_alR ?_))
      clear hK K
      refine wpAnyH_ready (rs := [35]) (by as_aux_lemma => kernel_rfl) (by simp) ?_
      refine AllReadyH.cons (o := _) rfl (fun K hK => ?_) AllReadyH.nil
      go_simp
      refine (HE4.out x8 (GZ.out.trans gx8)).mono ?_
      rintro e x9 ⟨rfl, g9⟩
      have gx9 : x5.grownBy x9 none := gx8.trans g9
      first | (refine hK.out _ _ ?_ (fun hHeld => ?_)) | (go_wp2_with fail; refine hK.out _ _ ?_ (fun hHeld => ?_))
      · (try dsimp only); (repeat (first | assumption | exact World.grownBy.refl _ _ | refine grown_drR ?_ | refine grown_alR ?_))
      clear hK K
      refine wpAnyH_take (i := 36) (oi := _) (v := .bool false) rfl (by as_aux_lemma => kernel_rfl) (by as_aux_lemma => kernel_rfl) (by as_aux_lemma => kernel_rfl) (fun _ _ _ h => h) (Or.inl ⟨by kernel_rfl, ?_⟩) (by assumption) ?_
      · (intro w hSw; (try dsimp only at hSw); go_simp; first | done | with_reducible rfl)
      try go_simp
      refine wpAnyH_take (i := 37) (oi := _) (v := ?_) rfl (by as_aux_lemma => kernel_rfl) (by as_aux_lemma => kernel_rfl) (by as_aux_lemma => kernel_rfl) (fun _ _ _ h => h) (Or.inl ⟨by rfl, ?_⟩) (by assumption) ?_
      rotate_left 1
      · (intro w hSw; (try dsimp only at hSw); go_simp; first | done | with_reducible rfl)
      try go_simp
      refine wpAnyH_done (by as_aux_lemma => kernel_rfl) ?_ _
      refine NoPanic.normal ?_
      go_simp
      have GZ := Lib.hid (GZ.out.trans gx9)
      clear gx6 gx7 gx8 gx9 hHeld g6 g7 g8 g9 HE1 HE2 HE3 HE4 c0 c1 c2 c3 HCc
      go_wp2_with fail
      exact ⟨⟨k + 1, by omega, by go_num, HG.out.trans GZ.out⟩, by simp [intOf]; omega⟩
    · as_aux_lemma =>
      obtain rfl : k = 4 := by omega
      have r0 := (HQ.out wr (G10.out.trans hg)).c0
      have r1 := (HQ.out wr (G10.out.trans hg)).c1
      have r2 := (HQ.out wr (G10.out.trans hg)).c2
      have r3 := (HQ.out wr (G10.out.trans hg)).c3
      have hGw := Lib.hid (HGr.out wr hg)
      have HG := Lib.hid hg
      have Hg1 : Hid (∀ s ∈ Gr, s.length ≤ 100) := Lib.hid (fun s hs => Nat.le_trans (Hg8.out s hs) (by decide))
      clear hg
      go_wp2_with fail
      refine (changed_k 0 0 (by constructor <;> omega) (by constructor <;> omega) none 0 0 [] GA gn gc Gr [] [] q0 q1 q2 q3 hq2 hq3 (by omega) (by omega) (fun s hs => by cases hs) Hg1.out (fun _ => rfl) HGN.out wr (strs_nil wr) hGw.out).mono ?_
      rintro e v1 ⟨n1, i1, LB, lb, lcb, L1, PB, pb, pcb, P1, rfl, hn1, hi1, hlb, hpb, hL1, hP1, hHL, hHP, gs, fL, fP⟩
      have hGw := Lib.hid (hGw.out.kept gs)
      have HG := Lib.hid (HG.out.trans gs)
      have hHP := Lib.hid hHP
      clear hn1 hi1 hL1 hP1 hHL gs fL fP r0 r1 r2 r3
      go_upto_region 24 with fail
      have gA := World.grownBy_alloc v1 (.cells #[.int .i64 n1, .int .i64 i1, .slice LB lb lcb, .slice PB pb pcb, .string ⟨#[]⟩, .string ⟨#[]⟩] 46) none
      have hcl : Cl (v1.alloc (.cells #[.int .i64 n1, .int .i64 i1, .slice LB lb lcb, .slice PB pb pcb, .string ⟨#[]⟩, .string ⟨#[]⟩] 46)) v1.heap.size n1 i1 (.slice LB lb lcb) (.slice PB pb pcb) [] [] := World.alloc_heap_new v1 _
      generalize v1.alloc (.cells #[.int .i64 n1, .int .i64 i1, .slice LB lb lcb, .slice PB pb pcb, .string ⟨#[]⟩, .string ⟨#[]⟩] 46) = v2 at *
      generalize v1.heap.size = b31 at *
      have hGw := Lib.hid (hGw.out.kept gA)
      have hHP := Lib.hid (hHP.out.kept gA)
      have HG := Lib.hid (HG.out.trans gA)
      have c3 := hcl.c3
      have HE1 := Lib.hid (fun W (g : v2.grownBy W none) => ext_g Old R (m : Int) (xn : Int) GA gn gc Gr (by omega) W (hGw.out.kept g))
      have HE2 := Lib.hid (fun W (g : v2.grownBy W none) => rext_g Old R (m : Int) (xn : Int) GA gn gc Gr W (hGw.out.kept g))
      have HE3 := Lib.hid (fun W (g : v2.grownBy W none) => ext_g Old R (m : Int) (xn : Int) PB pb pcb P1 (by omega) W (hHP.out.kept g))
      have HE4 := Lib.hid (fun W (g : v2.grownBy W none) => rext_g Old R (m : Int) (xn : Int) PB pb pcb P1 W (hHP.out.kept g))
      generalize extB Old (m : Int) R (xn : Int) Gr = eb1 at *
      generalize extB Old (m : Int) R (xn : Int) P1 = eb2 at *
      clear hcl gA hGw hHP
      refine wp_region_noPanic ?_
      refine wp_region_held_drew (S := (fun w' => v2.grownBy w' none)) (by kernel_rfl) ?_ (fun hHeld => ?_)
      · (try dsimp only); (repeat (first | assumption | exact World.grownBy.refl _ _ | refine grown_drR ?_ | refine grown_alR ?_))
      refine wpAnyH_take (i := 0) (oi := _) (v := ?_) rfl (by as_aux_lemma => kernel_rfl) (by as_aux_lemma => kernel_rfl) (by as_aux_lemma => kernel_rfl) (fun _ _ _ h => h) (Or.inl ⟨by rfl, ?_⟩) (by assumption) ?_
      rotate_left 1
      · (intro w hSw; (try dsimp only at hSw); go_simp; first | done | with_reducible rfl)
      try go_simp
      refine wpAnyH_take (i := 1) (oi := _) (v := ?_) rfl (by as_aux_lemma => kernel_rfl) (by as_aux_lemma => kernel_rfl) (by as_aux_lemma => kernel_rfl) (fun _ _ _ h => h) (Or.inl ⟨by rfl, ?_⟩) (by assumption) ?_
      rotate_left 1
      · (intro w hSw; (try dsimp only at hSw); go_simp; first | done | with_reducible rfl)
      try go_simp
      refine wpAnyH_take (i := 2) (oi := _) (v := ?_) rfl (by as_aux_lemma => kernel_rfl) (by as_aux_lemma => kernel_rfl) (by as_aux_lemma => kernel_rfl) (fun _ _ _ h => h) (Or.inl ⟨by kernel_rfl, ?_⟩) (by assumption) ?_
      rotate_left 1
      · (intro w hSw; (try dsimp only at hSw); go_simp; first | done | with_reducible rfl)
      try go_simp
      refine wpAnyH_take (i := 3) (oi := _) (v := ?_) rfl (by as_aux_lemma => kernel_rfl) (by as_aux_lemma => kernel_rfl) (by as_aux_lemma => kernel_rfl) (fun _ _ _ h => h) (Or.inl ⟨by kernel_rfl, ?_⟩) (by assumption) ?_
      rotate_left 1
      · (intro w hSw; (try dsimp only at hSw); go_simp; first | done | with_reducible rfl)
      try go_simp
      refine wpAnyH_take (i := 4) (oi := _) (v := ?_) rfl (by as_aux_lemma => kernel_rfl) (by as_aux_lemma => kernel_rfl) (by as_aux_lemma => kernel_rfl) (fun _ _ _ h => h) (Or.inl ⟨by kernel_rfl, ?_⟩) (by assumption) ?_
      rotate_left 1
      · (intro w hSw; (try dsimp only at hSw); go_simp; first | done | with_reducible rfl)
      try go_simp
      refine wpAnyH_take (i := 5) (oi := _) (v := ?_) rfl (by as_aux_lemma => kernel_rfl) (by as_aux_lemma => kernel_rfl) (by as_aux_lemma => kernel_rfl) (fun _ _ _ h => h) (Or.inl ⟨by kernel_rfl, ?_⟩) (by assumption) ?_
      rotate_left 1
      · (intro w hSw; (try dsimp only at hSw); go_simp; first | done | with_reducible rfl)
      try go_simp
      refine wpAnyH_take (i := 6) (oi := _) (v := ?_) rfl (by as_aux_lemma => kernel_rfl) (by as_aux_lemma => kernel_rfl) (by as_aux_lemma => kernel_rfl) (fun _ _ _ h => h) (Or.inl ⟨by kernel_rfl, ?_⟩) (by assumption) ?_
      rotate_left 1
      · (intro w hSw; (try dsimp only at hSw); go_simp; first | done | with_reducible rfl)
      try go_simp
      refine wpAnyH_take (i := 7) (oi := _) (v := ?_) rfl (by as_aux_lemma => kernel_rfl) (by as_aux_lemma => kernel_rfl) (by as_aux_lemma => kernel_rfl) (fun _ _ _ h => h) (Or.inl ⟨by kernel_rfl, ?_⟩) (by assumption) ?_
      rotate_left 1
      · (intro w hSw; (try dsimp only at hSw); go_simp; first | done | with_reducible rfl)
      try go_simp
      refine wpAnyH_take (i := 9) (oi := _) (v := ?_) rfl (by as_aux_lemma => kernel_rfl) (by as_aux_lemma => kernel_rfl) (by as_aux_lemma => kernel_rfl) (fun _ _ _ h => h) (Or.inl ⟨by kernel_rfl, ?_⟩) (by assumption) ?_
      rotate_left 1
      · (intro w hSw; (try dsimp only at hSw); go_simp; first | done | with_reducible rfl)
      try go_simp
      refine wpAnyH_take (i := 10) (oi := _) (v := ?_) rfl (by as_aux_lemma => kernel_rfl) (by as_aux_lemma => kernel_rfl) (by as_aux_lemma => kernel_rfl) (fun _ _ _ h => h) (Or.inl ⟨by kernel_rfl, ?_⟩) (by assumption) ?_
      rotate_left 1
      · (intro w hSw; (try dsimp only at hSw); go_simp; first | done | with_reducible rfl)
      try go_simp
      refine wpAnyH_take (i := 11) (oi := _) (v := ?_) rfl (by as_aux_lemma => kernel_rfl) (by as_aux_lemma => kernel_rfl) (by as_aux_lemma => kernel_rfl) (fun _ _ _ h => h) (Or.inl ⟨by kernel_rfl, ?_⟩) (by assumption) ?_
      rotate_left 1
      · (intro w hSw; (try dsimp only at hSw); go_simp; first | done | with_reducible rfl)
      try go_simp
      refine wpAnyH_take (i := 12) (oi := _) (v := ?_) rfl (by as_aux_lemma => kernel_rfl) (by as_aux_lemma => kernel_rfl) (by as_aux_lemma => kernel_rfl) (fun _ _ _ h => h) (Or.inl ⟨by kernel_rfl, ?_⟩) (by assumption) ?_
      rotate_left 1
      · (intro w hSw; (try dsimp only at hSw); go_simp; first | done | with_reducible rfl)
      try go_simp
      refine wpAnyH_take (i := 13) (oi := _) (v := ?_) rfl (by as_aux_lemma => kernel_rfl) (by as_aux_lemma => kernel_rfl) (by as_aux_lemma => kernel_rfl) (fun _ _ _ h => h) (Or.inl ⟨by kernel_rfl, ?_⟩) (by assumption) ?_
      rotate_left 1
      · (intro w hSw; (try dsimp only at hSw); go_simp; first | done | with_reducible rfl)
      try go_simp
      refine wpAnyH_take (i := 14) (oi := _) (v := ?_) rfl (by as_aux_lemma => kernel_rfl) (by as_aux_lemma => kernel_rfl) (by as_aux_lemma => kernel_rfl) (fun _ _ _ h => h) (Or.inl ⟨by kernel_rfl, ?_⟩) (by assumption) ?_
      rotate_left 1
      · (intro w hSw; (try dsimp only at hSw); go_simp; first | done | with_reducible rfl)
      try go_simp
      refine wpAnyH_ready (rs := [8]) (by as_aux_lemma => kernel_rfl) (by simp) ?_
      refine AllReadyH.cons (o := _) rfl (fun K hK => ?_) AllReadyH.nil
      go_simp
      refine (HE1.out v2.drew (grown_dr (World.grownBy.refl v2 none))).mono ?_
      rintro e v3 ⟨rfl, g3⟩
      have gx3 : v2.grownBy v3 none := (grown_dr (World.grownBy.refl v2 none)).trans g3
      first | (refine hK.out _ _ ?_ (fun hHeld => ?_)) | (go_wp2_with fail; refine hK.out _ _ ?_ (fun hHeld => ?_))
      · (try dsimp only); (repeat (first | assumption | exact World.grownBy.refl _ _ | refine grown_drR ?_ | refine grown_alR ?_))
      clear hK K
      refine wpAnyH_ready (rs := [15]) (by as_aux_lemma => kernel_rfl) (by simp) ?_
      refine AllReadyH.cons (o := _) rfl (fun K hK => ?_) AllReadyH.nil
      go_simp
      refine (HE2.out v3 gx3).mono ?_
      rintro e v4 ⟨rfl, g4⟩
      have gx4 : v2.grownBy v4 none := gx3.trans g4
      first | (refine hK.out _ _ ?_ (fun hHeld => ?_)) | (go_wp2_with fail; refine hK.out _ _ ?_ (fun hHeld => ?_))
      · (try dsimp only); (repeat (first | assumption | exact World.grownBy.refl _ _ | refine grown_drR ?_ | refine grown_alR ?_))
      clear hK K
      refine wpAnyH_take (i := 16) (oi := _) (v := .bool true) rfl (by as_aux_lemma => kernel_rfl) (by as_aux_lemma => kernel_rfl) (by as_aux_lemma => kernel_rfl) (fun _ _ _ h => h) (Or.inl ⟨by kernel_rfl, ?_⟩) (by assumption) ?_
      · (intro w hSw; (try dsimp only at hSw); go_simp; first | done | with_reducible rfl)
      try go_simp
      refine wpAnyH_take (i := 17) (oi := _) (v := ?_) rfl (by as_aux_lemma => kernel_rfl) (by as_aux_lemma => kernel_rfl) (by as_aux_lemma => kernel_rfl) (fun _ _ _ h => h) (Or.inl ⟨by rfl, ?_⟩) (by assumption) ?_
      rotate_left 1
      · (intro w hSw; (try dsimp only at hSw); go_simp; first | done | with_reducible rfl)
      try go_simp
      refine wpAnyH_take (i := 18) (oi := _) (v := ?_) rfl (by as_aux_lemma => kernel_rfl) (by as_aux_lemma => kernel_rfl) (by as_aux_lemma => kernel_rfl) (fun _ _ _ h => h) (Or.inl ⟨by rfl, ?_⟩) (by assumption) ?_
      rotate_left 1
      · (intro w hSw; (try dsimp only at hSw); go_simp; first | done | with_reducible rfl)
      try go_simp
      refine wpAnyH_take (i := 19) (oi := _) (v := ?_) rfl (by as_aux_lemma => kernel_rfl) (by as_aux_lemma => kernel_rfl) (by as_aux_lemma => kernel_rfl) (fun _ _ _ h => h) (Or.inl ⟨by kernel_rfl, ?_⟩) (by assumption) ?_
      rotate_left 1
      · (intro w hSw; (try dsimp only at hSw); go_simp; first | done | with_reducible rfl)
      try go_simp
      refine wpAnyH_take (i := 20) (oi := _) (v := ?_) rfl (by as_aux_lemma => kernel_rfl) (by as_aux_lemma => kernel_rfl) (by as_aux_lemma => kernel_rfl) (fun _ _ _ h => h) (Or.inl ⟨by kernel_rfl, ?_⟩) (by assumption) ?_
      rotate_left 1
      · (intro w hSw; (try dsimp only at hSw); go_simp; first | done | with_reducible rfl)
      try go_simp
      refine wpAnyH_take (i := 21) (oi := _) (v := ?_) rfl (by as_aux_lemma => kernel_rfl) (by as_aux_lemma => kernel_rfl) (by as_aux_lemma => kernel_rfl) (fun _ _ _ h => h) (Or.inl ⟨by kernel_rfl, ?_⟩) (by assumption) ?_
      rotate_left 1
      · (intro w hSw; (try dsimp only at hSw); go_simp; first | done | with_reducible rfl)
      try go_simp
      refine wpAnyH_take (i := 22) (oi := _) (v := ?_) rfl (by as_aux_lemma => kernel_rfl) (by as_aux_lemma => kernel_rfl) (by as_aux_lemma => kernel_rfl) (fun _ _ _ h => h) (Or.inl ⟨by kernel_rfl, ?_⟩) (by assumption) ?_
      rotate_left 1
      · (intro w hSw; (try dsimp only at hSw); go_simp; first | done | with_reducible rfl)
      try go_simp
      refine wpAnyH_take (i := 23) (oi := _) (v := ?_) rfl (by as_aux_lemma => kernel_rfl) (by as_aux_lemma => kernel_rfl) (by as_aux_lemma => kernel_rfl) (fun _ _ _ h => h) (Or.inl ⟨by kernel_rfl, ?_⟩) (by assumption) ?_
      rotate_left 1
      · (intro w hSw; (try dsimp only at hSw); go_simp; first | done | with_reducible rfl)
      try go_simp
      refine wpAnyH_take (i := 24) (oi := _) (v := ?_) rfl (by as_aux_lemma => kernel_rfl) (by as_aux_lemma => kernel_rfl) (by as_aux_lemma => kernel_rfl) (fun _ _ _ h => h) (Or.inl ⟨by kernel_rfl, ?_⟩) (by assumption) ?_
      rotate_left 1
      · (intro w hSw; (try dsimp only at hSw); go_simp; first | done | with_reducible rfl)
      try go_simp
      refine wpAnyH_take (i := 25) (oi := _) (v := .slice PB pb pcb) rfl (by as_aux_lemma => kernel_rfl) (by as_aux_lemma => kernel_rfl) (by as_aux_lemma => kernel_rfl) (fun _ _ _ h => h) (Or.inl ⟨by kernel_rfl, ?_⟩) (by assumption) ?_
      · (intro w hSw; (try dsimp only at hSw); go_simp; have y := gcellR hSw (by simp) c3; clear hSw; go_simp; first | done | with_reducible rfl)
      try go_simp
      refine wpAnyH_take (i := 27) (oi := _) (v := ?_) rfl (by as_aux_lemma => kernel_rfl) (by as_aux_lemma => kernel_rfl) (by as_aux_lemma => kernel_rfl) (fun _ _ _ h => h) (Or.inl ⟨by kernel_rfl, ?_⟩) (by assumption) ?_
      rotate_left 1
      · (intro w hSw; (try dsimp only at hSw); go_simp; first | done | with_reducible rfl)
      try go_simp
      refine wpAnyH_take (i := 28) (oi := _) (v := ?_) rfl (by as_aux_lemma => kernel_rfl) (by as_aux_lemma => kernel_rfl) (by as_aux_lemma => kernel_rfl) (fun _ _ _ h => h) (Or.inl ⟨by kernel_rfl, ?_⟩) (by assumption) ?_
      rotate_left 1
      · (intro w hSw; (try dsimp only at hSw); go_simp; first | done | with_reducible rfl)
      try go_simp
      refine wpAnyH_take (i := 29) (oi := _) (v := ?_) rfl (by as_aux_lemma => kernel_rfl) (by as_aux_lemma => kernel_rfl) (by as_aux_lemma => kernel_rfl) (fun _ _ _ h => h) (Or.inl ⟨by kernel_rfl, ?_⟩) (by assumption) ?_
      rotate_left 1
      · (intro w hSw; (try dsimp only at hSw); go_simp; first | done | with_reducible rfl)
      try go_simp
      refine wpAnyH_take (i := 30) (oi := _) (v := ?_) rfl (by as_aux_lemma => kernel_rfl) (by as_aux_lemma => kernel_rfl) (by as_aux_lemma => kernel_rfl) (fun _ _ _ h => h) (Or.inl ⟨by kernel_rfl, ?_⟩) (by assumption) ?_
      rotate_left 1
      · (intro w hSw; (try dsimp only at hSw); go_simp; first | done | with_reducible rfl)
      try go_simp
      refine wpAnyH_take (i := 31) (oi := _) (v := ?_) rfl (by as_aux_lemma => kernel_rfl) (by as_aux_lemma => kernel_rfl) (by as_aux_lemma => kernel_rfl) (fun _ _ _ h => h) (Or.inl ⟨by kernel_rfl, ?_⟩) (by assumption) ?_
      rotate_left 1
      · (intro w hSw; (try dsimp only at hSw); go_simp; first | done | with_reducible rfl)
      try go_simp
      refine wpAnyH_take (i := 32) (oi := _) (v := ?_) rfl (by as_aux_lemma => kernel_rfl) (by as_aux_lemma => kernel_rfl) (by as_aux_lemma => kernel_rfl) (fun _ _ _ h => h) (Or.inl ⟨by kernel_rfl, ?_⟩) (by assumption) ?_
      rotate_left 1
      · (intro w hSw; (try dsimp only at hSw); go_simp; first | done | with_reducible rfl)
      try go_simp
      refine wpAnyH_take (i := 33) (oi := _) (v := .slice PB pb pcb) rfl (by as_aux_lemma => kernel_rfl) (by as_aux_lemma => kernel_rfl) (by as_aux_lemma => kernel_rfl) (fun _ _ _ h => h) (Or.inl ⟨by kernel_rfl, ?_⟩) (by assumption) ?_
      · (intro w hSw; (try dsimp only at hSw); go_simp; have y := gcellR hSw (by simp) c3; clear hSw; go_simp; first | done | with_reducible rfl)
      try go_simp
      refine wpAnyH_ready (rs := [26]) (by as_aux_lemma => kernel_rfl) (by simp) ?_
      refine AllReadyH.cons (o := _) rfl (fun K hK => ?_) AllReadyH.nil
      go_simp
      refine (HE3.out v4 gx4).mono ?_
      rintro e v5 ⟨rfl, g5⟩
      have gx5 : v2.grownBy v5 none := gx4.trans g5
      first | (refine hK.out _ _ ?_ (fun hHeld => ?_)) | (go_wp2_with fail; refine hK.out _ _ ?_ (fun hHeld => ?_))
      · (try dsimp only); (repeat (first | assumption | exact World.grownBy.refl _ _ | refine grown_drR ?_ | refine grown_alR ?_))
      clear hK K
      refine wpAnyH_ready (rs := [34]) (by as_aux_lemma => kernel_rfl) (by simp) ?_
      refine AllReadyH.cons (o := _) rfl (fun K hK => ?_) AllReadyH.nil
      go_simp
      refine (HE4.out v5 gx5).mono ?_
      rintro e v6 ⟨rfl, g6⟩
      have gx6 : v2.grownBy v6 none := gx5.trans g6
      first | (refine hK.out _ _ ?_ (fun hHeld => ?_)) | (go_wp2_with fail; refine hK.out _ _ ?_ (fun hHeld => ?_))
      · (try dsimp only); (repeat (first | assumption | exact World.grownBy.refl _ _ | refine grown_drR ?_ | refine grown_alR ?_))
      clear hK K
      refine wpAnyH_take (i := 35) (oi := _) (v := .bool true) rfl (by as_aux_lemma => kernel_rfl) (by as_aux_lemma => kernel_rfl) (by as_aux_lemma => kernel_rfl) (fun _ _ _ h => h) (Or.inl ⟨by kernel_rfl, ?_⟩) (by assumption) ?_
      · (intro w hSw; (try dsimp only at hSw); go_simp; first | done | with_reducible rfl)
      try go_simp
      refine wpAnyH_take (i := 36) (oi := _) (v := ?_) rfl (by as_aux_lemma => kernel_rfl) (by as_aux_lemma => kernel_rfl) (by as_aux_lemma => kernel_rfl) (fun _ _ _ h => h) (Or.inl ⟨by rfl, ?_⟩) (by assumption) ?_
      rotate_left 1
      · (intro w hSw; (try dsimp only at hSw); go_simp; first | done | with_reducible rfl)
      try go_simp
      refine wpAnyH_take (i := 37) (oi := _) (v := ?_) rfl (by as_aux_lemma => kernel_rfl) (by as_aux_lemma => kernel_rfl) (by as_aux_lemma => kernel_rfl) (fun _ _ _ h => h) (Or.inl ⟨by rfl, ?_⟩) (by assumption) ?_
      rotate_left 1
      · (intro w hSw; (try dsimp only at hSw); go_simp; first | done | with_reducible rfl)
      try go_simp
      refine wpAnyH_done (by as_aux_lemma => kernel_rfl) ?_ _
      refine NoPanic.normal ?_
      go_simp
      clear hHeld
      go_wp2_with fail
      go_ret
      exact ⟨rfl, G0.out.trans (G10.out.trans (HG.out.trans gx6))⟩
end Go.Proofs.Ytljjmoeplfcblaa
