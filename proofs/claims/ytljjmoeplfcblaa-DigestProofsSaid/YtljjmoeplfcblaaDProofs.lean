/-
  The law DigestProofs.
-/
import Derived.Test.YtljjmoeplfcblaaGen
import Derived.Test.YtljjmoeplfcblaaRSort
namespace Go.Proofs.Ytljjmoeplfcblaa
open Go.RowKit Go.Shelf
attribute [local go_sem] get_mk extract_mk
theorem min12 (a : Str) : ∃ k : Nat, (if (12 : Int) < (a.length : Int) then (12 : Int) else (a.length : Int)) = (k : Int) ∧ k ≤ a.length ∧ k ≤ 12 := by
  by_cases h : (12 : Int) < (a.length : Int)
  · exact ⟨12, if_pos h, by omega, Nat.le_refl _⟩
  · exact ⟨a.length, if_neg h, Nat.le_refl _, by omega⟩
def proB (n : Nat) (i j : Int) : Bool := decide (0 ≤ i ∧ i ≤ j ∧ j ≤ n)
def groB (n : Nat) (m : Int) : Bool := decide (0 ≤ m ∧ m ≤ n)
theorem blk_kept {w w' : World} {b : Nat} {o : Obj} (g : w.grownBy w' none) (h : w.heap[b]? = some o) : w'.heap[b]? = some o := by
  refine (g.block b ?_ (by simp)).trans h
  rcases Nat.lt_or_ge b w.heap.size with hlt | hge
  · exact hlt
  · rw [Array.getElem?_eq_none hge] at h; cases h
/-- at most 20 strings of at most 12 bytes each -/
structure Lis (w : World) (A : Option Addr) (n c : Nat) (l : List Str) : Prop where
  strs : Strs w A n c l
  none : A = none → c = 0
  le : l.length ≤ 20
  short : ∀ s ∈ l, s.length ≤ 12
theorem Lis.kept {w w' : World} {A : Option Addr} {n c : Nat} {l : List Str} (h : Lis w A n c l) (g : w.grownBy w' Option.none) : Lis w' A n c l := ⟨h.strs.kept g, h.none, h.le, h.short⟩
set_option maxRecDepth 100000 in
set_option maxHeartbeats 8000000 in
theorem proofs_walk (A : Option Addr) (n c : Nat) (l : List Str) (q0 q1 : Int) (hq0 : I64 q0) (hq1 : I64 q1) (a b : Str) (ha : a.length ≤ 9223372036854775807) (hb : b.length ≤ 9223372036854775807) (w : World) (hn : n = l.length) (hcm : c ≤ maxLen) (hnc : n ≤ c) (hls : ∀ x ∈ l, x.length ≤ 9223372036854775807)
    (hA : 0 < n → ∃ ad, A = some ad ∧ ad.block < w.heap.size ∧ ∀ j x, l[j]? = some x → w.cell? (ad.add j) = some (.string ⟨x.toArray⟩)) :
    Calls Try.prog 5 #[.slice A n c, .agg #[.int .i64 q0, .int .i64 q1], .agg #[.string ⟨a.toArray⟩, .string ⟨b.toArray⟩]] w fun e w' => e = .returned (.bool true) ∧ w.grownBy w' none := by
  have HA := Lib.hid (fun w1 (g : w.grownBy w1 none) (h : 0 < n) => (by
    obtain ⟨ad, e, hb, hc⟩ := hA h
    exact ⟨ad, e, Nat.lt_of_lt_of_le hb g.size, fun j x hj => g.cell (hc j x hj) (by simp)⟩ : ∃ ad, A = some ad ∧ ad.block < w1.heap.size ∧ ∀ j x, l[j]? = some x → w1.cell? (ad.add j) = some (.string ⟨x.toArray⟩)))
  have HF := Lib.hid (fun w1 (g : w.grownBy w1 none) => few_k A c n l w1 hn hcm hnc hls (HA.out w1 g))
  have HS := Lib.hid (fun w1 (g : w.grownBy w1 none) => sort_k A n c l w1 hn hcm hnc hls (HA.out w1 g))
  clear hn hcm hnc hls hA HA
  obtain ⟨B, hB⟩ : ∃ B, w.heap.size = B := ⟨_, rfl⟩
  go_enter Try.func5, Try.ntmps5
  go_wp2_with fail
  have G0 := Lib.hid ((World.grownBy_alloc w (.cells #[.int .i64 q0, .int .i64 q1] 30) none).trans (World.grownBy_alloc _ (.cells #[.string ⟨a.toArray⟩, .string ⟨b.toArray⟩] 31) none))
  have hq : Hid (((w.alloc (.cells #[.int .i64 q0, .int .i64 q1] 30)).alloc (.cells #[.string ⟨a.toArray⟩, .string ⟨b.toArray⟩] 31)).heap[B]? = some (.cells #[.int .i64 q0, .int .i64 q1] 30 (0, 0))) := Lib.hid (by
    have h1 := World.alloc_heap_new w (.cells #[.int .i64 q0, .int .i64 q1] 30)
    rw [hB] at h1
    exact blk_kept (World.grownBy_alloc (w.alloc (.cells #[.int .i64 q0, .int .i64 q1] 30)) _ none) h1)
  have hs : Hid (((w.alloc (.cells #[.int .i64 q0, .int .i64 q1] 30)).alloc (.cells #[.string ⟨a.toArray⟩, .string ⟨b.toArray⟩] 31)).heap[B + 1]? = some (.cells #[.string ⟨a.toArray⟩, .string ⟨b.toArray⟩] 31 (0, 0))) := Lib.hid (by
    have h1 := World.alloc_heap_new (w.alloc (.cells #[.int .i64 q0, .int .i64 q1] 30)) (.cells #[.string ⟨a.toArray⟩, .string ⟨b.toArray⟩] 31)
    rw [World.size_alloc, hB] at h1
    exact h1)
  generalize ((w.alloc (.cells #[.int .i64 q0, .int .i64 q1] 30)).alloc (.cells #[.string ⟨a.toArray⟩, .string ⟨b.toArray⟩] 31)) = w0 at *
  clear hB
  refine (sane_k w0).mono ?_
  rintro e w1 ⟨rfl, g1⟩
  have c0 : w1.cell? ⟨B, 0, none⟩ = some (.int .i64 q0) := gcellR g1 (by simp) (by simp [World.cell?, hq.out])
  have c1 : w1.cell? ⟨B, 1, none⟩ = some (.int .i64 q1) := gcellR g1 (by simp) (by simp [World.cell?, hq.out])
  have s0 : w1.cell? ⟨B + 1, 0, none⟩ = some (.string ⟨a.toArray⟩) := gcellR g1 (by simp) (by simp [World.cell?, hs.out])
  have s1 : w1.cell? ⟨B + 1, 1, none⟩ = some (.string ⟨b.toArray⟩) := gcellR g1 (by simp) (by simp [World.cell?, hs.out])
  have G1 := Lib.hid (G0.out.trans g1)
  clear g1 hq hs G0
  obtain ⟨ka, hka, ka1, ka2⟩ := min12 a
  obtain ⟨kb, hkb, kb1, kb2⟩ := min12 b
  go_wp2_with fail
  refine wp_region_noPanic ?_
  refine wp_region_held_drew (S := (fun w' => w1.grownBy w' none)) (by kernel_rfl) ?_ (fun hHeld => ?_)
  · (try dsimp only); (repeat (first | assumption | exact World.grownBy.refl _ _ | refine grown_drR ?_ | refine grown_alR ?_))
  refine wpAnyH_take (i := 0) (oi := _) (v := ?_) rfl (by kernel_rfl) (by kernel_rfl) (by kernel_rfl) (fun _ _ _ h => h) (Or.inl ⟨by rfl, ?_⟩) (by assumption) ?_
  rotate_left 1
  · (intro w hSw; (try dsimp only at hSw); go_simp; first | done | with_reducible rfl)
  try go_simp
  refine wpAnyH_take (i := 1) (oi := _) (v := .string ⟨a.toArray⟩) rfl (by kernel_rfl) (by kernel_rfl) (by kernel_rfl) (fun _ _ _ h => h) (Or.inl ⟨by kernel_rfl, ?_⟩) (by assumption) ?_
  · (intro w hSw; (try dsimp only at hSw); go_simp; have y := gcellR hSw (by simp) s0; clear hSw; go_simp; first | done | with_reducible rfl)
  try go_simp
  refine wpAnyH_take (i := 2) (oi := _) (v := ?_) rfl (by kernel_rfl) (by kernel_rfl) (by kernel_rfl) (fun _ _ _ h => h) (Or.inl ⟨by rfl, ?_⟩) (by assumption) ?_
  rotate_left 1
  · (intro w hSw; (try dsimp only at hSw); go_simp; first | done | with_reducible rfl)
  try go_simp
  refine wpAnyH_take (i := 3) (oi := _) (v := .string ⟨a.toArray⟩) rfl (by kernel_rfl) (by kernel_rfl) (by kernel_rfl) (fun _ _ _ h => h) (Or.inl ⟨by kernel_rfl, ?_⟩) (by assumption) ?_
  · (intro w hSw; (try dsimp only at hSw); go_simp; have y := gcellR hSw (by simp) s0; clear hSw; go_simp; first | done | with_reducible rfl)
  try go_simp
  refine wpAnyH_take (i := 4) (oi := _) (v := ?_) rfl (by kernel_rfl) (by kernel_rfl) (by kernel_rfl) (fun _ _ _ h => h) (Or.inl ⟨by rfl, ?_⟩) (by assumption) ?_
  rotate_left 1
  · (intro w hSw; (try dsimp only at hSw); go_simp; first | done | with_reducible rfl)
  try go_simp
  refine wpAnyH_take (i := 5) (oi := _) (v := .int .i64 (ka : Int)) rfl (by kernel_rfl) (by kernel_rfl) (by kernel_rfl) (fun _ _ _ h => h) (Or.inl ⟨by kernel_rfl, ?_⟩) (by assumption) ?_
  · (intro w hSw; (try dsimp only at hSw); go_simp; first | done | with_reducible rfl)
  try go_simp
  refine wpAnyH_take (i := 6) (oi := _) (v := .string ⟨(a.take ka).toArray⟩) rfl (by kernel_rfl) (by kernel_rfl) (by kernel_rfl) (fun _ _ _ h => h) (Or.inl ⟨by kernel_rfl, ?_⟩) (by assumption) ?_
  · (intro w hSw; (try dsimp only at hSw); go_simp; first | done | with_reducible rfl)
  try go_simp
  refine wpAnyH_take (i := 7) (oi := _) (v := ?_) rfl (by kernel_rfl) (by kernel_rfl) (by kernel_rfl) (fun _ _ _ h => h) (Or.inl ⟨by rfl, ?_⟩) (by assumption) ?_
  rotate_left 1
  · (intro w hSw; (try dsimp only at hSw); go_simp; first | done | with_reducible rfl)
  try go_simp
  refine wpAnyH_take (i := 8) (oi := _) (v := .string ⟨b.toArray⟩) rfl (by kernel_rfl) (by kernel_rfl) (by kernel_rfl) (fun _ _ _ h => h) (Or.inl ⟨by kernel_rfl, ?_⟩) (by assumption) ?_
  · (intro w hSw; (try dsimp only at hSw); go_simp; have y := gcellR hSw (by simp) s1; clear hSw; go_simp; first | done | with_reducible rfl)
  try go_simp
  refine wpAnyH_take (i := 9) (oi := _) (v := ?_) rfl (by kernel_rfl) (by kernel_rfl) (by kernel_rfl) (fun _ _ _ h => h) (Or.inl ⟨by rfl, ?_⟩) (by assumption) ?_
  rotate_left 1
  · (intro w hSw; (try dsimp only at hSw); go_simp; first | done | with_reducible rfl)
  try go_simp
  refine wpAnyH_take (i := 10) (oi := _) (v := .string ⟨b.toArray⟩) rfl (by kernel_rfl) (by kernel_rfl) (by kernel_rfl) (fun _ _ _ h => h) (Or.inl ⟨by kernel_rfl, ?_⟩) (by assumption) ?_
  · (intro w hSw; (try dsimp only at hSw); go_simp; have y := gcellR hSw (by simp) s1; clear hSw; go_simp; first | done | with_reducible rfl)
  try go_simp
  refine wpAnyH_take (i := 11) (oi := _) (v := ?_) rfl (by kernel_rfl) (by kernel_rfl) (by kernel_rfl) (fun _ _ _ h => h) (Or.inl ⟨by rfl, ?_⟩) (by assumption) ?_
  rotate_left 1
  · (intro w hSw; (try dsimp only at hSw); go_simp; first | done | with_reducible rfl)
  try go_simp
  refine wpAnyH_take (i := 12) (oi := _) (v := .int .i64 (kb : Int)) rfl (by kernel_rfl) (by kernel_rfl) (by kernel_rfl) (fun _ _ _ h => h) (Or.inl ⟨by kernel_rfl, ?_⟩) (by assumption) ?_
  · (intro w hSw; (try dsimp only at hSw); go_simp; first | done | with_reducible rfl)
  try go_simp
  refine wpAnyH_take (i := 13) (oi := _) (v := .string ⟨(b.take kb).toArray⟩) rfl (by kernel_rfl) (by kernel_rfl) (by kernel_rfl) (fun _ _ _ h => h) (Or.inl ⟨by kernel_rfl, ?_⟩) (by assumption) ?_
  · (intro w hSw; (try dsimp only at hSw); go_simp; first | done | with_reducible rfl)
  try go_simp
  refine wpAnyH_take (i := 14) (oi := _) (v := ?_) rfl (by kernel_rfl) (by kernel_rfl) (by kernel_rfl) (fun _ _ _ h => h) (Or.inl ⟨by rfl, ?_⟩) (by assumption) ?_
  rotate_left 1
  · (intro w hSw; (try dsimp only at hSw); go_simp; first | done | with_reducible rfl)
  try go_simp
  refine wpAnyH_take (i := 15) (oi := _) (v := ?_) rfl (by kernel_rfl) (by kernel_rfl) (by kernel_rfl) (fun _ _ _ h => h) (Or.inl ⟨by rfl, ?_⟩) (by assumption) ?_
  rotate_left 1
  · (intro w hSw; (try dsimp only at hSw); go_simp; first | done | with_reducible rfl)
  try go_simp
  refine wpAnyH_done (by kernel_rfl) ?_ _
  refine NoPanic.normal ?_
  go_simp
  clear hHeld s0 s1 hka hkb ka1 kb1 ha hb
  have G2 := Lib.hid (G1.out.trans (grown_dr (World.grownBy.refl w1 none)))
  have cc : w1.drew.cell? ⟨B, 0, none⟩ = some (.int .i64 q0) ∧ w1.drew.cell? ⟨B, 1, none⟩ = some (.int .i64 q1) := ⟨c0, c1⟩
  have CC := Lib.hid cc
  clear cc c0 c1 G1
  generalize a.take ka = a1 at *
  generalize b.take kb = b1 at *
  generalize w1.drew = w2 at *
  go_wp2_with fail
  refine (HF.out w2 G2.out).mono ?_
  rintro e w3 ⟨v, rfl, o3, g3⟩
  have hl20 := few_len l
  have hl12 := few_12 l
  obtain ⟨XA, xc, rfl, HX⟩ := own_strs' o3 (fun s hs => Nat.le_trans (hl12 s hs) (by decide))
  clear o3
  have G3 := Lib.hid (G2.out.trans g3)
  go_wp2_with fail
  refine (HS.out w3 G3.out).mono ?_
  rintro e w4 ⟨SA, sn, sc, rfl, hS, hSA, g4⟩
  have L0 : Hid (Lis w4 XA (fewL l).length xc (fewL l)) := Lib.hid ⟨HX.1.kept g4, HX.2, few_len l, few_12 l⟩
  have L1 : Hid (Lis w4 SA sn sc (sortL (fewL l))) := Lib.hid ⟨hS, hSA, by have := sortL_len (fewL l) []; unfold sortL; simp at this; omega, fun s hs => few_12 l s (by simpa using sortL_mem (fewL l) [] s hs)⟩
  have G4 := Lib.hid (G3.out.trans g4)
  have CC := Lib.hid (show w4.cell? ⟨B, 0, none⟩ = some (.int .i64 q0) ∧ w4.cell? ⟨B, 1, none⟩ = some (.int .i64 q1) from ⟨gcellR (g3.trans g4) (by simp) CC.out.1, gcellR (g3.trans g4) (by simp) CC.out.2⟩)
  clear HX hl20 hl12 hS hSA g3 g4 G2 G3 HF HS
  generalize (fewL l).length = xn at *
  generalize sortL (fewL l) = x1 at *
  generalize fewL l = x0 at *
  go_wp2_with fail
  have HLs : Hid (∀ W, (w4.alloc (.cells #[.slice XA xn xc, .slice SA sn sc] 33)).grownBy W none → ∀ k : Nat, k < 2 → ∃ (A : Option Addr) (n c : Nat) (x : List Str), W.cell? ⟨w4.heap.size, k, none⟩ = some (.slice A n c) ∧ Lis W A n c x) := Lib.hid (fun W g k hk => by
    have hn := blk_kept g (World.alloc_heap_new w4 (.cells #[.slice XA xn xc, .slice SA sn sc] 33))
    have g4 := (World.grownBy_alloc w4 (.cells #[.slice XA xn xc, .slice SA sn sc] 33) none).trans g
    match k, hk with
    | 0, _ => exact ⟨XA, xn, xc, x0, by simp [World.cell?, hn], L0.out.kept g4⟩
    | 1, _ => exact ⟨SA, sn, sc, x1, by simp [World.cell?, hn], L1.out.kept g4⟩)
  have gA := World.grownBy_alloc w4 (.cells #[.slice XA xn xc, .slice SA sn sc] 33) none
  have CC : Hid (∀ W, (w4.alloc (.cells #[.slice XA xn xc, .slice SA sn sc] 33)).grownBy W none → W.cell? ⟨B, 0, none⟩ = some (.int .i64 q0) ∧ W.cell? ⟨B, 1, none⟩ = some (.int .i64 q1)) := Lib.hid (fun W g => ⟨gcellR (gA.trans g) (by simp) CC.out.1, gcellR (gA.trans g) (by simp) CC.out.2⟩)
  have G5 := Lib.hid (G4.out.trans gA)
  clear L0 L1 G4 gA
  generalize w4.alloc (.cells #[.slice XA xn xc, .slice SA sn sc] 33) = w5 at *
  generalize w4.heap.size = B4 at *
  go_loopw [11] (fun z wr => ∃ k : Nat, k ≤ 2 ∧ z = .int .i64 k ∧ w5.grownBy wr none) (fun z _ => 2 - (intOf z).toNat)
  case atStart => exact ⟨0, Nat.zero_le _, rfl, World.grownBy.refl _ _⟩
  case round =>
    obtain ⟨k, hk, rfl, hg⟩ := hrel
    by_cases hlt : k < 2
    · obtain ⟨YA, yn, yc, y, hcy, HY⟩ := HLs.out wr hg k hlt
      have r1 : (0 : Int) ≤ (k : Int) := by omega
      have r2 : (k : Int) < 2 := by omega
      have HY := Lib.hid (fun W (g : wr.grownBy W none) => HY.kept g)
      have HG := Lib.hid hg
      clear hg
      go_wp2_with fail
      have hst := (HY.out wr (World.grownBy.refl _ _)).strs
      have hyn : yn ≤ 20 := by have := hst.len; have := (HY.out wr (World.grownBy.refl _ _)).le; omega
      have hyc := hst.le
      have hyc2 := hst.cap
      have hysh : ∀ x ∈ y, x.length ≤ 1152921504606846976 := fun x hx => Nat.le_trans ((HY.out wr (World.grownBy.refl _ _)).short x hx) (by decide)
      have hyno := (HY.out wr (World.grownBy.refl _ _)).none
      have HR1 := Lib.hid (root_k YA yn yc y (by omega) wr hst)
      have HR2 := Lib.hid (fun W (g : wr.grownBy W none) => root_r YA yn yc y (by omega) hysh W (HY.out W g).strs)
      have HA1 := Lib.hid (fun W (g : wr.grownBy W none) => around_a YA yn yc y a1 b1 (by omega) hyno W (HY.out W g).strs)
      have HA2 := Lib.hid (fun W (g : wr.grownBy W none) => around_ra YA yn yc y a1 b1 (by omega) hyno hysh W (HY.out W g).strs)
      have HS1 := Lib.hid (fun W (g : wr.grownBy W none) => sorted_k YA yn yc y W (HY.out W g).strs)
      have HS2 := Lib.hid (fun W (g : wr.grownBy W none) => sorted_r YA yn yc y W (HY.out W g).strs)
      have HP1 := Lib.hid (fun W (g : wr.grownBy W none) p1 p2 => show Calls Try.prog 29 #[.slice YA yn yc, .int .i64 p1, .int .i64 p2] W (TwoP W (provL yn y p1 p2) (proB yn p1 p2)) from prove_a YA yn yc y (by omega) p1 p2 W (HY.out W g).strs)
      have HP2 := Lib.hid (fun W (g : wr.grownBy W none) p1 p2 => show Calls Try.prog 30 #[.slice YA yn yc, .int .i64 p1, .int .i64 p2] W (TwoP W (provL yn y p1 p2) (proB yn p1 p2)) from prove_ra YA yn yc y (by omega) hysh p1 p2 W (HY.out W g).strs)
      have HGr1 := Lib.hid (fun W (g : wr.grownBy W none) p1 => show Calls Try.prog 31 #[.slice YA yn yc, .int .i64 p1] W (TwoP W (growL yn y p1) (groB yn p1)) from grow_a YA yn yc y (by omega) p1 W (HY.out W g).strs)
      have HGr2 := Lib.hid (fun W (g : wr.grownBy W none) p1 => show Calls Try.prog 32 #[.slice YA yn yc, .int .i64 p1] W (TwoP W (growL yn y p1) (groB yn p1)) from grow_ra YA yn yc y (by omega) hysh p1 W (HY.out W g).strs)
      clear hst hysh hyno HY
      generalize (if sortedB y then arI y a1 else 0) = I at *
      generalize (if sortedB y then arT y a1 b1 else []) = T at *
      generalize (if sortedB y then arP y a1 b1 else []) = P at *
      generalize sortedB y = sb at *
      generalize root y = R at *
      refine HR1.out.mono ?_
      rintro e v1 ⟨rfl, g1⟩
      go_wp2_with fail
      refine (HR2.out v1 g1).mono ?_
      rintro e v2 ⟨rfl, g2⟩
      have G2 := Lib.hid (g1.trans g2)
      clear g1 g2
      go_wp2_with fail
      refine (HS1.out v2 G2.out).mono ?_
      rintro e v3 ⟨rfl, g3⟩
      have G3 := Lib.hid (G2.out.trans g3)
      clear g3
      go_wp2_with fail
      refine (HS2.out v3 G3.out).mono ?_
      rintro e v4 ⟨rfl, g4⟩
      have G4 := Lib.hid (G3.out.trans g4)
      clear g4 HR1 HR2 HS1 HS2
      go_wp2_with fail
      refine (HA1.out v4 G4.out).mono ?_
      rintro e v5 ⟨A1, n1, d1, A2, n2, d2, rfl, t1, t2, _, _, g5⟩
      have G5' := Lib.hid (G4.out.trans g5)
      clear g5
      go_wp2_with fail
      refine (HA2.out v5 G5'.out).mono ?_
      rintro e v6 ⟨A3, n3, d3, A4, n4, d4, rfl, t3, t4, _, _, g6⟩
      have G6 := Lib.hid (G5'.out.trans g6)
      have HSa := Lib.hid (same_k A1 A3 n1 d1 n3 d3 T T v6 (t1.kept g6) t3)
      have HSb := Lib.hid (fun W (g : v6.grownBy W none) => same_k A2 A4 n2 d2 n4 d4 P P W ((t2.kept g6).kept g) (t4.kept g))
      rw [decide_eq_true rfl] at HSa HSb
      clear g6 t1 t2 t3 t4
      go_wp2_with fail
      refine HSa.out.mono ?_
      rintro e v7 ⟨rfl, g7⟩
      have G7 := Lib.hid (G6.out.trans g7)
      have HSb := Lib.hid (HSb.out v7 g7)
      clear g7 HSa
      go_wp2_with fail
      refine HSb.out.mono ?_
      rintro e v8 ⟨rfl, g8⟩
      have G8 := Lib.hid (G7.out.trans g8)
      clear g8 HSb
      have c0 := (CC.out v8 (HG.out.trans G8.out)).1
      have c1 := (CC.out v8 (HG.out.trans G8.out)).2
      go_wp2_with fail
      generalize wrap64 (q0.tmod 5 + (wrap64 (q1.tmod 9 + 9)).tmod 9) = esum at *
      generalize (wrap64 (q1.tmod 9 + 9)).tmod 9 = e6 at *
      generalize wrap64 (q1.tmod 9 + 9) = e7 at *
      generalize q1.tmod 9 = e8 at *
      generalize q0.tmod 5 = e5 at *
      generalize q0.tmod 24 = e24 at *
      generalize q1.tmod 24 = f24 at *
      have G9 := Lib.hid (G8.out.trans (World.grownBy_alloc v8 (.cells #[.int .i64 q0, .int .i64 q1, .int .i64 e24, .int .i64 f24, .int .i64 e5, .int .i64 esum] 39) none))
      have HPr : Hid (∀ W, (v8.alloc (.cells #[.int .i64 q0, .int .i64 q1, .int .i64 e24, .int .i64 f24, .int .i64 e5, .int .i64 esum] 39)).grownBy W none → ∀ m : Nat, m < 3 → ∃ p1 p2 : Int, W.cell? ⟨v8.heap.size, m * 2, none⟩ = some (.int .i64 p1) ∧ W.cell? ⟨v8.heap.size, m * 2 + 1, none⟩ = some (.int .i64 p2)) := Lib.hid (fun W g m hm => by
        have hn := blk_kept g (World.alloc_heap_new v8 (.cells #[.int .i64 q0, .int .i64 q1, .int .i64 e24, .int .i64 f24, .int .i64 e5, .int .i64 esum] 39))
        match m, hm with
        | 0, _ => exact ⟨q0, q1, by simp [World.cell?, hn], by simp [World.cell?, hn]⟩
        | 1, _ => exact ⟨e24, f24, by simp [World.cell?, hn], by simp [World.cell?, hn]⟩
        | 2, _ => exact ⟨e5, esum, by simp [World.cell?, hn], by simp [World.cell?, hn]⟩)
      generalize v8.alloc (.cells #[.int .i64 q0, .int .i64 q1, .int .i64 e24, .int .i64 f24, .int .i64 e5, .int .i64 esum] 39) = v9 at *
      generalize v8.heap.size = B9 at *
      clear c0 c1 G2 G3 G4 G5' G6 G7 G8 HA1 HA2 hcy
      generalize wr = ws at *
      go_loopw [22] (fun z wz => ∃ m : Nat, m ≤ 3 ∧ z = .int .i64 m ∧ v9.grownBy wz none) (fun z _ => 3 - (intOf z).toNat)
      case atStart => exact ⟨0, Nat.zero_le _, rfl, World.grownBy.refl _ _⟩
      case round =>
        obtain ⟨m, hm, rfl, hgz⟩ := hrel
        by_cases hmt : m < 3
        · obtain ⟨p1, p2, z1, z2⟩ := HPr.out wr hgz m hmt
          have m1 : (0 : Int) ≤ (m : Int) := by omega
          have m2 : (m : Int) < 3 := by omega
          have HGZ := Lib.hid hgz
          have gz := World.grownBy.refl wr none
          clear hgz
          go_upto_region 18 with fail
          have GZ := HGZ
          have GX := Lib.hid (G9.out.trans HGZ.out)
          refine wp_region_noPanic ?_
          refine wp_region_held_drew (S := (fun w' => wr.grownBy w' none)) (by kernel_rfl) ?_ (fun hHeld => ?_)
          · (try dsimp only); (repeat (first | assumption | exact World.grownBy.refl _ _ | refine grown_drR ?_ | refine grown_alR ?_))
          refine wpAnyH_take (i := 0) (oi := _) (v := ?_) rfl (by kernel_rfl) (by kernel_rfl) (by kernel_rfl) (fun _ _ _ h => h) (Or.inl ⟨by rfl, ?_⟩) (by assumption) ?_
          rotate_left 1
          · (intro w hSw; (try dsimp only at hSw); go_simp; first | done | with_reducible rfl)
          try go_simp
          refine wpAnyH_take (i := 1) (oi := _) (v := ?_) rfl (by kernel_rfl) (by kernel_rfl) (by kernel_rfl) (fun _ _ _ h => h) (Or.inl ⟨by rfl, ?_⟩) (by assumption) ?_
          rotate_left 1
          · (intro w hSw; (try dsimp only at hSw); go_simp; first | done | with_reducible rfl)
          try go_simp
          refine wpAnyH_take (i := 2) (oi := _) (v := ?_) rfl (by kernel_rfl) (by kernel_rfl) (by kernel_rfl) (fun _ _ _ h => h) (Or.inl ⟨by rfl, ?_⟩) (by assumption) ?_
          rotate_left 1
          · (intro w hSw; (try dsimp only at hSw); go_simp; first | done | with_reducible rfl)
          try go_simp
          refine wpAnyH_take (i := 3) (oi := _) (v := ?_) rfl (by kernel_rfl) (by kernel_rfl) (by kernel_rfl) (fun _ _ _ h => h) (Or.inl ⟨by rfl, ?_⟩) (by assumption) ?_
          rotate_left 1
          · (intro w hSw; (try dsimp only at hSw); go_simp; first | done | with_reducible rfl)
          try go_simp
          refine wpAnyH_take (i := 4) (oi := _) (v := .int .i64 p1) rfl (by kernel_rfl) (by kernel_rfl) (by kernel_rfl) (fun _ _ _ h => h) (Or.inl ⟨by kernel_rfl, ?_⟩) (by assumption) ?_
          · (intro w hSw; (try dsimp only at hSw); go_simp; have y := gcellR hSw (by simp) z1; clear hSw; go_simp; first | done | with_reducible rfl)
          try go_simp
          refine wpAnyH_take (i := 5) (oi := _) (v := ?_) rfl (by kernel_rfl) (by kernel_rfl) (by kernel_rfl) (fun _ _ _ h => h) (Or.inl ⟨by rfl, ?_⟩) (by assumption) ?_
          rotate_left 1
          · (intro w hSw; (try dsimp only at hSw); go_simp; first | done | with_reducible rfl)
          try go_simp
          refine wpAnyH_take (i := 6) (oi := _) (v := ?_) rfl (by kernel_rfl) (by kernel_rfl) (by kernel_rfl) (fun _ _ _ h => h) (Or.inl ⟨by rfl, ?_⟩) (by assumption) ?_
          rotate_left 1
          · (intro w hSw; (try dsimp only at hSw); go_simp; first | done | with_reducible rfl)
          try go_simp
          refine wpAnyH_take (i := 7) (oi := _) (v := ?_) rfl (by kernel_rfl) (by kernel_rfl) (by kernel_rfl) (fun _ _ _ h => h) (Or.inl ⟨by rfl, ?_⟩) (by assumption) ?_
          rotate_left 1
          · (intro w hSw; (try dsimp only at hSw); go_simp; first | done | with_reducible rfl)
          try go_simp
          refine wpAnyH_take (i := 8) (oi := _) (v := .int .i64 p2) rfl (by kernel_rfl) (by kernel_rfl) (by kernel_rfl) (fun _ _ _ h => h) (Or.inl ⟨by kernel_rfl, ?_⟩) (by assumption) ?_
          · (intro w hSw; (try dsimp only at hSw); go_simp; have y := gcellR hSw (by simp) z2; clear hSw; go_simp; first | done | with_reducible rfl)
          try go_simp
          refine wpAnyH_ready (rs := [9]) (by kernel_rfl) (by simp) ?_
          refine AllReadyH.cons (o := _) rfl (fun K hK => ?_) AllReadyH.nil
          go_simp
          refine (HP1.out wr.drew ((GX.out).trans (grown_dr (World.grownBy.refl wr none))) p1 p2).mono ?_
          rintro e x1 ⟨A5, n5, d5, rfl, t5, _, g5⟩
          have g5 : wr.grownBy x1 none := (grown_dr (World.grownBy.refl wr none)).trans g5
          first | (refine hK.out _ _ ?_ (fun hHeld => ?_)) | (go_wp2_with fail; refine hK.out _ _ ?_ (fun hHeld => ?_))
          · (try dsimp only); (repeat (first | assumption | exact World.grownBy.refl _ _ | refine grown_drR ?_ | refine grown_alR ?_))
          clear hK K
          refine wpAnyH_take (i := 10) (oi := _) (v := ?_) rfl (by kernel_rfl) (by kernel_rfl) (by kernel_rfl) (fun _ _ _ h => h) (Or.inl ⟨by rfl, ?_⟩) (by assumption) ?_
          rotate_left 1
          · (intro w hSw; (try dsimp only at hSw); go_simp; first | done | with_reducible rfl)
          try go_simp
          refine wpAnyH_take (i := 11) (oi := _) (v := ?_) rfl (by kernel_rfl) (by kernel_rfl) (by kernel_rfl) (fun _ _ _ h => h) (Or.inl ⟨by rfl, ?_⟩) (by assumption) ?_
          rotate_left 1
          · (intro w hSw; (try dsimp only at hSw); go_simp; first | done | with_reducible rfl)
          try go_simp
          refine wpAnyH_take (i := 13) (oi := _) (v := ?_) rfl (by kernel_rfl) (by kernel_rfl) (by kernel_rfl) (fun _ _ _ h => h) (Or.inl ⟨by rfl, ?_⟩) (by assumption) ?_
          rotate_left 1
          · (intro w hSw; (try dsimp only at hSw); go_simp; first | done | with_reducible rfl)
          try go_simp
          refine wpAnyH_take (i := 12) (oi := _) (v := ?_) rfl (by kernel_rfl) (by kernel_rfl) (by kernel_rfl) (fun _ _ _ h => h) (Or.inl ⟨by rfl, ?_⟩) (by assumption) ?_
          rotate_left 1
          · (intro w hSw; (try dsimp only at hSw); go_simp; first | done | with_reducible rfl)
          try go_simp
          refine wpAnyH_take (i := 14) (oi := _) (v := ?_) rfl (by kernel_rfl) (by kernel_rfl) (by kernel_rfl) (fun _ _ _ h => h) (Or.inl ⟨by rfl, ?_⟩) (by assumption) ?_
          rotate_left 1
          · (intro w hSw; (try dsimp only at hSw); go_simp; first | done | with_reducible rfl)
          try go_simp
          refine wpAnyH_done (by kernel_rfl) ?_ _
          refine NoPanic.normal ?_
          go_simp
          have z1 := gcellR g5 (by simp) z1
          have z2 := gcellR g5 (by simp) z2
          have GX := Lib.hid (GX.out.trans g5)
          have GZ := Lib.hid (GZ.out.trans g5)
          have Ht5 := Lib.hid t5
          clear hHeld g5 t5
          go_upto_region 19 with fail
          refine wp_region_noPanic ?_
          refine wp_region_held_drew (S := (fun w' => x1.grownBy w' none)) (by kernel_rfl) ?_ (fun hHeld => ?_)
          · (try dsimp only); (repeat (first | assumption | exact World.grownBy.refl _ _ | refine grown_drR ?_ | refine grown_alR ?_))
          refine wpAnyH_take (i := 0) (oi := _) (v := ?_) rfl (by kernel_rfl) (by kernel_rfl) (by kernel_rfl) (fun _ _ _ h => h) (Or.inl ⟨by rfl, ?_⟩) (by assumption) ?_
          rotate_left 1
          · (intro w hSw; (try dsimp only at hSw); go_simp; first | done | with_reducible rfl)
          try go_simp
          refine wpAnyH_take (i := 1) (oi := _) (v := ?_) rfl (by kernel_rfl) (by kernel_rfl) (by kernel_rfl) (fun _ _ _ h => h) (Or.inl ⟨by rfl, ?_⟩) (by assumption) ?_
          rotate_left 1
          · (intro w hSw; (try dsimp only at hSw); go_simp; first | done | with_reducible rfl)
          try go_simp
          refine wpAnyH_take (i := 2) (oi := _) (v := ?_) rfl (by kernel_rfl) (by kernel_rfl) (by kernel_rfl) (fun _ _ _ h => h) (Or.inl ⟨by rfl, ?_⟩) (by assumption) ?_
          rotate_left 1
          · (intro w hSw; (try dsimp only at hSw); go_simp; first | done | with_reducible rfl)
          try go_simp
          refine wpAnyH_take (i := 3) (oi := _) (v := ?_) rfl (by kernel_rfl) (by kernel_rfl) (by kernel_rfl) (fun _ _ _ h => h) (Or.inl ⟨by rfl, ?_⟩) (by assumption) ?_
          rotate_left 1
          · (intro w hSw; (try dsimp only at hSw); go_simp; first | done | with_reducible rfl)
          try go_simp
          refine wpAnyH_take (i := 4) (oi := _) (v := .int .i64 p1) rfl (by kernel_rfl) (by kernel_rfl) (by kernel_rfl) (fun _ _ _ h => h) (Or.inl ⟨by kernel_rfl, ?_⟩) (by assumption) ?_
          · (intro w hSw; (try dsimp only at hSw); go_simp; have y := gcellR hSw (by simp) z1; clear hSw; go_simp; first | done | with_reducible rfl)
          try go_simp
          refine wpAnyH_take (i := 5) (oi := _) (v := ?_) rfl (by kernel_rfl) (by kernel_rfl) (by kernel_rfl) (fun _ _ _ h => h) (Or.inl ⟨by rfl, ?_⟩) (by assumption) ?_
          rotate_left 1
          · (intro w hSw; (try dsimp only at hSw); go_simp; first | done | with_reducible rfl)
          try go_simp
          refine wpAnyH_take (i := 6) (oi := _) (v := ?_) rfl (by kernel_rfl) (by kernel_rfl) (by kernel_rfl) (fun _ _ _ h => h) (Or.inl ⟨by rfl, ?_⟩) (by assumption) ?_
          rotate_left 1
          · (intro w hSw; (try dsimp only at hSw); go_simp; first | done | with_reducible rfl)
          try go_simp
          refine wpAnyH_take (i := 7) (oi := _) (v := ?_) rfl (by kernel_rfl) (by kernel_rfl) (by kernel_rfl) (fun _ _ _ h => h) (Or.inl ⟨by rfl, ?_⟩) (by assumption) ?_
          rotate_left 1
          · (intro w hSw; (try dsimp only at hSw); go_simp; first | done | with_reducible rfl)
          try go_simp
          refine wpAnyH_take (i := 8) (oi := _) (v := .int .i64 p2) rfl (by kernel_rfl) (by kernel_rfl) (by kernel_rfl) (fun _ _ _ h => h) (Or.inl ⟨by kernel_rfl, ?_⟩) (by assumption) ?_
          · (intro w hSw; (try dsimp only at hSw); go_simp; have y := gcellR hSw (by simp) z2; clear hSw; go_simp; first | done | with_reducible rfl)
          try go_simp
          refine wpAnyH_ready (rs := [9]) (by kernel_rfl) (by simp) ?_
          refine AllReadyH.cons (o := _) rfl (fun K hK => ?_) AllReadyH.nil
          go_simp
          refine (HP2.out x1.drew ((GX.out).trans (grown_dr (World.grownBy.refl x1 none))) p1 p2).mono ?_
          rintro e x2 ⟨A6, n6, d6, rfl, t6, _, g6⟩
          have g6 : x1.grownBy x2 none := (grown_dr (World.grownBy.refl x1 none)).trans g6
          first | (refine hK.out _ _ ?_ (fun hHeld => ?_)) | (go_wp2_with fail; refine hK.out _ _ ?_ (fun hHeld => ?_))
          · (try dsimp only); (repeat (first | assumption | exact World.grownBy.refl _ _ | refine grown_drR ?_ | refine grown_alR ?_))
          clear hK K
          refine wpAnyH_take (i := 10) (oi := _) (v := ?_) rfl (by kernel_rfl) (by kernel_rfl) (by kernel_rfl) (fun _ _ _ h => h) (Or.inl ⟨by rfl, ?_⟩) (by assumption) ?_
          rotate_left 1
          · (intro w hSw; (try dsimp only at hSw); go_simp; first | done | with_reducible rfl)
          try go_simp
          refine wpAnyH_take (i := 11) (oi := _) (v := ?_) rfl (by kernel_rfl) (by kernel_rfl) (by kernel_rfl) (fun _ _ _ h => h) (Or.inl ⟨by rfl, ?_⟩) (by assumption) ?_
          rotate_left 1
          · (intro w hSw; (try dsimp only at hSw); go_simp; first | done | with_reducible rfl)
          try go_simp
          refine wpAnyH_take (i := 13) (oi := _) (v := ?_) rfl (by kernel_rfl) (by kernel_rfl) (by kernel_rfl) (fun _ _ _ h => h) (Or.inl ⟨by rfl, ?_⟩) (by assumption) ?_
          rotate_left 1
          · (intro w hSw; (try dsimp only at hSw); go_simp; first | done | with_reducible rfl)
          try go_simp
          refine wpAnyH_take (i := 12) (oi := _) (v := ?_) rfl (by kernel_rfl) (by kernel_rfl) (by kernel_rfl) (fun _ _ _ h => h) (Or.inl ⟨by rfl, ?_⟩) (by assumption) ?_
          rotate_left 1
          · (intro w hSw; (try dsimp only at hSw); go_simp; first | done | with_reducible rfl)
          try go_simp
          refine wpAnyH_take (i := 14) (oi := _) (v := ?_) rfl (by kernel_rfl) (by kernel_rfl) (by kernel_rfl) (fun _ _ _ h => h) (Or.inl ⟨by rfl, ?_⟩) (by assumption) ?_
          rotate_left 1
          · (intro w hSw; (try dsimp only at hSw); go_simp; first | done | with_reducible rfl)
          try go_simp
          refine wpAnyH_done (by kernel_rfl) ?_ _
          refine NoPanic.normal ?_
          go_simp
          have z1 := gcellR g6 (by simp) z1
          have z2 := gcellR g6 (by simp) z2
          have GX := Lib.hid (GX.out.trans g6)
          have GZ := Lib.hid (GZ.out.trans g6)
          have HSc := Lib.hid (fun W (g : x2.grownBy W none) => same_k A5 A6 n5 d5 n6 d6 _ _ W ((Ht5.out.kept g6).kept g) (t6.kept g))
          rw [decide_eq_true rfl] at HSc
          generalize proB yn p1 p2 = b5 at *
          clear hHeld g6 t6 Ht5
          go_wp2_with fail
          refine (HGr1.out x2 GX.out p1).mono ?_
          rintro e x3 ⟨A7, n7, d7, rfl, t7, _, g7⟩
          have z1 := gcellR g7 (by simp) z1
          have z2 := gcellR g7 (by simp) z2
          have GX := Lib.hid (GX.out.trans g7)
          have GZ := Lib.hid (GZ.out.trans g7)
          have HSc := Lib.hid (fun W (g : x3.grownBy W none) => HSc.out W (g7.trans g))
          have Ht7 := Lib.hid t7
          clear g7 t7
          go_wp2_with fail
          refine (HGr2.out x3 GX.out p1).mono ?_
          rintro e x4 ⟨A8, n8, d8, rfl, t8, _, g8⟩
          have z1 := gcellR g8 (by simp) z1
          have z2 := gcellR g8 (by simp) z2
          have GX := Lib.hid (GX.out.trans g8)
          have GZ := Lib.hid (GZ.out.trans g8)
          have HSc := Lib.hid (HSc.out x4 g8)
          have HSd := Lib.hid (fun W (g : x4.grownBy W none) => same_k A7 A8 n7 d7 n8 d8 _ _ W ((Ht7.out.kept g8).kept g) (t8.kept g))
          rw [decide_eq_true rfl] at HSd
          generalize groB yn p1 = b7 at *
          clear g8 t8 Ht7
          go_wp2_with fail
          refine HSc.out.mono ?_
          rintro e x5 ⟨rfl, g9⟩
          have HSd := Lib.hid (HSd.out x5 g9)
          have GZ := Lib.hid (GZ.out.trans g9)
          go_wp2_with fail
          refine HSd.out.mono ?_
          rintro e x6 ⟨rfl, g10⟩
          have GZ := Lib.hid (GZ.out.trans g10)
          clear g9 g10
          go_wp2_with fail
          exact ⟨⟨m + 1, by omega, by go_num, GZ.out⟩, by simp [intOf]; omega⟩
        · obtain rfl : m = 3 := by omega
          go_wp2_with fail
          exact ⟨⟨k + 1, by omega, by go_num, HG.out.trans (G9.out.trans hgz)⟩, by simp [intOf]; omega⟩
    · obtain rfl : k = 2 := by omega
      go_wp2_with fail
      go_ret
      exact ⟨rfl, G5.out.trans hg⟩
end Go.Proofs.Ytljjmoeplfcblaa
