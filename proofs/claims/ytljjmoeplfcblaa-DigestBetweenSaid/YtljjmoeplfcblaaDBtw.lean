/-
  The law DigestBetween.
-/
import Derived.Test.YtljjmoeplfcblaaBtwM
import Derived.Test.YtljjmoeplfcblaaOpn
namespace Go.Proofs.Ytljjmoeplfcblaa
open Go.RowKit Go.Shelf
attribute [local go_sem] get_mk extract_mk
set_option maxRecDepth 100000 in
set_option maxHeartbeats 16000000 in
theorem btw_walk (A : Option Addr) (n c : Nat) (l : List Str) (a b : Str) (_ : a.length ≤ 9223372036854775807) (_ : b.length ≤ 9223372036854775807) (q0 q1 q2 q3 : Nat) (hq0 : q0 ≤ 255) (hq1 : q1 ≤ 255) (hq2 : q2 ≤ 255) (hq3 : q3 ≤ 255) (w : World) (hn : n = l.length) (hcm : c ≤ maxLen) (hnc : n ≤ c) (hls : ∀ x ∈ l, x.length ≤ 9223372036854775807)
    (hA : 0 < n → ∃ ad, A = some ad ∧ ad.block < w.heap.size ∧ ∀ j x, l[j]? = some x → w.cell? (ad.add j) = some (.string ⟨x.toArray⟩)) :
    Calls Try.prog 9 #[.slice A n c, .agg #[.string ⟨a.toArray⟩, .string ⟨b.toArray⟩], .agg #[.int .u8 q0, .int .u8 q1, .int .u8 q2, .int .u8 q3]] w fun e w' => e = .returned (.bool true) ∧ w.grownBy w' none := by
  have HS := Lib.hid (fun w1 (g : w.grownBy w1 none) => sort_k A n c l w1 hn hcm hnc hls (fun h => by
    obtain ⟨ad, e, hb, hc⟩ := hA h
    exact ⟨ad, e, Nat.lt_of_lt_of_le hb g.size, fun j x hj => g.cell (hc j x hj) (by simp)⟩))
  clear hn hcm hnc hls hA
  obtain ⟨i0, hi0, hz0, hz1, hz2⟩ := info_parts info9
  obtain ⟨B, hB⟩ : ∃ B, w.heap.size = B := ⟨_, rfl⟩
  go_enter Try.func9, Try.ntmps9
  go_wp2_with fail
  have G0 := Lib.hid ((World.grownBy_alloc w (.cells #[.string ⟨a.toArray⟩, .string ⟨b.toArray⟩] 31) none).trans (World.grownBy_alloc _ (.cells #[.int .u8 q0, .int .u8 q1, .int .u8 q2, .int .u8 q3] 44) none))
  have HQ0 : Hid (Q4 ((w.alloc (.cells #[.string ⟨a.toArray⟩, .string ⟨b.toArray⟩] 31)).alloc (.cells #[.int .u8 q0, .int .u8 q1, .int .u8 q2, .int .u8 q3] 44)) (B + 1) q0 q1 q2 q3) := Lib.hid (by
    have h1 := World.alloc_heap_new (w.alloc (.cells #[.string ⟨a.toArray⟩, .string ⟨b.toArray⟩] 31)) (.cells #[.int .u8 q0, .int .u8 q1, .int .u8 q2, .int .u8 q3] 44)
    rw [World.size_alloc, hB] at h1
    exact h1)
  have hs : Hid (((w.alloc (.cells #[.string ⟨a.toArray⟩, .string ⟨b.toArray⟩] 31)).alloc (.cells #[.int .u8 q0, .int .u8 q1, .int .u8 q2, .int .u8 q3] 44)).heap[B]? = some (.cells #[.string ⟨a.toArray⟩, .string ⟨b.toArray⟩] 31 (0, 0))) := Lib.hid (by
    have h1 := World.alloc_heap_new w (.cells #[.string ⟨a.toArray⟩, .string ⟨b.toArray⟩] 31)
    rw [hB] at h1
    exact blk_kept (World.grownBy_alloc (w.alloc (.cells #[.string ⟨a.toArray⟩, .string ⟨b.toArray⟩] 31)) _ none) h1)
  generalize ((w.alloc (.cells #[.string ⟨a.toArray⟩, .string ⟨b.toArray⟩] 31)).alloc (.cells #[.int .u8 q0, .int .u8 q1, .int .u8 q2, .int .u8 q3] 44)) = w0 at *
  clear hB
  have HQ := Lib.hid (fun W (g : w0.grownBy W none) => HQ0.out.grown g (by simp))
  clear HQ0
  refine (sane_k w0).mono ?_
  rintro e w1 ⟨rfl, g1⟩
  have G1 := Lib.hid g1
  clear g1
  go_wp2_with fail
  refine (HS.out w1 (G0.out.trans G1.out)).mono ?_
  rintro e w2 ⟨XA, xn, xc, rfl, hX, hXN, g2⟩
  have G2 := Lib.hid (G1.out.trans g2)
  have hxl : (sortL (fewL l)).length ≤ 20 := by have := sortL_len (fewL l) []; have := few_len l; unfold sortL; simp at *; omega
  have H12 : Hid (∀ s ∈ sortL (fewL l), s.length ≤ 12) := Lib.hid (fun s hs => few_12 l s (by simpa using sortL_mem (fewL l) [] s hs))
  have HSO := Lib.hid (sortL_sorted (fewL l))
  generalize sortL (fewL l) = x at *
  have Hxn := Lib.hid hX.len
  have hxn : xn ≤ 20 := by rw [hX.len]; exact hxl
  have hxc := hX.le
  have hxcc := hX.cap
  have HXN := Lib.hid hXN
  have HX := Lib.hid (fun W (g : w2.grownBy W none) => hX.kept g)
  have s0 : w2.cell? ⟨B, 0, none⟩ = some (.string ⟨a.toArray⟩) := gcellR G2.out (by simp) (by simp [World.cell?, hs.out])
  have s1 : w2.cell? ⟨B, 1, none⟩ = some (.string ⟨b.toArray⟩) := gcellR G2.out (by simp) (by simp [World.cell?, hs.out])
  obtain ⟨ka, hka, ka1, ka2⟩ := min12 a
  obtain ⟨kb, hkb, kb1, kb2⟩ := min12 b
  clear hX hXN G1 g2 HS hxl hs
  go_upto_region 3 with fail
  refine wp_region_noPanic ?_
  refine wp_region_held_drew (S := (fun w' => w2.grownBy w' none)) (by kernel_rfl) ?_ (fun hHeld => ?_)
  · (try dsimp only); (repeat (first | assumption | exact World.grownBy.refl _ _ | refine grown_drR ?_ | refine grown_alR ?_))
  refine wpAnyH_take (i := 0) (oi := _) (v := ?_) rfl (by kernel_rfl) (by kernel_rfl) (by kernel_rfl) (fun _ _ _ h => h) (Or.inl ⟨by rfl, ?_⟩) (by assumption) ?_
  rotate_left 1
  · (intro w hSw; (try dsimp only at hSw); go_simp; first | done | with_reducible rfl)
  try go_simp
  refine wpAnyH_take (i := 1) (oi := _) (v := .string ⟨a.toArray⟩) rfl (by kernel_rfl) (by kernel_rfl) (by kernel_rfl) (fun _ _ _ h => h) (Or.inl ⟨by kernel_rfl, ?_⟩) (by assumption) ?_
  · (intro w hSw; (try dsimp only at hSw); go_simp; have y := gcellR hSw (by simp) s0; clear hSw; go_simp; first | done | with_reducible rfl)
  try go_simp
  refine wpAnyH_take (i := 2) (oi := _) (v := ?_) rfl (by kernel_rfl) (by kernel_rfl) (by kernel_rfl) (fun _ _ _ h => h) (Or.inl ⟨by rfl, ?_⟩) (by assumption) ?_
  rotate_left 1
  · (intro w hSw; (try dsimp only at hSw); go_simp; first | done | with_reducible rfl)
  try go_simp
  refine wpAnyH_take (i := 3) (oi := _) (v := .string ⟨a.toArray⟩) rfl (by kernel_rfl) (by kernel_rfl) (by kernel_rfl) (fun _ _ _ h => h) (Or.inl ⟨by kernel_rfl, ?_⟩) (by assumption) ?_
  · (intro w hSw; (try dsimp only at hSw); go_simp; have y := gcellR hSw (by simp) s0; clear hSw; go_simp; first | done | with_reducible rfl)
  try go_simp
  refine wpAnyH_take (i := 4) (oi := _) (v := ?_) rfl (by kernel_rfl) (by kernel_rfl) (by kernel_rfl) (fun _ _ _ h => h) (Or.inl ⟨by rfl, ?_⟩) (by assumption) ?_
  rotate_left 1
  · (intro w hSw; (try dsimp only at hSw); go_simp; first | done | with_reducible rfl)
  try go_simp
  refine wpAnyH_take (i := 5) (oi := _) (v := .int .i64 (ka : Int)) rfl (by kernel_rfl) (by kernel_rfl) (by kernel_rfl) (fun _ _ _ h => h) (Or.inl ⟨by kernel_rfl, ?_⟩) (by assumption) ?_
  · (intro w hSw; (try dsimp only at hSw); go_simp; first | done | with_reducible rfl)
  try go_simp
  refine wpAnyH_take (i := 6) (oi := _) (v := .string ⟨(a.take ka).toArray⟩) rfl (by kernel_rfl) (by kernel_rfl) (by kernel_rfl) (fun _ _ _ h => h) (Or.inl ⟨by kernel_rfl, ?_⟩) (by assumption) ?_
  · (intro w hSw; (try dsimp only at hSw); go_simp; first | done | with_reducible rfl)
  try go_simp
  refine wpAnyH_take (i := 7) (oi := _) (v := ?_) rfl (by kernel_rfl) (by kernel_rfl) (by kernel_rfl) (fun _ _ _ h => h) (Or.inl ⟨by rfl, ?_⟩) (by assumption) ?_
  rotate_left 1
  · (intro w hSw; (try dsimp only at hSw); go_simp; first | done | with_reducible rfl)
  try go_simp
  refine wpAnyH_take (i := 8) (oi := _) (v := .string ⟨b.toArray⟩) rfl (by kernel_rfl) (by kernel_rfl) (by kernel_rfl) (fun _ _ _ h => h) (Or.inl ⟨by kernel_rfl, ?_⟩) (by assumption) ?_
  · (intro w hSw; (try dsimp only at hSw); go_simp; have y := gcellR hSw (by simp) s1; clear hSw; go_simp; first | done | with_reducible rfl)
  try go_simp
  refine wpAnyH_take (i := 9) (oi := _) (v := ?_) rfl (by kernel_rfl) (by kernel_rfl) (by kernel_rfl) (fun _ _ _ h => h) (Or.inl ⟨by rfl, ?_⟩) (by assumption) ?_
  rotate_left 1
  · (intro w hSw; (try dsimp only at hSw); go_simp; first | done | with_reducible rfl)
  try go_simp
  refine wpAnyH_take (i := 10) (oi := _) (v := .string ⟨b.toArray⟩) rfl (by kernel_rfl) (by kernel_rfl) (by kernel_rfl) (fun _ _ _ h => h) (Or.inl ⟨by kernel_rfl, ?_⟩) (by assumption) ?_
  · (intro w hSw; (try dsimp only at hSw); go_simp; have y := gcellR hSw (by simp) s1; clear hSw; go_simp; first | done | with_reducible rfl)
  try go_simp
  refine wpAnyH_take (i := 11) (oi := _) (v := ?_) rfl (by kernel_rfl) (by kernel_rfl) (by kernel_rfl) (fun _ _ _ h => h) (Or.inl ⟨by rfl, ?_⟩) (by assumption) ?_
  rotate_left 1
  · (intro w hSw; (try dsimp only at hSw); go_simp; first | done | with_reducible rfl)
  try go_simp
  refine wpAnyH_take (i := 12) (oi := _) (v := .int .i64 (kb : Int)) rfl (by kernel_rfl) (by kernel_rfl) (by kernel_rfl) (fun _ _ _ h => h) (Or.inl ⟨by kernel_rfl, ?_⟩) (by assumption) ?_
  · (intro w hSw; (try dsimp only at hSw); go_simp; first | done | with_reducible rfl)
  try go_simp
  refine wpAnyH_take (i := 13) (oi := _) (v := .string ⟨(b.take kb).toArray⟩) rfl (by kernel_rfl) (by kernel_rfl) (by kernel_rfl) (fun _ _ _ h => h) (Or.inl ⟨by kernel_rfl, ?_⟩) (by assumption) ?_
  · (intro w hSw; (try dsimp only at hSw); go_simp; first | done | with_reducible rfl)
  try go_simp
  refine wpAnyH_take (i := 14) (oi := _) (v := ?_) rfl (by kernel_rfl) (by kernel_rfl) (by kernel_rfl) (fun _ _ _ h => h) (Or.inl ⟨by rfl, ?_⟩) (by assumption) ?_
  rotate_left 1
  · (intro w hSw; (try dsimp only at hSw); go_simp; first | done | with_reducible rfl)
  try go_simp
  refine wpAnyH_take (i := 15) (oi := _) (v := ?_) rfl (by kernel_rfl) (by kernel_rfl) (by kernel_rfl) (fun _ _ _ h => h) (Or.inl ⟨by rfl, ?_⟩) (by assumption) ?_
  rotate_left 1
  · (intro w hSw; (try dsimp only at hSw); go_simp; first | done | with_reducible rfl)
  try go_simp
  refine wpAnyH_done (by kernel_rfl) ?_ _
  refine NoPanic.normal ?_
  go_simp
  clear hHeld s0 s1 hka hkb ka1 kb1
  have g3 : w2.grownBy w2.drew none := grown_dr (World.grownBy.refl _ _)
  have hal : (a.take ka).length ≤ 12 := by rw [List.length_take]; omega
  have hbl : (b.take kb).length ≤ 12 := by rw [List.length_take]; omega
  generalize a.take ka = a1 at *
  generalize b.take kb = b1 at *
  have HX := Lib.hid (fun W (g : w2.drew.grownBy W none) => HX.out W (g3.trans g))
  have G3 := Lib.hid (G2.out.trans g3)
  clear g3 G2
  generalize w2.drew = w3 at *
  have d0 := (HQ.out w3 G3.out).c0
  have d1 := (HQ.out w3 G3.out).c1
  have hxs := Lib.hid (fun (s : Str) (hs : s ∈ x) => H12.out s hs)
  go_upto_region 4 with fail
  go_cut [51] (fun q wx => ∃ t : Bool, q = .bool t ∧ (t = true → 0 < xn) ∧ w3.grownBy wx none)
  case first =>
    by_cases h3 : (q0 : Int) % 3 = 0
    · have b3 : ((q0 : Int) % 3 == 0) = true := by rw [h3]; rfl
      clear h3
      by_cases hx0 : 0 < xn
      · have bx : (0 : Int) < (xn : Int) := by omega
        go_wp2_with fail
        go_meet
        exact ⟨true, rfl, fun _ => hx0, World.grownBy.refl _ _⟩
      · have bx : decide ((0 : Int) < (xn : Int)) = false := by rw [decide_eq_false_iff_not]; omega
        go_wp2_with fail
        go_meet
        exact ⟨false, by simp, fun h => (by cases h), World.grownBy.refl _ _⟩
    · have b3 : ((q0 : Int) % 3 == 0) = false := by rw [beq_eq_false_iff_ne]; exact h3
      clear h3
      go_wp2_with fail
      go_meet
      exact ⟨false, rfl, fun h => (by cases h), World.grownBy.refl _ _⟩
  case rest =>
  obtain ⟨t, rfl, ht, g4⟩ := hcut
  have d1 := gcellR g4 (by simp) d1
  have HX := Lib.hid (fun W (g : wc.grownBy W none) => HX.out W (g4.trans g))
  have G4 := Lib.hid (G3.out.trans g4)
  have Ht := Lib.hid ht
  clear d0 g4 G3 ht
  generalize wc = w4 at *
  go_upto_if 51 with fail
  go_cut [9, 10] (fun u v wx => ∃ a2 b2 : Str, u = .string ⟨a2.toArray⟩ ∧ v = .string ⟨b2.toArray⟩ ∧ w4.grownBy wx none)
  case first =>
    cases t with
    | false =>
      go_wp2_with fail
      go_meet
      exact ⟨a1, b1, rfl, rfl, World.grownBy.refl _ _⟩
    | true =>
      have hx0 := Ht.out rfl
      have ia0 : 0 ≤ (q1 : Int) % (xn : Int) := Int.emod_nonneg _ (by omega)
      have ia1 : (q1 : Int) % (xn : Int) < (xn : Int) := Int.emod_lt_of_pos _ (by omega)
      have ia2 : ((xn : Int) == 0) = false := by rw [beq_eq_false_iff_ne]; omega
      have ia4 : (0 : Int) < (xn : Int) := by omega
      have ia3 : q1 % xn < xn := Nat.mod_lt _ (by omega)
      obtain ⟨s, hs⟩ : ∃ s, x[q1 % xn]? = some s := ⟨_, List.getElem?_eq_getElem (by have := Hxn.out; omega)⟩
      obtain ⟨ad, rfl, _, hc⟩ := (HX.out w4 (World.grownBy.refl _ _)).cell hx0
      have hcx := hc _ s hs
      have Hs := Lib.hid hs
      have hsl : s.length ≤ 12 := H12.out s (List.mem_of_getElem? hs)
      clear hs hc
      go_wp2_with fail
      go_meet
      exact ⟨s, s ++ [0], rfl, congrArg Value.string (str_app s [0]), World.grownBy.refl _ _⟩
  case rest =>
  obtain ⟨a2, b2, rfl, rfl, g5⟩ := hcut
  have HX := Lib.hid (fun W (g : wc.grownBy W none) => HX.out W (g5.trans g))
  have G5 := Lib.hid (G4.out.trans g5)
  clear d1 g5 G4 Ht
  generalize wc = w5 at *
  have h40 : Hid (x.length ≤ 1099511627776) := Lib.hid (by rw [← Hxn.out]; omega)
  have RX := Lib.hid (root_k XA xn xc x (by omega) w5 (HX.out w5 (World.grownBy.refl _ _)))
  have AR := Lib.hid (fun W (g : w5.grownBy W none) => around_a XA xn xc x a2 b2 (by omega) HXN.out W (HX.out W g))
  rw [if_pos HSO.out, if_pos HSO.out, if_pos HSO.out, HSO.out] at AR
  have HB := ar_win HSO.out h40.out a2 b2
  have HBL := ar_winL HSO.out h40.out a2 b2
  rw [← Hxn.out] at HB HBL
  have HB := Lib.hid HB
  have HBL := Lib.hid HBL
  have hT2 := arT_len x a2 b2
  have hTm : Hid (∀ s ∈ arT x a2 b2, s.length ≤ 100) := Lib.hid (fun s hs => Nat.le_trans (H12.out s (List.mem_of_mem_drop (List.mem_of_mem_take hs))) (by decide))
  have hP1 := proofL_len x (arI x a2) (arJ x a2 b2)
  have hP2 : Hid (∀ s ∈ arP x a2 b2, s.length ≤ 100) := Lib.hid (fun s hs => Nat.le_trans (pl_8 x _ _ s hs) (by decide))
  have hI1 : arI x a2 ≤ xn := by have := (ar_split x a2 b2).2; rw [Hxn.out]; omega
  have hT3 : (arT x a2 b2).length ≤ 20 := by have := (ar_split x a2 b2).2; rw [hT2]; have := Hxn.out; omega
  have hP3 : (arP x a2 b2).length ≤ 60 := by unfold arP; have := (ar_split x a2 b2).2; have := Hxn.out; omega
  clear hT2 hP1
  generalize arI x a2 = I at *
  generalize arT x a2 b2 = T at *
  generalize arP x a2 b2 = P at *
  generalize root x = R at *
  go_wp2_with fail
  refine RX.out.mono ?_
  rintro e w6 ⟨rfl, g6⟩
  have AR := Lib.hid (AR.out w6 g6)
  have HX := Lib.hid (fun W (g : w6.grownBy W none) => HX.out W (g6.trans g))
  have G6 := Lib.hid (G5.out.trans g6)
  clear g6 G5 RX
  go_wp2_with fail
  refine AR.out.mono ?_
  rintro e w8 ⟨TA, tn, tc, YA, yn, yc, rfl, HT, HY, HTN, HYN, g8⟩
  have htn : tn ≤ 20 := by rw [HT.len]; exact hT3
  have hyn : yn ≤ 60 := by rw [HY.len]; exact hP3
  have HW := within_g R (xn : Int) (I : Int) a2 b2 TA tn tc T YA yn yc P (by constructor <;> omega) (by constructor <;> omega) (by omega) (by omega) w8 HT HY
  rw [HB.out, HBL.out] at HW
  have HW := Lib.hid HW
  have HX := Lib.hid (fun W (g : w8.grownBy W none) => HX.out W (g8.trans g))
  have HT := Lib.hid (fun W (g : w8.grownBy W none) => HT.kept g)
  have HY := Lib.hid (fun W (g : w8.grownBy W none) => HY.kept g)
  have HTN := Lib.hid HTN
  have HYN := Lib.hid HYN
  have G8 := Lib.hid (G6.out.trans g8)
  clear g8 AR G6 HB HBL hT3 hP3
  go_wp2_with fail
  refine HW.out.mono ?_
  rintro e w7 ⟨DA, dn, dc, rfl, HD, _, g7⟩
  have HX := Lib.hid (fun W (g : w7.grownBy W none) => HX.out W (g7.trans g))
  have HT := Lib.hid (fun W (g : w7.grownBy W none) => HT.out W (g7.trans g))
  have HY := Lib.hid (fun W (g : w7.grownBy W none) => HY.out W (g7.trans g))
  have HD := Lib.hid (fun W (g : w7.grownBy W none) => HD.kept g)
  have G7 := Lib.hid (G8.out.trans g7)
  have Hgg : Hid (w7.grownBy w7 none) := Lib.hid (World.grownBy.refl _ _)
  clear g7 HW G8
  go_wp2_with fail
  go_loopw [18, 19] (fun v z wr => ∃ k : Nat, k ≤ xn ∧ z = .int .i64 k ∧ wr.ownsRow w7.heap.size 9 1 v ((x.take k).filter (between a2 b2)).length (((x.take k).filter (between a2 b2)).map fun s => .string ⟨s.toArray⟩) ∧ w7.grownBy wr none) (fun _ z _ => xn - (intOf z).toNat)
  case atStart => exact ⟨0, Nat.zero_le _, rfl, World.ownsRow_nil _ _ _ _, World.grownBy.refl _ _⟩
  case round =>
    obtain ⟨k, hk, rfl, ho, hg⟩ := hrel
    by_cases hlt : k < xn
    · obtain ⟨s, hx⟩ : ∃ s, x[k]? = some s := ⟨_, List.getElem?_eq_getElem (by have := Hxn.out; omega)⟩
      obtain ⟨ad, rfl, _, hc⟩ := (HX.out wr hg).cell (by omega)
      have hcx := hc k s hx
      have r1 : (0 : Int) ≤ (k : Int) := by omega
      have r2 : (k : Int) < (xn : Int) := by omega
      have HF := Lib.hid (filter_snoc (between a2 b2) x k s hx)
      have hfl : ((x.take k).filter (between a2 b2)).length ≤ 1000 := by
        have h1 := List.length_filter_le (between a2 b2) (x.take k)
        have h2 : (x.take k).length ≤ k := by rw [List.length_take]; omega
        omega
      generalize hT : (x.take k).filter (between a2 b2) = T at *
      have Ho := Lib.hid ho
      have Hg := Lib.hid hg
      clear hc hx ho hT
      cases h1 : Op.bytesLess s a2 with
      | true =>
        have HB : Hid (between a2 b2 s = false) := Lib.hid (by simp [between, h1])
        go_wp2_with fail
        refine ⟨⟨k + 1, by omega, by go_num, ?_, hg⟩, by simp [intOf]; omega⟩
        rw [HF.out, HB.out]
        simpa using Ho.out
      | false =>
        cases h2 : Op.bytesLess s b2 with
        | false =>
          have HB : Hid (between a2 b2 s = false) := Lib.hid (by simp [between, h2])
          go_wp2_with fail
          refine ⟨⟨k + 1, by omega, by go_num, ?_, hg⟩, by simp [intOf]; omega⟩
          rw [HF.out, HB.out]
          simpa using Ho.out
        | true =>
          have HB : Hid (between a2 b2 s = true) := Lib.hid (by simp [between, h1, h2])
          have hsz := hg.size
          go_wp2_with (at_builtin; refine wpList_append_own_at _ rfl _ _ 29 rfl w7.heap.size 9 i0 _ 1 16 Try.underlying29 hi0 hz0 hz1 hz2 rfl (by omega) _ T.length _ rfl (Ho.out.alloc _) ⟨wr.heap.size, 0, none⟩ 1 1 [.string ⟨s.toArray⟩] rfl rfl (World.news_of_block (cs := #[.string ⟨s.toArray⟩]) (t := 9) (fr := (0, 0)) (heap_alloc_new wr _)) (by intro u hu; rw [List.mem_singleton] at hu; rw [hu]; rfl) (by simp only [maxLen]; omega) (by omega) (by simp; omega) ?_; intro v9 w9 hown9 hgrow9 hnil9 hloc9)
          have gw9 := (Hg.out.trans (World.grownBy_alloc wr (.cells #[.string ⟨s.toArray⟩] 9) none)).andThen hgrow9 (fun r e => .inl (Ho.out.lt r e).1)
          refine ⟨⟨k + 1, by omega, by go_num, ?_, gw9⟩, by simp [intOf]; omega⟩
          rw [HF.out, HB.out]
          simpa using hown9
    · have htk : x.take k = x := List.take_of_length_le (by have := Hxn.out; omega)
      rw [htk] at ho
      have Ho := Lib.hid ho
      clear ho htk
      obtain ⟨WA, wcp, rfl, HWt, _⟩ := own_strs' Ho.out (fun s hs => Nat.le_trans (H12.out s (List.mem_filter.1 hs).1) (by decide))
      have HWt := Lib.hid (fun W (g : wr.grownBy W none) => HWt.kept g)
      have HSm := same_k DA WA dn dc _ wcp _ _ wr (HD.out wr hg) (HWt.out wr (World.grownBy.refl _ _))
      rw [decide_eq_true rfl] at HSm
      have HSm := Lib.hid HSm
      have HT := Lib.hid (HT.out wr hg)
      have HY := Lib.hid (HY.out wr hg)
      have G9 := Lib.hid (G7.out.trans hg)
      clear hg Ho HD HX
      generalize x.filter (between a2 b2) = Wt at *
      generalize Wt.length = wn at *
      go_wp2_with fail
      refine HSm.out.mono ?_
      rintro e v1 ⟨rfl, g1⟩
      have HT := Lib.hid (HT.out.kept g1)
      have HY := Lib.hid (HY.out.kept g1)
      have HWt := Lib.hid (fun W (g : v1.grownBy W none) => HWt.out W (g1.trans g))
      have G10 := Lib.hid (G9.out.trans g1)
      clear g1 HSm G9
      have r0 := (HQ.out v1 G10.out).c0
      have r1 := (HQ.out v1 G10.out).c1
      have r2 := (HQ.out v1 G10.out).c2
      have r3 := (HQ.out v1 G10.out).c3
      go_wp2_with fail
      refine (changed_k (xn : Int) (I : Int) (by constructor <;> omega) (by constructor <;> omega) TA tn tc T YA yn yc P [] [] q0 q1 q2 q3 hq2 hq3 (by omega) (by omega) hTm.out hP2.out HTN.out HYN.out v1 HT.out HY.out).mono ?_
      rintro e v2 ⟨n1, i1, LB, lb, lcb, L1, PB, pb, pcb, P1, rfl, hn1, hi1, hlb, hpb, hL1, hP1, hHL, hHP, gs, fL, fP⟩
      have HT := Lib.hid (HT.out.kept gs)
      have HY := Lib.hid (HY.out.kept gs)
      have HWt := Lib.hid (fun W (g : v2.grownBy W none) => HWt.out W (gs.trans g))
      have G11 := Lib.hid (G10.out.trans gs)
      clear r0 r1 r2 r3 fL fP gs G10
      go_upto_region 19 with fail
      have gA := World.grownBy_alloc v2 (.cells #[.int .i64 n1, .int .i64 i1, .slice LB lb lcb, .slice PB pb pcb, .string ⟨#[]⟩, .string ⟨#[]⟩] 46) none
      have hcl : Cl (v2.alloc (.cells #[.int .i64 n1, .int .i64 i1, .slice LB lb lcb, .slice PB pb pcb, .string ⟨#[]⟩, .string ⟨#[]⟩] 46)) v2.heap.size n1 i1 (.slice LB lb lcb) (.slice PB pb pcb) [] [] := World.alloc_heap_new v2 _
      generalize v2.alloc (.cells #[.int .i64 n1, .int .i64 i1, .slice LB lb lcb, .slice PB pb pcb, .string ⟨#[]⟩, .string ⟨#[]⟩] 46) = v3 at *
      generalize v2.heap.size = b20 at *
      have HL1 := Lib.hid (fun W (g : v3.grownBy W none) => (hHL.kept gA).kept g)
      have HP1 := Lib.hid (fun W (g : v3.grownBy W none) => (hHP.kept gA).kept g)
      have HT := Lib.hid (fun W (g : v3.grownBy W none) => (HT.out.kept gA).kept g)
      have HY := Lib.hid (fun W (g : v3.grownBy W none) => (HY.out.kept gA).kept g)
      have HWt := Lib.hid (fun W (g : v3.grownBy W none) => HWt.out W (gA.trans g))
      have HCc := Lib.hid (fun W (g : v3.grownBy W none) => hcl.grown g (by simp))
      have G12 := Lib.hid (G11.out.trans gA)
      have HWi := Lib.hid (within_g R n1 i1 a2 b2 LB lb lcb L1 PB pb pcb P1 hn1 hi1 (by omega) (by omega) v3 (HL1.out v3 (World.grownBy.refl _ _)) (HP1.out v3 (World.grownBy.refl _ _)))
      have HLe := Lib.hid (fun W (g : v3.grownBy W none) => led_g n1 i1 hn1 hi1 LB lb lcb L1 PB pb pcb P1 (fun s hs => Nat.le_trans (hL1 s hs) (by decide)) (by omega) W (HL1.out W g) (HP1.out W g))
      have HWL : Hid (winB R n1 i1 a2 b2 L1 P1 = true → fitsB n1 i1 L1 P1 = true ∧ ledS n1 i1 L1 P1 = R) := Lib.hid win_led
      generalize winL R n1 i1 a2 b2 L1 P1 = wl at *
      generalize winB R n1 i1 a2 b2 L1 P1 = wb at *
      generalize fitsB n1 i1 L1 P1 = fb at *
      generalize ledS n1 i1 L1 P1 = ls at *
      have c0 := (HCc.out v3 (World.grownBy.refl _ _)).c0
      have c1 := (HCc.out v3 (World.grownBy.refl _ _)).c1
      have c2 := (HCc.out v3 (World.grownBy.refl _ _)).c2
      have c3 := (HCc.out v3 (World.grownBy.refl _ _)).c3
      clear gA hcl hHL hHP hL1 hP1 hn1 hi1 G11
      go_wp2_with fail
      refine HWi.out.mono ?_
      rintro e v4 ⟨D2, d2, dc2, rfl, HD2, _, g4⟩
      have c0 := gcellR g4 (by simp) c0
      have c1 := gcellR g4 (by simp) c1
      have c2 := gcellR g4 (by simp) c2
      have c3 := gcellR g4 (by simp) c3
      have HD2 := Lib.hid (fun W (g : v4.grownBy W none) => HD2.kept g)
      have G4' := Lib.hid g4
      clear g4 HWi
      go_wp2_with fail
      refine (HLe.out v4 G4'.out).mono ?_
      rintro e v5 ⟨rfl, g5⟩
      have c0 := gcellR g5 (by simp) c0
      have c1 := gcellR g5 (by simp) c1
      have c2 := gcellR g5 (by simp) c2
      have c3 := gcellR g5 (by simp) c3
      have HD2 := Lib.hid (fun W (g : v5.grownBy W none) => HD2.out W (g5.trans g))
      have G5' := Lib.hid (G4'.out.trans g5)
      have HSa := Lib.hid (fun W (g : v5.grownBy W none) => same_k LB TA lb lcb tn tc L1 T W (HL1.out W (G5'.out.trans g)) (HT.out W (G5'.out.trans g)))
      have HSb := Lib.hid (fun W (g : v5.grownBy W none) => same_k PB YA pb pcb yn yc P1 P W (HP1.out W (G5'.out.trans g)) (HY.out W (G5'.out.trans g)))
      have HSc := Lib.hid (fun W (g : v5.grownBy W none) => same_k D2 WA d2 dc2 wn wcp wl Wt W (HD2.out W g) (HWt.out W (G5'.out.trans g)))
      generalize decide (L1 = T) = sa at *
      generalize decide (P1 = P) = sb at *
      generalize decide (wl = Wt) = sc at *
      clear g5 HLe HL1 HP1 HT HY HD2 HWt G4' HCc
      go_upto_region 21 with fail
      go_cut [25] (fun q wx => ∃ sv : Bool, q = .bool sv ∧ v5.grownBy wx none)
      case first =>
        by_cases hN : n1 = (xn : Int)
        · have bN : (n1 == (xn : Int)) = true := by rw [beq_iff_eq]; exact hN
          clear hN
          by_cases hI : i1 = (I : Int)
          · have bI : (i1 == (I : Int)) = true := by rw [beq_iff_eq]; exact hI
            clear hI
            go_wp2_with fail
            refine (HSa.out v5 (World.grownBy.refl _ _)).mono ?_
            rintro e v6 ⟨rfl, g6⟩
            have c3 := gcellR g6 (by simp) c3
            cases sa with
            | true =>
              go_wp2_with fail
              refine (HSb.out v6 g6).mono ?_
              rintro e v7 ⟨rfl, g7⟩
              go_wp2_with fail
              go_meet
              exact ⟨sb, rfl, g6.trans g7⟩
            | false =>
              go_wp2_with fail
              go_meet
              exact ⟨false, rfl, g6⟩
          · have bI : (i1 == (I : Int)) = false := by rw [beq_eq_false_iff_ne]; exact hI
            clear hI
            go_wp2_with fail
            go_meet
            exact ⟨false, rfl, World.grownBy.refl _ _⟩
        · have bN : (n1 == (xn : Int)) = false := by rw [beq_eq_false_iff_ne]; exact hN
          clear hN
          go_wp2_with fail
          go_meet
          exact ⟨false, rfl, World.grownBy.refl _ _⟩
      case rest =>
      obtain ⟨sv, rfl, g6⟩ := hcut
      have GF := Lib.hid (G0.out.trans (G12.out.trans (G5'.out.trans g6)))
      have HSc := Lib.hid (HSc.out wc g6)
      clear c0 c1 c2 c3 HSa HSb g6
      cases wb with
      | false =>
        go_wp2_with fail
        go_ret
        exact ⟨rfl, GF.out⟩
      | true =>
        obtain ⟨rfl, rfl⟩ := HWL.out rfl
        clear HWL
        cases sv with
        | false =>
          go_wp2_with fail
          go_ret
          exact ⟨rfl, GF.out⟩
        | true =>
          go_wp2_with fail
          refine HSc.out.mono ?_
          rintro e v8 ⟨rfl, g8⟩
          have GF := Lib.hid (GF.out.trans g8)
          clear g8
          cases sc with
          | true =>
            go_wp2_with fail
            go_ret
            exact ⟨rfl, GF.out⟩
          | false =>
            go_wp2_with fail
            go_ret
            exact ⟨rfl, GF.out⟩
end Go.Proofs.Ytljjmoeplfcblaa
