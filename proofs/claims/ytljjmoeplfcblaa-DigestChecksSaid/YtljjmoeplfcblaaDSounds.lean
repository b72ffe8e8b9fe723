/-
  The law DigestSounds.
-/
import Derived.Test.YtljjmoeplfcblaaRCh
import Derived.Test.YtljjmoeplfcblaaRLed
import Derived.Test.YtljjmoeplfcblaaGrows
namespace Go.Proofs.Ytljjmoeplfcblaa
open Go.RowKit Go.Shelf
attribute [local go_sem] get_mk extract_mk
theorem fits_no (n i : Int) (LL PL : List Str) (h : ¬ (0 ≤ n ∧ n ≤ 1099511627776 ∧ 0 ≤ i ∧ (LL.length : Int) ≤ n - i)) : fitsB n i LL PL = false := by
  unfold fitsB
  rw [decide_eq_false h, Bool.false_and, Bool.false_and]
/-- digest.Verify, whatever it is given -/
theorem verify_g (r : Str) (n i : Int) (hn : I64 n) (hi : I64 i) (LA : Option Addr) (lm lc : Nat) (LL : List Str) (PA : Option Addr) (p pc : Nat) (PL : List Str) (hlm : lm ≤ 1000) (hp : p ≤ 1000) (w : World) (hL : Strs w LA lm lc LL) (hP : Strs w PA p pc PL) :
    Calls Try.prog 36 #[.string ⟨r.toArray⟩, .int .i64 n, .int .i64 i, .slice LA lm lc, .slice PA p pc] w fun e w' => e = .returned (.bool (verB r n i LL PL)) ∧ w.grownBy w' none := by
  by_cases h : 0 ≤ n ∧ n ≤ 1099511627776 ∧ 0 ≤ i ∧ (lm : Int) ≤ n - i
  · obtain ⟨n, rfl⟩ := Int.eq_ofNat_of_zero_le h.1
    obtain ⟨i, rfl⟩ := Int.eq_ofNat_of_zero_le h.2.2.1
    exact verify_k r n i LA lm lc LL PA p pc PL (by omega) (by omega) hlm hp w hL hP
  · refine (verify_no r n i LA lm lc PA p pc hn hi h (by omega) w).mono fun e w' he => ⟨?_, he.2⟩
    rw [he.1, verB, fits_no n i LL PL (by rw [← hL.len]; exact h), Bool.false_and]
/-- the reference's Led, whatever it is given -/
theorem led_g (n i : Int) (hn : I64 n) (hi : I64 i) (LA : Option Addr) (lm lc : Nat) (LL : List Str) (PA : Option Addr) (p pc : Nat) (PL : List Str) (hsl : ∀ x ∈ LL, x.length ≤ 1152921504606846976) (hlm : lm ≤ 1000) (w : World) (hL : Strs w LA lm lc LL) (hP : Strs w PA p pc PL) :
    Calls Try.prog 40 #[.int .i64 n, .int .i64 i, .slice LA lm lc, .slice PA p pc] w fun e w' => e = .returned (.tuple #[.string ⟨(ledS n i LL PL).toArray⟩, .bool (fitsB n i LL PL)]) ∧ w.grownBy w' none := by
  by_cases h : 0 ≤ n ∧ n ≤ 1099511627776 ∧ 0 ≤ i ∧ (lm : Int) ≤ n - i
  · obtain ⟨n, rfl⟩ := Int.eq_ofNat_of_zero_le h.1
    obtain ⟨i, rfl⟩ := Int.eq_ofNat_of_zero_le h.2.2.1
    exact led_rn n i LA lm lc LL PA p pc PL (by omega) (by omega) hsl w hL hP
  · refine (led_rno n i LA lm lc PA p pc hn hi h (by omega) w).mono fun e w' he => ⟨?_, he.2⟩
    have hf := fits_no n i LL PL (by rw [← hL.len]; exact h)
    rw [he.1, ledS, hf]
    rfl
theorem ver_led (r : Str) (n i : Int) (LL PL : List Str) : verB r n i LL PL = (fitsB n i LL PL && r == ledS n i LL PL) := by
  unfold verB ledS
  cases h : fitsB n i LL PL <;> simp
theorem Q4.c0 {w : World} {b : Nat} {q0 q1 q2 q3 : Int} (h : Q4 w b q0 q1 q2 q3) : w.cell? ⟨b, 0, none⟩ = some (.int .u8 q0) := by unfold Q4 at h; simp [World.cell?, h]
theorem Q4.c1 {w : World} {b : Nat} {q0 q1 q2 q3 : Int} (h : Q4 w b q0 q1 q2 q3) : w.cell? ⟨b, 1, none⟩ = some (.int .u8 q1) := by unfold Q4 at h; simp [World.cell?, h]
theorem grown_new6 {a b : World} {r : Nat} {v0 v1 v2 v3 v4 v5 : Value} (h : a.grownBy b none) (hr : a.heap.size ≤ r) : a.grownBy ((((((b.setCell ⟨r, 0, none⟩ v0).setCell ⟨r, 1, none⟩ v1).setCell ⟨r, 2, none⟩ v2).setCell ⟨r, 3, none⟩ v3).setCell ⟨r, 4, none⟩ v4).setCell ⟨r, 5, none⟩ v5) none :=
  h.andThen (grown_set6 b r v0 v1 v2 v3 v4 v5) (fun j e => by injection e with e; exact .inl (Nat.le_trans hr (Nat.le_of_eq e)))
theorem own_none {w : World} {b n c : Nat} {A : Option Addr} {xs : List Value} {m : Nat} (h : w.ownsRow b 9 1 (.slice A n c) m xs) (hA : A = none) : c = 0 := by
  rcases h.2 with ⟨e, _⟩ | ⟨g, cap, cur, e, _⟩
  · injection e
  · subst hA; injection e with e; cases e
set_option maxRecDepth 100000 in
set_option maxHeartbeats 8000000 in
theorem sounds_walk (A : Option Addr) (n c : Nat) (l : List Str) (q0 q1 q2 q3 : Nat) (hq0 : q0 ≤ 255) (hq1 : q1 ≤ 255) (hq2 : q2 ≤ 255) (hq3 : q3 ≤ 255) (w : World) (hn : n = l.length) (hcm : c ≤ maxLen) (hnc : n ≤ c) (hls : ∀ x ∈ l, x.length ≤ 9223372036854775807)
    (hA : 0 < n → ∃ ad, A = some ad ∧ ad.block < w.heap.size ∧ ∀ j x, l[j]? = some x → w.cell? (ad.add j) = some (.string ⟨x.toArray⟩)) :
    Calls Try.prog 7 #[.slice A n c, .agg #[.int .u8 q0, .int .u8 q1, .int .u8 q2, .int .u8 q3]] w fun e w' => e = .returned (.bool true) ∧ w.grownBy w' none := by
  have HF := Lib.hid (fun w1 (g : w.grownBy w1 none) => few_k A c n l w1 hn hcm hnc hls (fun h => by
    obtain ⟨ad, e, hb, hc⟩ := hA h
    exact ⟨ad, e, Nat.lt_of_lt_of_le hb g.size, fun j x hj => g.cell (hc j x hj) (by simp)⟩))
  clear hn hcm hnc hls hA
  obtain ⟨B, hB⟩ : ∃ B, w.heap.size = B := ⟨_, rfl⟩
  have HB := Lib.hid hB
  have HQ : Hid (Q4 (w.alloc (.cells #[.int .u8 q0, .int .u8 q1, .int .u8 q2, .int .u8 q3] 44)) B q0 q1 q2 q3) := Lib.hid (by rw [← hB]; exact World.alloc_heap_new w _)
  have G0 := Lib.hid (World.grownBy_alloc w (.cells #[.int .u8 q0, .int .u8 q1, .int .u8 q2, .int .u8 q3] 44) none)
  go_enter Try.func7, Try.ntmps7
  go_wp2_with fail
  generalize w.alloc (.cells #[.int .u8 q0, .int .u8 q1, .int .u8 q2, .int .u8 q3] 44) = w0 at *
  clear hB
  refine (sane_k w0).mono ?_
  rintro e w1 ⟨rfl, g1⟩
  go_wp2_with fail
  refine (HF.out w1 (G0.out.trans g1)).mono ?_
  rintro e w2 ⟨v, rfl, o2, g2⟩
  have hl20 := few_len l
  have hl12 := few_12 l
  generalize fewL l = x at *
  obtain ⟨XA, xc, rfl, HX⟩ := own_strs o2 (fun s hs => Nat.le_trans (hl12 s hs) (by decide))
  have HXN : Hid (XA = none → xc = 0) := Lib.hid (own_none o2)
  have HQ := Lib.hid ((HQ.out.grown g1 (by simp)).grown g2 (by simp))
  have G0 := Lib.hid ((G0.out.trans g1).trans g2)
  have hxc := HX.le
  have hxcc := HX.cap
  obtain ⟨xn, hxn⟩ : ∃ k, x.length = k := ⟨_, rfl⟩
  rw [hxn] at HX hxc hl20
  rw [hxn]
  have Hxn := Lib.hid hxn
  have H12 := Lib.hid hl12
  have HX := Lib.hid (fun W (g : w2.grownBy W none) => HX.kept g)
  clear o2 g1 g2 hxn HF hl12
  have RX := Lib.hid (root_k XA xn xc x (by omega) w2 (HX.out w2 (World.grownBy.refl _ _)))
  go_wp2_with fail
  refine RX.out.mono ?_
  rintro e w3 ⟨rfl, g3⟩
  have HQ := Lib.hid (HQ.out.grown g3 (by simp))
  have G0 := Lib.hid (G0.out.trans g3)
  have HX := Lib.hid (fun W (g : w3.grownBy W none) => HX.out W (g3.trans g))
  clear RX g3
  have d0 := HQ.out.c0
  have d1 := HQ.out.c1
  have hbl := HQ.out.lt
  have e1 : Hid ((q0 : Int) % ((xn : Int) + 1) = ((q0 % (xn + 1) : Nat) : Int)) := Lib.hid (by simp)
  have hi := Nat.mod_lt q0 (show 0 < xn + 1 by omega)
  go_upto_region 5 with fail
  rw [e1.out]
  clear e1
  generalize q0 % (xn + 1) = i at *
  have hix : i ≤ xn := by omega
  have e1 : Hid ((q1 : Int) % ((xn : Int) - (i : Int) + 1) = ((q1 % (xn - i + 1) : Nat) : Int)) := Lib.hid (by
    rw [Int.natCast_emod]; congr 1; omega)
  have hj := Nat.mod_lt q1 (show 0 < xn - i + 1 by omega)
  have s1 : IntKind.i64.wrap ((xn : Int) - (i : Int)) = (xn : Int) - (i : Int) := by rw [IntKind.wrap_i64]; omega
  have s2 : IntKind.i64.wrap ((xn : Int) - (i : Int) + 1) = (xn : Int) - (i : Int) + 1 := by rw [IntKind.wrap_i64]; omega
  have s3 : (0 : Int) < (xn : Int) - (i : Int) + 1 := by omega
  have s4 : ((xn : Int) - (i : Int) + 1 == 0) = false := by rw [beq_eq_false_iff_ne]; omega
  obtain ⟨j, hjd⟩ : ∃ j, i + q1 % (xn - i + 1) = j := ⟨_, rfl⟩
  have hij : i ≤ j := by omega
  have hjx : j ≤ xn := by omega
  have e2 : Hid (wrap64 ((i : Int) + (q1 : Int) % ((xn : Int) - (i : Int) + 1)) = (j : Int)) := Lib.hid (by
    rw [e1.out, ← hjd, Int.natCast_add]
    exact IntWalk.wrap64_in _ (by omega))
  go_upto_region 6 with fail
  rw [e2.out, e1.out]
  clear e1 e2 hjd hj s1 s2 s3 s4 hi d0 d1
  generalize q1 % (xn - i + 1) = q1m at *
  have HV : Hid (verB (root x) xn i ((x.take j).drop i) (proofL x i j) = true) := Lib.hid (by
    have hl : ((x.take j).drop i).length = j - i := by rw [List.length_drop, List.length_take]; have := Hxn.out; omega
    have := ver_true x i ((x.take j).drop i) (by rw [hl]; have := Hxn.out; omega) (by have := Hxn.out; omega) (fun k s hk => by
      rw [List.getElem?_drop, List.getElem?_take] at hk
      split at hk
      · exact hk
      · cases hk)
    rw [hl, show i + (j - i) = j by omega] at this
    rw [← Hxn.out]
    exact this)
  have PK := Lib.hid (prove_k XA xn xc x (by omega) i j hij hjx w3 (HX.out w3 (World.grownBy.refl _ _)))
  have hpl := proofL_len x i j
  have hp8 := pl_8 x i j
  generalize proofL x i j = P at *
  go_wp2_with fail
  refine PK.out.mono ?_
  rintro e w4 ⟨v4, rfl, o4, g4⟩
  obtain ⟨PA, pc, rfl, HP⟩ := own_strs o4 (fun s hs => Nat.le_trans (hp8 s hs) (by decide))
  have HPN : Hid (PA = none → pc = 0) := Lib.hid (own_none o4)
  obtain ⟨pn, hpn⟩ : ∃ k, P.length = k := ⟨_, rfl⟩
  rw [hpn] at HP hpl
  rw [hpn]
  rw [Hxn.out] at hpl
  have hpn20 : pn ≤ 20 := by omega
  have Hpn := Lib.hid hpn
  have Hp8 := Lib.hid hp8
  have hpc := HP.le
  have hpcc := HP.cap
  have HP := Lib.hid (fun W (g : w4.grownBy W none) => HP.kept g)
  have HQ := Lib.hid (HQ.out.grown g4 (by simp))
  have G0 := Lib.hid (G0.out.trans g4)
  have HX := Lib.hid (fun W (g : w4.grownBy W none) => HX.out W (g4.trans g))
  clear PK o4 hpn hp8 hpl g4 hbl
  have a1 : (i : Int) ≤ (j : Int) := by omega
  have a2 : (j : Int) ≤ (xc : Int) := by omega
  have a3 : (pn : Int) ≤ 80 := by omega
  have hbl := HQ.out.lt
  by_cases hcx : xc = i
  · obtain rfl : i = xn := by omega
    obtain rfl : j = i := by omega
    subst hcx
    have HXS : Hid (∀ W, w4.grownBy W none → Strs W XA 0 0 ((x.take xc).drop xc)) := Lib.hid (fun W g => by
      have := ((HX.out W g).take hjx).drop hij
      rwa [if_pos rfl, Nat.sub_self] at this)
    go_wp2_with fail
    refine (verify_g (root x) xc xc (by constructor <;> omega) (by constructor <;> omega) XA 0 0 ((x.take xc).drop xc) PA pn pc P (by omega) (by omega) w4 (HXS.out w4 (World.grownBy.refl _ _)) (HP.out w4 (World.grownBy.refl _ _))).mono ?_
    rintro e w5 ⟨rfl, g5⟩
    rw [HV.out]
    have HXBN : Hid (XA = none → 0 = 0) := Lib.hid (fun _ => rfl)
    have HLs : Hid (∀ s ∈ ((x.take xc).drop xc), s.length ≤ 100) := Lib.hid (fun s hs => Nat.le_trans (H12.out s (List.mem_of_mem_take (List.mem_of_mem_drop hs))) (by decide))
    have HPs : Hid (∀ s ∈ P, s.length ≤ 100) := Lib.hid (fun s hs => Nat.le_trans (Hp8.out s hs) (by decide))
    have HQ := Lib.hid (HQ.out.grown g5 (by simp))
    have G0 := Lib.hid (G0.out.trans g5)
    have HXS := Lib.hid (fun W (g : w5.grownBy W none) => HXS.out W (g5.trans g))
    have HP := Lib.hid (fun W (g : w5.grownBy W none) => HP.out W (g5.trans g))
    clear g5 HV hbl
    have c0 := HQ.out.c0
    have c1 := HQ.out.c1
    have c2 := HQ.out.c2
    have c3 := HQ.out.c3
    have NE : some B ≠ none := by simp
    have hbl := HQ.out.lt
    go_upto_region 9 with fail
    refine wp_region_noPanic ?_
    refine wp_region_held_drew (S := (fun w' => w5.grownBy w' none)) (by kernel_rfl) ?_ (fun hHeld => ?_)
    · (try dsimp only); (repeat (first | assumption | exact World.grownBy.refl _ _ | refine grown_drR ?_ | refine grown_alR ?_ | refine grown_new6 ?_ hrr))
    refine wpAnyH_take (i := 0) (oi := _) (v := ?_) rfl (by kernel_rfl) (by kernel_rfl) (by kernel_rfl) (fun _ _ _ h => h) (Or.inl ⟨by rfl, ?_⟩) (by assumption) ?_
    rotate_left 1
    · (intro w hSw; (try dsimp only at hSw); go_simp; first | done | with_reducible rfl)
    try go_simp
    refine wpAnyH_take (i := 1) (oi := _) (v := ?_) rfl (by kernel_rfl) (by kernel_rfl) (by kernel_rfl) (fun _ _ _ h => h) (Or.inl ⟨by rfl, ?_⟩) (by assumption) ?_
    rotate_left 1
    · (intro w hSw; (try dsimp only at hSw); go_simp; first | done | with_reducible rfl)
    try go_simp
    refine wpAnyH_take (i := 2) (oi := _) (v := ?_) rfl (by kernel_rfl) (by kernel_rfl) (by kernel_rfl) (fun _ _ _ h => h) (Or.inl ⟨by rfl, ?_⟩) (by assumption) ?_
    rotate_left 1
    · (intro w hSw; (try dsimp only at hSw); go_simp; first | done | with_reducible rfl)
    try go_simp
    refine wpAnyH_take (i := 3) (oi := _) (v := ?_) rfl (by kernel_rfl) (by kernel_rfl) (by kernel_rfl) (fun _ _ _ h => h) (Or.inl ⟨by rfl, ?_⟩) (by assumption) ?_
    rotate_left 1
    · (intro w hSw; (try dsimp only at hSw); go_simp; first | done | with_reducible rfl)
    try go_simp
    refine wpAnyH_take (i := 4) (oi := _) (v := ?_) rfl (by kernel_rfl) (by kernel_rfl) (by kernel_rfl) (fun _ _ _ h => h) (Or.inl ⟨by rfl, ?_⟩) (by assumption) ?_
    rotate_left 1
    · (intro w hSw; (try dsimp only at hSw); go_simp; first | done | with_reducible rfl)
    try go_simp
    refine wpAnyH_take (i := 5) (oi := _) (v := ?_) rfl (by kernel_rfl) (by kernel_rfl) (by kernel_rfl) (fun _ _ _ h => h) (Or.inl ⟨by rfl, ?_⟩) (by assumption) ?_
    rotate_left 1
    · (intro w hSw; (try dsimp only at hSw); go_simp; first | done | with_reducible rfl)
    try go_simp
    refine wpAnyH_take (i := 6) (oi := _) (v := ?_) rfl (by kernel_rfl) (by kernel_rfl) (by kernel_rfl) (fun _ _ _ h => h) (Or.inl ⟨by rfl, ?_⟩) (by assumption) ?_
    rotate_left 1
    · (intro w hSw; (try dsimp only at hSw); go_simp; first | done | with_reducible rfl)
    try go_simp
    refine wpAnyH_take (i := 7) (oi := _) (v := ?_) rfl (by kernel_rfl) (by kernel_rfl) (by kernel_rfl) (fun _ _ _ h => h) (Or.inl ⟨by rfl, ?_⟩) (by assumption) ?_
    rotate_left 1
    · (intro w hSw; (try dsimp only at hSw); go_simp; first | done | with_reducible rfl)
    try go_simp
    refine wpAnyH_take (i := 8) (oi := _) (v := ?_) rfl (by kernel_rfl) (by kernel_rfl) (by kernel_rfl) (fun _ _ _ h => h) (Or.inl ⟨by rfl, ?_⟩) (by assumption) ?_
    rotate_left 1
    · (intro w hSw; (try dsimp only at hSw); go_simp; first | done | with_reducible rfl)
    try go_simp
    refine wpAnyH_take (i := 9) (oi := _) (v := .agg #[.int .u8 q0, .int .u8 q1, .int .u8 q2, .int .u8 q3]) rfl (by kernel_rfl) (by kernel_rfl) (by kernel_rfl) (fun _ _ _ h => h) (Or.inl ⟨by kernel_rfl, ?_⟩) (by assumption) ?_
    · (intro w hSw; (try dsimp only at hSw); go_simp; have y0 := gcellR hSw NE c0; have y1 := gcellR hSw NE c1; have y2 := gcellR hSw NE c2; have y3 := gcellR hSw NE c3; clear hSw; go_simp; first | done | with_reducible rfl)
    try go_simp
    refine wpAnyH_ready (rs := [10, 11]) (by kernel_rfl) (by simp) ?_
    refine AllReadyH.cons (o := _) rfl (fun K hK => ?_) ?_
    · clear hHeld
      go_simp
      have GJ : w5.grownBy w5.drew none := grown_dr (World.grownBy.refl _ _)
      refine (changed_k xc xc (by constructor <;> omega) (by constructor <;> omega) XA 0 0 ((x.take xc).drop xc) PA pn pc P [] [] q0 q1 q2 q3 hq2 hq3 (by omega) (by omega) HLs.out HPs.out (fun _ => rfl) HPN.out _ (HXS.out _ GJ) (HP.out _ GJ)).mono ?_
      rintro e wd ⟨n1, i1, LB, lb, lcb, L1, PB, pb, pcb, P1, rfl, hn1, hi1, hlb, hpb, hL1, hP1, HL1, HP1, gd, fL, fP⟩
      have gwd := GJ.trans gd
      first | (refine hK.out _ _ ?_ (fun hHeld => ?_)) | (go_wp2_with fail; refine hK.out _ _ ?_ (fun hHeld => ?_))
      · (try dsimp only); (repeat (first | assumption | exact World.grownBy.refl _ _ | refine grown_drR ?_ | refine grown_alR ?_ | refine grown_new6 ?_ hrr))
      clear hK K
      have RR : Hid (Cl (wd.alloc (.cells #[.int .i64 0, .int .i64 0, .slice none 0 0, .slice none 0 0, .string ⟨#[]⟩, .string ⟨#[]⟩] 46)) wd.heap.size 0 0 (.slice none 0 0) (.slice none 0 0) [] []) := Lib.hid (World.alloc_heap_new wd _)
      have hrr : w5.heap.size ≤ wd.heap.size := gwd.size
      have gwj := gwd.trans (World.grownBy_alloc wd (.cells #[.int .i64 0, .int .i64 0, .slice none 0 0, .slice none 0 0, .string ⟨#[]⟩, .string ⟨#[]⟩] 46) none)
      have HL1 := Lib.hid (fun W (g : wd.grownBy W none) => HL1.kept g)
      have HP1 := Lib.hid (fun W (g : wd.grownBy W none) => HP1.kept g)
      refine wpAnyH_ready (rs := [11]) (by kernel_rfl) (by simp) ?_
      refine AllReadyH.cons (o := _) rfl (fun K hK => ?_) AllReadyH.nil
      go_simp
      first | (refine hK.out _ _ ?_ (fun hHeld => ?_)) | (go_wp2_with fail; refine hK.out _ _ ?_ (fun hHeld => ?_))
      · (try dsimp only); (repeat (first | assumption | exact World.grownBy.refl _ _ | refine grown_drR ?_ | refine grown_alR ?_ | refine grown_new6 ?_ hrr))
      clear hK K
      obtain ⟨r, hr⟩ : ∃ r, wd.heap.size = r := ⟨_, rfl⟩
      rw [hr] at RR hrr ⊢
      generalize hwj : wd.alloc (.cells #[.int .i64 0, .int .i64 0, .slice none 0 0, .slice none 0 0, .string ⟨#[]⟩, .string ⟨#[]⟩] 46) = wj at *
      have gdj : wd.grownBy wj none := by rw [← hwj]; exact World.grownBy_alloc wd _ none
      have z0 := RR.out.c0
      have z1 := RR.out.c1
      have z2 := RR.out.c2
      have z3 := RR.out.c3
      have z4 := RR.out.c4
      have z5 := RR.out.c5
      have x0 := RR.out.fz 0
      have x1 := RR.out.fz 1
      have x2 := RR.out.fz 2
      have x3 := RR.out.fz 3
      have x4 := RR.out.fz 4
      have x5 := RR.out.fz 5
      refine wpAnyH_ready (rs := [12]) (by kernel_rfl) (by simp) ?_
      refine AllReadyH.cons (o := _) rfl (fun K hK => ?_) AllReadyH.nil
      go_simp
      first | (refine hK.out _ _ ?_ (fun hHeld => ?_)) | (go_wp2_with fail; refine hK.out _ _ ?_ (fun hHeld => ?_))
      · (try dsimp only); exact grown_new6 gwj hrr
      clear hK K
      refine wpAnyH_done (by kernel_rfl) ?_ _
      refine NoPanic.normal ?_
      go_simp
      clear z0 x0 z1 x1 z2 x2 z3 x3 z4 x4 z5 x5
      have EQ : Hid (Cl ((((((wj.setCell ⟨r, 0, none⟩ (.int .i64 n1)).setCell ⟨r, 1, none⟩ (.int .i64 i1)).setCell ⟨r, 2, none⟩ (.slice LB lb lcb)).setCell ⟨r, 3, none⟩ (.slice PB pb pcb)).setCell ⟨r, 4, none⟩ (.string ⟨#[]⟩)).setCell ⟨r, 5, none⟩ (.string ⟨#[]⟩)) r n1 i1 (.slice LB lb lcb) (.slice PB pb pcb) [] []) := Lib.hid (RR.out.setAll n1 i1 (.slice LB lb lcb) (.slice PB pb pcb) [] [])
      have GS : Hid (w5.grownBy ((((((wj.setCell ⟨r, 0, none⟩ (.int .i64 n1)).setCell ⟨r, 1, none⟩ (.int .i64 i1)).setCell ⟨r, 2, none⟩ (.slice LB lb lcb)).setCell ⟨r, 3, none⟩ (.slice PB pb pcb)).setCell ⟨r, 4, none⟩ (.string ⟨#[]⟩)).setCell ⟨r, 5, none⟩ (.string ⟨#[]⟩)) none) := Lib.hid (grown_new6 gwj hrr)
      have HL1 := Lib.hid (HL1.out ((((((wj.setCell ⟨r, 0, none⟩ (.int .i64 n1)).setCell ⟨r, 1, none⟩ (.int .i64 i1)).setCell ⟨r, 2, none⟩ (.slice LB lb lcb)).setCell ⟨r, 3, none⟩ (.slice PB pb pcb)).setCell ⟨r, 4, none⟩ (.string ⟨#[]⟩)).setCell ⟨r, 5, none⟩ (.string ⟨#[]⟩)) (grown_new6 gdj (Nat.le_of_eq hr)))
      have HP1 := Lib.hid (HP1.out ((((((wj.setCell ⟨r, 0, none⟩ (.int .i64 n1)).setCell ⟨r, 1, none⟩ (.int .i64 i1)).setCell ⟨r, 2, none⟩ (.slice LB lb lcb)).setCell ⟨r, 3, none⟩ (.slice PB pb pcb)).setCell ⟨r, 4, none⟩ (.string ⟨#[]⟩)).setCell ⟨r, 5, none⟩ (.string ⟨#[]⟩)) (grown_new6 gdj (Nat.le_of_eq hr)))
      clear hHeld gwj RR
      generalize ((((((wj.setCell ⟨r, 0, none⟩ (.int .i64 n1)).setCell ⟨r, 1, none⟩ (.int .i64 i1)).setCell ⟨r, 2, none⟩ (.slice LB lb lcb)).setCell ⟨r, 3, none⟩ (.slice PB pb pcb)).setCell ⟨r, 4, none⟩ (.string ⟨#[]⟩)).setCell ⟨r, 5, none⟩ (.string ⟨#[]⟩)) = wz at *
      have HXZ : Hid (Strs wz XA 0 0 ((x.take xc).drop xc)) := Lib.hid (HXS.out wz GS.out)
      have HPZ : Hid (Strs wz PA pn pc P) := Lib.hid (HP.out wz GS.out)
      have Hn1 := Lib.hid hn1
      have Hi1 := Lib.hid hi1
      have Hs1 := Lib.hid hL1
      generalize root x = R at *
      have c0 := EQ.out.c0
      have c1 := EQ.out.c1
      have c2 := EQ.out.c2
      have c3 := EQ.out.c3
      have NE9 : some r ≠ none := by simp
      have hzz := EQ.out.lt
      clear hn1 hi1 hL1 hP1 HQ HXS HP HLs HPs HXBN HPN hbl
      go_upto_region 10 with fail
      by_cases hN : n1 = (xc : Int)
      · have bN : (n1 == (xc : Int)) = true := by rw [beq_iff_eq]; exact hN
        by_cases hI : i1 = (xc : Int)
        · have bI : (i1 == (xc : Int)) = true := by rw [beq_iff_eq]; exact hI
          clear hN hI
          by_cases hLX : L1 = ((x.take xc).drop xc)
          · have hLX : Hid (decide (L1 = ((x.take xc).drop xc)) = true) := Lib.hid (by simpa using hLX)
            by_cases hPX : P1 = P
            · have hPX : Hid (decide (P1 = P) = true) := Lib.hid (by simpa using hPX)
              have gz : wz.grownBy wz.drew none := grown_dr (World.grownBy.refl _ _)
              refine wp_region_noPanic ?_
              refine wp_region_held_drew (S := (fun w' => wz.grownBy w' none)) (by kernel_rfl) ?_ (fun hHeld => ?_)
              · (try dsimp only); (repeat (first | assumption | exact World.grownBy.refl _ _ | refine grown_drR ?_ | refine grown_alR ?_))
              refine wpAnyH_take (i := 0) (oi := _) (v := ?_) rfl (by kernel_rfl) (by kernel_rfl) (by kernel_rfl) (fun _ _ _ h => h) (Or.inl ⟨by rfl, ?_⟩) (by assumption) ?_
              rotate_left 1
              · (intro w hSw; (try dsimp only at hSw); go_simp; first | done | with_reducible rfl)
              try go_simp
              refine wpAnyH_take (i := 1) (oi := _) (v := .int .i64 n1) rfl (by kernel_rfl) (by kernel_rfl) (by kernel_rfl) (fun _ _ _ h => h) (Or.inl ⟨by kernel_rfl, ?_⟩) (by assumption) ?_
              · (intro w hSw; (try dsimp only at hSw); go_simp; have q9 := gcellR hSw NE9 c0; clear hSw; go_simp; first | done | with_reducible rfl)
              try go_simp
              refine wpAnyH_take (i := 2) (oi := _) (v := ?_) rfl (by kernel_rfl) (by kernel_rfl) (by kernel_rfl) (fun _ _ _ h => h) (Or.inl ⟨by rfl, ?_⟩) (by assumption) ?_
              rotate_left 1
              · (intro w hSw; (try dsimp only at hSw); go_simp; first | done | with_reducible rfl)
              try go_simp
              refine wpAnyH_take (i := 3) (oi := _) (v := ?_) rfl (by kernel_rfl) (by kernel_rfl) (by kernel_rfl) (fun _ _ _ h => h) (Or.inl ⟨by rfl, ?_⟩) (by assumption) ?_
              rotate_left 1
              · (intro w hSw; (try dsimp only at hSw); go_simp; first | done | with_reducible rfl)
              try go_simp
              refine wpAnyH_take (i := 4) (oi := _) (v := ?_) rfl (by kernel_rfl) (by kernel_rfl) (by kernel_rfl) (fun _ _ _ h => h) (Or.inl ⟨by rfl, ?_⟩) (by assumption) ?_
              rotate_left 1
              · (intro w hSw; (try dsimp only at hSw); go_simp; first | done | with_reducible rfl)
              try go_simp
              refine wpAnyH_take (i := 5) (oi := _) (v := ?_) rfl (by kernel_rfl) (by kernel_rfl) (by kernel_rfl) (fun _ _ _ h => h) (Or.inl ⟨by rfl, ?_⟩) (by assumption) ?_
              rotate_left 1
              · (intro w hSw; (try dsimp only at hSw); go_simp; first | done | with_reducible rfl)
              try go_simp
              refine wpAnyH_take (i := 6) (oi := _) (v := ?_) rfl (by kernel_rfl) (by kernel_rfl) (by kernel_rfl) (fun _ _ _ h => h) (Or.inl ⟨by kernel_rfl, ?_⟩) (by assumption) ?_
              rotate_left 1
              · (intro w hSw; (try dsimp only at hSw); go_simp; first | done | with_reducible rfl)
              try go_simp
              refine wpAnyH_take (i := 7) (oi := _) (v := .int .i64 i1) rfl (by kernel_rfl) (by kernel_rfl) (by kernel_rfl) (fun _ _ _ h => h) (Or.inl ⟨by kernel_rfl, ?_⟩) (by assumption) ?_
              · (intro w hSw; (try dsimp only at hSw); go_simp; have q9 := gcellR hSw NE9 c1; clear hSw; go_simp; first | done | with_reducible rfl)
              try go_simp
              refine wpAnyH_take (i := 8) (oi := _) (v := ?_) rfl (by kernel_rfl) (by kernel_rfl) (by kernel_rfl) (fun _ _ _ h => h) (Or.inl ⟨by kernel_rfl, ?_⟩) (by assumption) ?_
              rotate_left 1
              · (intro w hSw; (try dsimp only at hSw); go_simp; first | done | with_reducible rfl)
              try go_simp
              refine wpAnyH_take (i := 9) (oi := _) (v := ?_) rfl (by kernel_rfl) (by kernel_rfl) (by kernel_rfl) (fun _ _ _ h => h) (Or.inl ⟨by kernel_rfl, ?_⟩) (by assumption) ?_
              rotate_left 1
              · (intro w hSw; (try dsimp only at hSw); go_simp; first | done | with_reducible rfl)
              try go_simp
              refine wpAnyH_take (i := 10) (oi := _) (v := ?_) rfl (by kernel_rfl) (by kernel_rfl) (by kernel_rfl) (fun _ _ _ h => h) (Or.inl ⟨by rfl, ?_⟩) (by assumption) ?_
              rotate_left 1
              · (intro w hSw; (try dsimp only at hSw); go_simp; first | done | with_reducible rfl)
              try go_simp
              refine wpAnyH_take (i := 11) (oi := _) (v := ?_) rfl (by kernel_rfl) (by kernel_rfl) (by kernel_rfl) (fun _ _ _ h => h) (Or.inl ⟨by rfl, ?_⟩) (by assumption) ?_
              rotate_left 1
              · (intro w hSw; (try dsimp only at hSw); go_simp; first | done | with_reducible rfl)
              try go_simp
              refine wpAnyH_take (i := 12) (oi := _) (v := ?_) rfl (by kernel_rfl) (by kernel_rfl) (by kernel_rfl) (fun _ _ _ h => h) (Or.inl ⟨by kernel_rfl, ?_⟩) (by assumption) ?_
              rotate_left 1
              · (intro w hSw; (try dsimp only at hSw); go_simp; first | done | with_reducible rfl)
              try go_simp
              refine wpAnyH_take (i := 13) (oi := _) (v := .slice LB lb lcb) rfl (by kernel_rfl) (by kernel_rfl) (by kernel_rfl) (fun _ _ _ h => h) (Or.inl ⟨by kernel_rfl, ?_⟩) (by assumption) ?_
              · (intro w hSw; (try dsimp only at hSw); go_simp; have q9 := gcellR hSw NE9 c2; clear hSw; go_simp; first | done | with_reducible rfl)
              try go_simp
              refine wpAnyH_take (i := 14) (oi := _) (v := ?_) rfl (by kernel_rfl) (by kernel_rfl) (by kernel_rfl) (fun _ _ _ h => h) (Or.inl ⟨by kernel_rfl, ?_⟩) (by assumption) ?_
              rotate_left 1
              · (intro w hSw; (try dsimp only at hSw); go_simp; first | done | with_reducible rfl)
              try go_simp
              refine wpAnyH_take (i := 15) (oi := _) (v := ?_) rfl (by kernel_rfl) (by kernel_rfl) (by kernel_rfl) (fun _ _ _ h => h) (Or.inl ⟨by kernel_rfl, ?_⟩) (by assumption) ?_
              rotate_left 1
              · (intro w hSw; (try dsimp only at hSw); go_simp; first | done | with_reducible rfl)
              try go_simp
              refine wpAnyH_take (i := 16) (oi := _) (v := ?_) rfl (by kernel_rfl) (by kernel_rfl) (by kernel_rfl) (fun _ _ _ h => h) (Or.inl ⟨by kernel_rfl, ?_⟩) (by assumption) ?_
              rotate_left 1
              · (intro w hSw; (try dsimp only at hSw); go_simp; first | done | with_reducible rfl)
              try go_simp
              refine wpAnyH_take (i := 17) (oi := _) (v := ?_) rfl (by kernel_rfl) (by kernel_rfl) (by kernel_rfl) (fun _ _ _ h => h) (Or.inl ⟨by kernel_rfl, ?_⟩) (by assumption) ?_
              rotate_left 1
              · (intro w hSw; (try dsimp only at hSw); go_simp; first | done | with_reducible rfl)
              try go_simp
              refine wpAnyH_ready (rs := [18]) (by kernel_rfl) (by simp) ?_
              refine AllReadyH.cons (o := _) rfl (fun K hK => ?_) AllReadyH.nil
              go_simp
              refine (same_k LB XA lb lcb 0 0 L1 ((x.take xc).drop xc) wz.drew (HL1.out.kept gz) (HXZ.out.kept gz)).mono ?_
              rintro e wa ⟨rfl, ga⟩
              have ga := World.grownBy.trans gz ga
              rw [hLX.out]
              first | (refine hK.out _ _ ?_ (fun hHeld => ?_)) | (go_wp2_with fail; refine hK.out _ _ ?_ (fun hHeld => ?_))
              · (try dsimp only); (repeat (first | assumption | exact World.grownBy.refl _ _ | refine grown_drR ?_ | refine grown_alR ?_))
              clear hK K
              refine wpAnyH_take (i := 19) (oi := _) (v := ?_) rfl (by kernel_rfl) (by kernel_rfl) (by kernel_rfl) (fun _ _ _ h => h) (Or.inl ⟨by rfl, ?_⟩) (by assumption) ?_
              rotate_left 1
              · (intro w hSw; (try dsimp only at hSw); go_simp; first | done | with_reducible rfl)
              try go_simp
              refine wpAnyH_take (i := 20) (oi := _) (v := ?_) rfl (by kernel_rfl) (by kernel_rfl) (by kernel_rfl) (fun _ _ _ h => h) (Or.inl ⟨by rfl, ?_⟩) (by assumption) ?_
              rotate_left 1
              · (intro w hSw; (try dsimp only at hSw); go_simp; first | done | with_reducible rfl)
              try go_simp
              refine wpAnyH_take (i := 21) (oi := _) (v := ?_) rfl (by kernel_rfl) (by kernel_rfl) (by kernel_rfl) (fun _ _ _ h => h) (Or.inl ⟨by kernel_rfl, ?_⟩) (by assumption) ?_
              rotate_left 1
              · (intro w hSw; (try dsimp only at hSw); go_simp; first | done | with_reducible rfl)
              try go_simp
              refine wpAnyH_take (i := 22) (oi := _) (v := .slice PB pb pcb) rfl (by kernel_rfl) (by kernel_rfl) (by kernel_rfl) (fun _ _ _ h => h) (Or.inl ⟨by kernel_rfl, ?_⟩) (by assumption) ?_
              · (intro w hSw; (try dsimp only at hSw); go_simp; have q9 := gcellR hSw NE9 c3; clear hSw; go_simp; first | done | with_reducible rfl)
              try go_simp
              refine wpAnyH_take (i := 23) (oi := _) (v := ?_) rfl (by kernel_rfl) (by kernel_rfl) (by kernel_rfl) (fun _ _ _ h => h) (Or.inl ⟨by kernel_rfl, ?_⟩) (by assumption) ?_
              rotate_left 1
              · (intro w hSw; (try dsimp only at hSw); go_simp; first | done | with_reducible rfl)
              try go_simp
              refine wpAnyH_ready (rs := [24]) (by kernel_rfl) (by simp) ?_
              refine AllReadyH.cons (o := _) rfl (fun K hK => ?_) AllReadyH.nil
              go_simp
              refine (same_k PB PA pb pcb pn pc P1 P wa (HP1.out.kept ga) (HPZ.out.kept ga)).mono ?_
              rintro e wb ⟨rfl, gb⟩
              have gb := World.grownBy.trans ga gb
              rw [hPX.out]
              first | (refine hK.out _ _ ?_ (fun hHeld => ?_)) | (go_wp2_with fail; refine hK.out _ _ ?_ (fun hHeld => ?_))
              · (try dsimp only); (repeat (first | assumption | exact World.grownBy.refl _ _ | refine grown_drR ?_ | refine grown_alR ?_))
              clear hK K
              refine wpAnyH_take (i := 25) (oi := _) (v := ?_) rfl (by kernel_rfl) (by kernel_rfl) (by kernel_rfl) (fun _ _ _ h => h) (Or.inl ⟨by rfl, ?_⟩) (by assumption) ?_
              rotate_left 1
              · (intro w hSw; (try dsimp only at hSw); go_simp; first | done | with_reducible rfl)
              try go_simp
              refine wpAnyH_done (by kernel_rfl) ?_ _
              refine NoPanic.normal ?_
              go_simp
              go_simp
              clear hHeld c0 c1 c2 c3
              go_wp2_with fail
              go_ret
              exact ⟨rfl, (G0.out.trans GS.out).trans gb⟩
            · have hPX : Hid (decide (P1 = P) = false) := Lib.hid (by simpa using hPX)
              have gz : wz.grownBy wz.drew none := grown_dr (World.grownBy.refl _ _)
              refine wp_region_noPanic ?_
              refine wp_region_held_drew (S := (fun w' => wz.grownBy w' none)) (by kernel_rfl) ?_ (fun hHeld => ?_)
              · (try dsimp only); (repeat (first | assumption | exact World.grownBy.refl _ _ | refine grown_drR ?_ | refine grown_alR ?_))
              refine wpAnyH_take (i := 0) (oi := _) (v := ?_) rfl (by kernel_rfl) (by kernel_rfl) (by kernel_rfl) (fun _ _ _ h => h) (Or.inl ⟨by rfl, ?_⟩) (by assumption) ?_
              rotate_left 1
              · (intro w hSw; (try dsimp only at hSw); go_simp; first | done | with_reducible rfl)
              try go_simp
              refine wpAnyH_take (i := 1) (oi := _) (v := .int .i64 n1) rfl (by kernel_rfl) (by kernel_rfl) (by kernel_rfl) (fun _ _ _ h => h) (Or.inl ⟨by kernel_rfl, ?_⟩) (by assumption) ?_
              · (intro w hSw; (try dsimp only at hSw); go_simp; have q9 := gcellR hSw NE9 c0; clear hSw; go_simp; first | done | with_reducible rfl)
              try go_simp
              refine wpAnyH_take (i := 2) (oi := _) (v := ?_) rfl (by kernel_rfl) (by kernel_rfl) (by kernel_rfl) (fun _ _ _ h => h) (Or.inl ⟨by rfl, ?_⟩) (by assumption) ?_
              rotate_left 1
              · (intro w hSw; (try dsimp only at hSw); go_simp; first | done | with_reducible rfl)
              try go_simp
              refine wpAnyH_take (i := 3) (oi := _) (v := ?_) rfl (by kernel_rfl) (by kernel_rfl) (by kernel_rfl) (fun _ _ _ h => h) (Or.inl ⟨by rfl, ?_⟩) (by assumption) ?_
              rotate_left 1
              · (intro w hSw; (try dsimp only at hSw); go_simp; first | done | with_reducible rfl)
              try go_simp
              refine wpAnyH_take (i := 4) (oi := _) (v := ?_) rfl (by kernel_rfl) (by kernel_rfl) (by kernel_rfl) (fun _ _ _ h => h) (Or.inl ⟨by rfl, ?_⟩) (by assumption) ?_
              rotate_left 1
              · (intro w hSw; (try dsimp only at hSw); go_simp; first | done | with_reducible rfl)
              try go_simp
              refine wpAnyH_take (i := 5) (oi := _) (v := ?_) rfl (by kernel_rfl) (by kernel_rfl) (by kernel_rfl) (fun _ _ _ h => h) (Or.inl ⟨by rfl, ?_⟩) (by assumption) ?_
              rotate_left 1
              · (intro w hSw; (try dsimp only at hSw); go_simp; first | done | with_reducible rfl)
              try go_simp
              refine wpAnyH_take (i := 6) (oi := _) (v := ?_) rfl (by kernel_rfl) (by kernel_rfl) (by kernel_rfl) (fun _ _ _ h => h) (Or.inl ⟨by kernel_rfl, ?_⟩) (by assumption) ?_
              rotate_left 1
              · (intro w hSw; (try dsimp only at hSw); go_simp; first | done | with_reducible rfl)
              try go_simp
              refine wpAnyH_take (i := 7) (oi := _) (v := .int .i64 i1) rfl (by kernel_rfl) (by kernel_rfl) (by kernel_rfl) (fun _ _ _ h => h) (Or.inl ⟨by kernel_rfl, ?_⟩) (by assumption) ?_
              · (intro w hSw; (try dsimp only at hSw); go_simp; have q9 := gcellR hSw NE9 c1; clear hSw; go_simp; first | done | with_reducible rfl)
              try go_simp
              refine wpAnyH_take (i := 8) (oi := _) (v := ?_) rfl (by kernel_rfl) (by kernel_rfl) (by kernel_rfl) (fun _ _ _ h => h) (Or.inl ⟨by kernel_rfl, ?_⟩) (by assumption) ?_
              rotate_left 1
              · (intro w hSw; (try dsimp only at hSw); go_simp; first | done | with_reducible rfl)
              try go_simp
              refine wpAnyH_take (i := 9) (oi := _) (v := ?_) rfl (by kernel_rfl) (by kernel_rfl) (by kernel_rfl) (fun _ _ _ h => h) (Or.inl ⟨by kernel_rfl, ?_⟩) (by assumption) ?_
              rotate_left 1
              · (intro w hSw; (try dsimp only at hSw); go_simp; first | done | with_reducible rfl)
              try go_simp
              refine wpAnyH_take (i := 10) (oi := _) (v := ?_) rfl (by kernel_rfl) (by kernel_rfl) (by kernel_rfl) (fun _ _ _ h => h) (Or.inl ⟨by rfl, ?_⟩) (by assumption) ?_
              rotate_left 1
              · (intro w hSw; (try dsimp only at hSw); go_simp; first | done | with_reducible rfl)
              try go_simp
              refine wpAnyH_take (i := 11) (oi := _) (v := ?_) rfl (by kernel_rfl) (by kernel_rfl) (by kernel_rfl) (fun _ _ _ h => h) (Or.inl ⟨by rfl, ?_⟩) (by assumption) ?_
              rotate_left 1
              · (intro w hSw; (try dsimp only at hSw); go_simp; first | done | with_reducible rfl)
              try go_simp
              refine wpAnyH_take (i := 12) (oi := _) (v := ?_) rfl (by kernel_rfl) (by kernel_rfl) (by kernel_rfl) (fun _ _ _ h => h) (Or.inl ⟨by kernel_rfl, ?_⟩) (by assumption) ?_
              rotate_left 1
              · (intro w hSw; (try dsimp only at hSw); go_simp; first | done | with_reducible rfl)
              try go_simp
              refine wpAnyH_take (i := 13) (oi := _) (v := .slice LB lb lcb) rfl (by kernel_rfl) (by kernel_rfl) (by kernel_rfl) (fun _ _ _ h => h) (Or.inl ⟨by kernel_rfl, ?_⟩) (by assumption) ?_
              · (intro w hSw; (try dsimp only at hSw); go_simp; have q9 := gcellR hSw NE9 c2; clear hSw; go_simp; first | done | with_reducible rfl)
              try go_simp
              refine wpAnyH_take (i := 14) (oi := _) (v := ?_) rfl (by kernel_rfl) (by kernel_rfl) (by kernel_rfl) (fun _ _ _ h => h) (Or.inl ⟨by kernel_rfl, ?_⟩) (by assumption) ?_
              rotate_left 1
              · (intro w hSw; (try dsimp only at hSw); go_simp; first | done | with_reducible rfl)
              try go_simp
              refine wpAnyH_take (i := 15) (oi := _) (v := ?_) rfl (by kernel_rfl) (by kernel_rfl) (by kernel_rfl) (fun _ _ _ h => h) (Or.inl ⟨by kernel_rfl, ?_⟩) (by assumption) ?_
              rotate_left 1
              · (intro w hSw; (try dsimp only at hSw); go_simp; first | done | with_reducible rfl)
              try go_simp
              refine wpAnyH_take (i := 16) (oi := _) (v := ?_) rfl (by kernel_rfl) (by kernel_rfl) (by kernel_rfl) (fun _ _ _ h => h) (Or.inl ⟨by kernel_rfl, ?_⟩) (by assumption) ?_
              rotate_left 1
              · (intro w hSw; (try dsimp only at hSw); go_simp; first | done | with_reducible rfl)
              try go_simp
              refine wpAnyH_take (i := 17) (oi := _) (v := ?_) rfl (by kernel_rfl) (by kernel_rfl) (by kernel_rfl) (fun _ _ _ h => h) (Or.inl ⟨by kernel_rfl, ?_⟩) (by assumption) ?_
              rotate_left 1
              · (intro w hSw; (try dsimp only at hSw); go_simp; first | done | with_reducible rfl)
              try go_simp
              refine wpAnyH_ready (rs := [18]) (by kernel_rfl) (by simp) ?_
              refine AllReadyH.cons (o := _) rfl (fun K hK => ?_) AllReadyH.nil
              go_simp
              refine (same_k LB XA lb lcb 0 0 L1 ((x.take xc).drop xc) wz.drew (HL1.out.kept gz) (HXZ.out.kept gz)).mono ?_
              rintro e wa ⟨rfl, ga⟩
              have ga := World.grownBy.trans gz ga
              rw [hLX.out]
              first | (refine hK.out _ _ ?_ (fun hHeld => ?_)) | (go_wp2_with fail; refine hK.out _ _ ?_ (fun hHeld => ?_))
              · (try dsimp only); (repeat (first | assumption | exact World.grownBy.refl _ _ | refine grown_drR ?_ | refine grown_alR ?_))
              clear hK K
              refine wpAnyH_take (i := 19) (oi := _) (v := ?_) rfl (by kernel_rfl) (by kernel_rfl) (by kernel_rfl) (fun _ _ _ h => h) (Or.inl ⟨by rfl, ?_⟩) (by assumption) ?_
              rotate_left 1
              · (intro w hSw; (try dsimp only at hSw); go_simp; first | done | with_reducible rfl)
              try go_simp
              refine wpAnyH_take (i := 20) (oi := _) (v := ?_) rfl (by kernel_rfl) (by kernel_rfl) (by kernel_rfl) (fun _ _ _ h => h) (Or.inl ⟨by rfl, ?_⟩) (by assumption) ?_
              rotate_left 1
              · (intro w hSw; (try dsimp only at hSw); go_simp; first | done | with_reducible rfl)
              try go_simp
              refine wpAnyH_take (i := 21) (oi := _) (v := ?_) rfl (by kernel_rfl) (by kernel_rfl) (by kernel_rfl) (fun _ _ _ h => h) (Or.inl ⟨by kernel_rfl, ?_⟩) (by assumption) ?_
              rotate_left 1
              · (intro w hSw; (try dsimp only at hSw); go_simp; first | done | with_reducible rfl)
              try go_simp
              refine wpAnyH_take (i := 22) (oi := _) (v := .slice PB pb pcb) rfl (by kernel_rfl) (by kernel_rfl) (by kernel_rfl) (fun _ _ _ h => h) (Or.inl ⟨by kernel_rfl, ?_⟩) (by assumption) ?_
              · (intro w hSw; (try dsimp only at hSw); go_simp; have q9 := gcellR hSw NE9 c3; clear hSw; go_simp; first | done | with_reducible rfl)
              try go_simp
              refine wpAnyH_take (i := 23) (oi := _) (v := ?_) rfl (by kernel_rfl) (by kernel_rfl) (by kernel_rfl) (fun _ _ _ h => h) (Or.inl ⟨by kernel_rfl, ?_⟩) (by assumption) ?_
              rotate_left 1
              · (intro w hSw; (try dsimp only at hSw); go_simp; first | done | with_reducible rfl)
              try go_simp
              refine wpAnyH_ready (rs := [24]) (by kernel_rfl) (by simp) ?_
              refine AllReadyH.cons (o := _) rfl (fun K hK => ?_) AllReadyH.nil
              go_simp
              refine (same_k PB PA pb pcb pn pc P1 P wa (HP1.out.kept ga) (HPZ.out.kept ga)).mono ?_
              rintro e wb ⟨rfl, gb⟩
              have gb := World.grownBy.trans ga gb
              rw [hPX.out]
              first | (refine hK.out _ _ ?_ (fun hHeld => ?_)) | (go_wp2_with fail; refine hK.out _ _ ?_ (fun hHeld => ?_))
              · (try dsimp only); (repeat (first | assumption | exact World.grownBy.refl _ _ | refine grown_drR ?_ | refine grown_alR ?_))
              clear hK K
              refine wpAnyH_take (i := 25) (oi := _) (v := ?_) rfl (by kernel_rfl) (by kernel_rfl) (by kernel_rfl) (fun _ _ _ h => h) (Or.inl ⟨by rfl, ?_⟩) (by assumption) ?_
              rotate_left 1
              · (intro w hSw; (try dsimp only at hSw); go_simp; first | done | with_reducible rfl)
              try go_simp
              refine wpAnyH_done (by kernel_rfl) ?_ _
              refine NoPanic.normal ?_
              go_simp
              go_simp
              clear hHeld c0 c1 c2 c3
              have c0 := (EQ.out.grown gb (by simp)).c0
              have c1 := (EQ.out.grown gb (by simp)).c1
              have c2 := (EQ.out.grown gb (by simp)).c2
              have c3 := (EQ.out.grown gb (by simp)).c3
              go_wp2_with fail
              refine (led_g n1 i1 Hn1.out Hi1.out LB lb lcb L1 PB pb pcb P1 (fun s hs => Nat.le_trans (Hs1.out s hs) (by decide)) (by omega) wb (HL1.out.kept gb) (HP1.out.kept gb)).mono ?_
              rintro e w11 ⟨rfl, g11⟩
              clear c0 c1 c2 c3
              have GY := World.grownBy.trans gb g11
              have GT := Lib.hid (((G0.out.trans GS.out).trans gb).trans g11)
              have c0 := (EQ.out.grown GY (by simp)).c0
              have c1 := (EQ.out.grown GY (by simp)).c1
              have c2 := (EQ.out.grown GY (by simp)).c2
              have c3 := (EQ.out.grown GY (by simp)).c3
              have HVL := Lib.hid (ver_led R n1 i1 L1 P1)
              generalize ledS n1 i1 L1 P1 = Ls at *
              generalize fitsB n1 i1 L1 P1 = Fb at *
              clear g11
              cases Fb with
              | false =>
                have HVL : Hid (verB R n1 i1 L1 P1 = false) := Lib.hid (by rw [HVL.out]; rfl)
                go_wp2_with fail
                refine (verify_g R n1 i1 Hn1.out Hi1.out LB lb lcb L1 PB pb pcb P1 (by omega) (by omega) w11 (HL1.out.kept GY) (HP1.out.kept GY)).mono ?_
                rintro e w12 ⟨rfl, g12⟩
                rw [HVL.out]
                go_wp2_with fail
                go_ret
                exact ⟨rfl, GT.out.trans g12⟩
              | true =>
                by_cases hE : Ls = R
                · subst hE
                  go_wp2_with fail
                  go_ret
                  exact ⟨rfl, GT.out⟩
                · have hEb : (Ls == R) = false := by simpa using hE
                  have HVL : Hid (verB R n1 i1 L1 P1 = false) := Lib.hid (by rw [HVL.out, Bool.true_and, beq_eq_false_iff_ne]; exact fun h => hE h.symm)
                  clear hE
                  go_wp2_with fail
                  refine (verify_g R n1 i1 Hn1.out Hi1.out LB lb lcb L1 PB pb pcb P1 (by omega) (by omega) w11 (HL1.out.kept GY) (HP1.out.kept GY)).mono ?_
                  rintro e w12 ⟨rfl, g12⟩
                  rw [HVL.out]
                  go_wp2_with fail
                  go_ret
                  exact ⟨rfl, GT.out.trans g12⟩
          · have hLX : Hid (decide (L1 = ((x.take xc).drop xc)) = false) := Lib.hid (by simpa using hLX)
            have gz : wz.grownBy wz.drew none := grown_dr (World.grownBy.refl _ _)
            refine wp_region_noPanic ?_
            refine wp_region_held_drew (S := (fun w' => wz.grownBy w' none)) (by kernel_rfl) ?_ (fun hHeld => ?_)
            · (try dsimp only); (repeat (first | assumption | exact World.grownBy.refl _ _ | refine grown_drR ?_ | refine grown_alR ?_))
            refine wpAnyH_take (i := 0) (oi := _) (v := ?_) rfl (by kernel_rfl) (by kernel_rfl) (by kernel_rfl) (fun _ _ _ h => h) (Or.inl ⟨by rfl, ?_⟩) (by assumption) ?_
            rotate_left 1
            · (intro w hSw; (try dsimp only at hSw); go_simp; first | done | with_reducible rfl)
            try go_simp
            refine wpAnyH_take (i := 1) (oi := _) (v := .int .i64 n1) rfl (by kernel_rfl) (by kernel_rfl) (by kernel_rfl) (fun _ _ _ h => h) (Or.inl ⟨by kernel_rfl, ?_⟩) (by assumption) ?_
            · (intro w hSw; (try dsimp only at hSw); go_simp; have q9 := gcellR hSw NE9 c0; clear hSw; go_simp; first | done | with_reducible rfl)
            try go_simp
            refine wpAnyH_take (i := 2) (oi := _) (v := ?_) rfl (by kernel_rfl) (by kernel_rfl) (by kernel_rfl) (fun _ _ _ h => h) (Or.inl ⟨by rfl, ?_⟩) (by assumption) ?_
            rotate_left 1
            · (intro w hSw; (try dsimp only at hSw); go_simp; first | done | with_reducible rfl)
            try go_simp
            refine wpAnyH_take (i := 3) (oi := _) (v := ?_) rfl (by kernel_rfl) (by kernel_rfl) (by kernel_rfl) (fun _ _ _ h => h) (Or.inl ⟨by rfl, ?_⟩) (by assumption) ?_
            rotate_left 1
            · (intro w hSw; (try dsimp only at hSw); go_simp; first | done | with_reducible rfl)
            try go_simp
            refine wpAnyH_take (i := 4) (oi := _) (v := ?_) rfl (by kernel_rfl) (by kernel_rfl) (by kernel_rfl) (fun _ _ _ h => h) (Or.inl ⟨by rfl, ?_⟩) (by assumption) ?_
            rotate_left 1
            · (intro w hSw; (try dsimp only at hSw); go_simp; first | done | with_reducible rfl)
            try go_simp
            refine wpAnyH_take (i := 5) (oi := _) (v := ?_) rfl (by kernel_rfl) (by kernel_rfl) (by kernel_rfl) (fun _ _ _ h => h) (Or.inl ⟨by rfl, ?_⟩) (by assumption) ?_
            rotate_left 1
            · (intro w hSw; (try dsimp only at hSw); go_simp; first | done | with_reducible rfl)
            try go_simp
            refine wpAnyH_take (i := 6) (oi := _) (v := ?_) rfl (by kernel_rfl) (by kernel_rfl) (by kernel_rfl) (fun _ _ _ h => h) (Or.inl ⟨by kernel_rfl, ?_⟩) (by assumption) ?_
            rotate_left 1
            · (intro w hSw; (try dsimp only at hSw); go_simp; first | done | with_reducible rfl)
            try go_simp
            refine wpAnyH_take (i := 7) (oi := _) (v := .int .i64 i1) rfl (by kernel_rfl) (by kernel_rfl) (by kernel_rfl) (fun _ _ _ h => h) (Or.inl ⟨by kernel_rfl, ?_⟩) (by assumption) ?_
            · (intro w hSw; (try dsimp only at hSw); go_simp; have q9 := gcellR hSw NE9 c1; clear hSw; go_simp; first | done | with_reducible rfl)
            try go_simp
            refine wpAnyH_take (i := 8) (oi := _) (v := ?_) rfl (by kernel_rfl) (by kernel_rfl) (by kernel_rfl) (fun _ _ _ h => h) (Or.inl ⟨by kernel_rfl, ?_⟩) (by assumption) ?_
            rotate_left 1
            · (intro w hSw; (try dsimp only at hSw); go_simp; first | done | with_reducible rfl)
            try go_simp
            refine wpAnyH_take (i := 9) (oi := _) (v := ?_) rfl (by kernel_rfl) (by kernel_rfl) (by kernel_rfl) (fun _ _ _ h => h) (Or.inl ⟨by kernel_rfl, ?_⟩) (by assumption) ?_
            rotate_left 1
            · (intro w hSw; (try dsimp only at hSw); go_simp; first | done | with_reducible rfl)
            try go_simp
            refine wpAnyH_take (i := 10) (oi := _) (v := ?_) rfl (by kernel_rfl) (by kernel_rfl) (by kernel_rfl) (fun _ _ _ h => h) (Or.inl ⟨by rfl, ?_⟩) (by assumption) ?_
            rotate_left 1
            · (intro w hSw; (try dsimp only at hSw); go_simp; first | done | with_reducible rfl)
            try go_simp
            refine wpAnyH_take (i := 11) (oi := _) (v := ?_) rfl (by kernel_rfl) (by kernel_rfl) (by kernel_rfl) (fun _ _ _ h => h) (Or.inl ⟨by rfl, ?_⟩) (by assumption) ?_
            rotate_left 1
            · (intro w hSw; (try dsimp only at hSw); go_simp; first | done | with_reducible rfl)
            try go_simp
            refine wpAnyH_take (i := 12) (oi := _) (v := ?_) rfl (by kernel_rfl) (by kernel_rfl) (by kernel_rfl) (fun _ _ _ h => h) (Or.inl ⟨by kernel_rfl, ?_⟩) (by assumption) ?_
            rotate_left 1
            · (intro w hSw; (try dsimp only at hSw); go_simp; first | done | with_reducible rfl)
            try go_simp
            refine wpAnyH_take (i := 13) (oi := _) (v := .slice LB lb lcb) rfl (by kernel_rfl) (by kernel_rfl) (by kernel_rfl) (fun _ _ _ h => h) (Or.inl ⟨by kernel_rfl, ?_⟩) (by assumption) ?_
            · (intro w hSw; (try dsimp only at hSw); go_simp; have q9 := gcellR hSw NE9 c2; clear hSw; go_simp; first | done | with_reducible rfl)
            try go_simp
            refine wpAnyH_take (i := 14) (oi := _) (v := ?_) rfl (by kernel_rfl) (by kernel_rfl) (by kernel_rfl) (fun _ _ _ h => h) (Or.inl ⟨by kernel_rfl, ?_⟩) (by assumption) ?_
            rotate_left 1
            · (intro w hSw; (try dsimp only at hSw); go_simp; first | done | with_reducible rfl)
            try go_simp
            refine wpAnyH_take (i := 15) (oi := _) (v := ?_) rfl (by kernel_rfl) (by kernel_rfl) (by kernel_rfl) (fun _ _ _ h => h) (Or.inl ⟨by kernel_rfl, ?_⟩) (by assumption) ?_
            rotate_left 1
            · (intro w hSw; (try dsimp only at hSw); go_simp; first | done | with_reducible rfl)
            try go_simp
            refine wpAnyH_take (i := 16) (oi := _) (v := ?_) rfl (by kernel_rfl) (by kernel_rfl) (by kernel_rfl) (fun _ _ _ h => h) (Or.inl ⟨by kernel_rfl, ?_⟩) (by assumption) ?_
            rotate_left 1
            · (intro w hSw; (try dsimp only at hSw); go_simp; first | done | with_reducible rfl)
            try go_simp
            refine wpAnyH_take (i := 17) (oi := _) (v := ?_) rfl (by kernel_rfl) (by kernel_rfl) (by kernel_rfl) (fun _ _ _ h => h) (Or.inl ⟨by kernel_rfl, ?_⟩) (by assumption) ?_
            rotate_left 1
            · (intro w hSw; (try dsimp only at hSw); go_simp; first | done | with_reducible rfl)
            try go_simp
            refine wpAnyH_ready (rs := [18]) (by kernel_rfl) (by simp) ?_
            refine AllReadyH.cons (o := _) rfl (fun K hK => ?_) AllReadyH.nil
            go_simp
            refine (same_k LB XA lb lcb 0 0 L1 ((x.take xc).drop xc) wz.drew (HL1.out.kept gz) (HXZ.out.kept gz)).mono ?_
            rintro e wa ⟨rfl, ga⟩
            have ga := World.grownBy.trans gz ga
            rw [hLX.out]
            first | (refine hK.out _ _ ?_ (fun hHeld => ?_)) | (go_wp2_with fail; refine hK.out _ _ ?_ (fun hHeld => ?_))
            · (try dsimp only); (repeat (first | assumption | exact World.grownBy.refl _ _ | refine grown_drR ?_ | refine grown_alR ?_))
            clear hK K
            refine wpAnyH_take (i := 19) (oi := _) (v := ?_) rfl (by kernel_rfl) (by kernel_rfl) (by kernel_rfl) (fun _ _ _ h => h) (Or.inl ⟨by rfl, ?_⟩) (by assumption) ?_
            rotate_left 1
            · (intro w hSw; (try dsimp only at hSw); go_simp; first | done | with_reducible rfl)
            try go_simp
            refine wpAnyH_take (i := 20) (oi := _) (v := ?_) rfl (by kernel_rfl) (by kernel_rfl) (by kernel_rfl) (fun _ _ _ h => h) (Or.inl ⟨by rfl, ?_⟩) (by assumption) ?_
            rotate_left 1
            · (intro w hSw; (try dsimp only at hSw); go_simp; first | done | with_reducible rfl)
            try go_simp
            refine wpAnyH_take (i := 21) (oi := _) (v := undef) rfl (by kernel_rfl) (by kernel_rfl) (by kernel_rfl) (fun _ _ _ h => h) (Or.inr ⟨by kernel_rfl, rfl⟩) (by assumption) ?_
            try go_simp
            refine wpAnyH_take (i := 22) (oi := _) (v := undef) rfl (by kernel_rfl) (by kernel_rfl) (by kernel_rfl) (fun _ _ _ h => h) (Or.inr ⟨by kernel_rfl, rfl⟩) (by assumption) ?_
            try go_simp
            refine wpAnyH_take (i := 23) (oi := _) (v := undef) rfl (by kernel_rfl) (by kernel_rfl) (by kernel_rfl) (fun _ _ _ h => h) (Or.inr ⟨by kernel_rfl, rfl⟩) (by assumption) ?_
            try go_simp
            refine wpAnyH_take (i := 24) (oi := _) (v := undef) rfl (by kernel_rfl) (by kernel_rfl) (by kernel_rfl) (fun _ _ _ h => h) (Or.inr ⟨by kernel_rfl, rfl⟩) (by assumption) ?_
            try go_simp
            refine wpAnyH_take (i := 25) (oi := _) (v := ?_) rfl (by kernel_rfl) (by kernel_rfl) (by kernel_rfl) (fun _ _ _ h => h) (Or.inl ⟨by rfl, ?_⟩) (by assumption) ?_
            rotate_left 1
            · (intro w hSw; (try dsimp only at hSw); go_simp; first | done | with_reducible rfl)
            try go_simp
            refine wpAnyH_done (by kernel_rfl) ?_ _
            refine NoPanic.normal ?_
            go_simp
            go_simp
            clear hHeld c0 c1 c2 c3
            have c0 := (EQ.out.grown ga (by simp)).c0
            have c1 := (EQ.out.grown ga (by simp)).c1
            have c2 := (EQ.out.grown ga (by simp)).c2
            have c3 := (EQ.out.grown ga (by simp)).c3
            go_wp2_with fail
            refine (led_g n1 i1 Hn1.out Hi1.out LB lb lcb L1 PB pb pcb P1 (fun s hs => Nat.le_trans (Hs1.out s hs) (by decide)) (by omega) wa (HL1.out.kept ga) (HP1.out.kept ga)).mono ?_
            rintro e w11 ⟨rfl, g11⟩
            clear c0 c1 c2 c3
            have GY := World.grownBy.trans ga g11
            have GT := Lib.hid (((G0.out.trans GS.out).trans ga).trans g11)
            have c0 := (EQ.out.grown GY (by simp)).c0
            have c1 := (EQ.out.grown GY (by simp)).c1
            have c2 := (EQ.out.grown GY (by simp)).c2
            have c3 := (EQ.out.grown GY (by simp)).c3
            have HVL := Lib.hid (ver_led R n1 i1 L1 P1)
            generalize ledS n1 i1 L1 P1 = Ls at *
            generalize fitsB n1 i1 L1 P1 = Fb at *
            clear g11
            cases Fb with
            | false =>
              have HVL : Hid (verB R n1 i1 L1 P1 = false) := Lib.hid (by rw [HVL.out]; rfl)
              go_wp2_with fail
              refine (verify_g R n1 i1 Hn1.out Hi1.out LB lb lcb L1 PB pb pcb P1 (by omega) (by omega) w11 (HL1.out.kept GY) (HP1.out.kept GY)).mono ?_
              rintro e w12 ⟨rfl, g12⟩
              rw [HVL.out]
              go_wp2_with fail
              go_ret
              exact ⟨rfl, GT.out.trans g12⟩
            | true =>
              by_cases hE : Ls = R
              · subst hE
                go_wp2_with fail
                go_ret
                exact ⟨rfl, GT.out⟩
              · have hEb : (Ls == R) = false := by simpa using hE
                have HVL : Hid (verB R n1 i1 L1 P1 = false) := Lib.hid (by rw [HVL.out, Bool.true_and, beq_eq_false_iff_ne]; exact fun h => hE h.symm)
                clear hE
                go_wp2_with fail
                refine (verify_g R n1 i1 Hn1.out Hi1.out LB lb lcb L1 PB pb pcb P1 (by omega) (by omega) w11 (HL1.out.kept GY) (HP1.out.kept GY)).mono ?_
                rintro e w12 ⟨rfl, g12⟩
                rw [HVL.out]
                go_wp2_with fail
                go_ret
                exact ⟨rfl, GT.out.trans g12⟩
        · have bI : (i1 == (xc : Int)) = false := by rw [beq_eq_false_iff_ne]; exact hI
          clear hN hI
          refine wp_region_noPanic ?_
          refine wp_region_held_drew (S := (fun w' => wz.grownBy w' none)) (by kernel_rfl) ?_ (fun hHeld => ?_)
          · (try dsimp only); (repeat (first | assumption | exact World.grownBy.refl _ _ | refine grown_drR ?_ | refine grown_alR ?_))
          refine wpAnyH_take (i := 0) (oi := _) (v := ?_) rfl (by kernel_rfl) (by kernel_rfl) (by kernel_rfl) (fun _ _ _ h => h) (Or.inl ⟨by rfl, ?_⟩) (by assumption) ?_
          rotate_left 1
          · (intro w hSw; (try dsimp only at hSw); go_simp; first | done | with_reducible rfl)
          try go_simp
          refine wpAnyH_take (i := 1) (oi := _) (v := .int .i64 n1) rfl (by kernel_rfl) (by kernel_rfl) (by kernel_rfl) (fun _ _ _ h => h) (Or.inl ⟨by kernel_rfl, ?_⟩) (by assumption) ?_
          · (intro w hSw; (try dsimp only at hSw); go_simp; have q9 := gcellR hSw NE9 c0; clear hSw; go_simp; first | done | with_reducible rfl)
          try go_simp
          refine wpAnyH_take (i := 2) (oi := _) (v := ?_) rfl (by kernel_rfl) (by kernel_rfl) (by kernel_rfl) (fun _ _ _ h => h) (Or.inl ⟨by rfl, ?_⟩) (by assumption) ?_
          rotate_left 1
          · (intro w hSw; (try dsimp only at hSw); go_simp; first | done | with_reducible rfl)
          try go_simp
          refine wpAnyH_take (i := 3) (oi := _) (v := ?_) rfl (by kernel_rfl) (by kernel_rfl) (by kernel_rfl) (fun _ _ _ h => h) (Or.inl ⟨by rfl, ?_⟩) (by assumption) ?_
          rotate_left 1
          · (intro w hSw; (try dsimp only at hSw); go_simp; first | done | with_reducible rfl)
          try go_simp
          refine wpAnyH_take (i := 4) (oi := _) (v := ?_) rfl (by kernel_rfl) (by kernel_rfl) (by kernel_rfl) (fun _ _ _ h => h) (Or.inl ⟨by rfl, ?_⟩) (by assumption) ?_
          rotate_left 1
          · (intro w hSw; (try dsimp only at hSw); go_simp; first | done | with_reducible rfl)
          try go_simp
          refine wpAnyH_take (i := 5) (oi := _) (v := ?_) rfl (by kernel_rfl) (by kernel_rfl) (by kernel_rfl) (fun _ _ _ h => h) (Or.inl ⟨by rfl, ?_⟩) (by assumption) ?_
          rotate_left 1
          · (intro w hSw; (try dsimp only at hSw); go_simp; first | done | with_reducible rfl)
          try go_simp
          refine wpAnyH_take (i := 6) (oi := _) (v := ?_) rfl (by kernel_rfl) (by kernel_rfl) (by kernel_rfl) (fun _ _ _ h => h) (Or.inl ⟨by kernel_rfl, ?_⟩) (by assumption) ?_
          rotate_left 1
          · (intro w hSw; (try dsimp only at hSw); go_simp; first | done | with_reducible rfl)
          try go_simp
          refine wpAnyH_take (i := 7) (oi := _) (v := .int .i64 i1) rfl (by kernel_rfl) (by kernel_rfl) (by kernel_rfl) (fun _ _ _ h => h) (Or.inl ⟨by kernel_rfl, ?_⟩) (by assumption) ?_
          · (intro w hSw; (try dsimp only at hSw); go_simp; have q9 := gcellR hSw NE9 c1; clear hSw; go_simp; first | done | with_reducible rfl)
          try go_simp
          refine wpAnyH_take (i := 8) (oi := _) (v := ?_) rfl (by kernel_rfl) (by kernel_rfl) (by kernel_rfl) (fun _ _ _ h => h) (Or.inl ⟨by kernel_rfl, ?_⟩) (by assumption) ?_
          rotate_left 1
          · (intro w hSw; (try dsimp only at hSw); go_simp; first | done | with_reducible rfl)
          try go_simp
          refine wpAnyH_take (i := 9) (oi := _) (v := ?_) rfl (by kernel_rfl) (by kernel_rfl) (by kernel_rfl) (fun _ _ _ h => h) (Or.inl ⟨by kernel_rfl, ?_⟩) (by assumption) ?_
          rotate_left 1
          · (intro w hSw; (try dsimp only at hSw); go_simp; first | done | with_reducible rfl)
          try go_simp
          refine wpAnyH_take (i := 10) (oi := _) (v := ?_) rfl (by kernel_rfl) (by kernel_rfl) (by kernel_rfl) (fun _ _ _ h => h) (Or.inl ⟨by rfl, ?_⟩) (by assumption) ?_
          rotate_left 1
          · (intro w hSw; (try dsimp only at hSw); go_simp; first | done | with_reducible rfl)
          try go_simp
          refine wpAnyH_take (i := 11) (oi := _) (v := ?_) rfl (by kernel_rfl) (by kernel_rfl) (by kernel_rfl) (fun _ _ _ h => h) (Or.inl ⟨by rfl, ?_⟩) (by assumption) ?_
          rotate_left 1
          · (intro w hSw; (try dsimp only at hSw); go_simp; first | done | with_reducible rfl)
          try go_simp
          refine wpAnyH_take (i := 12) (oi := _) (v := undef) rfl (by kernel_rfl) (by kernel_rfl) (by kernel_rfl) (fun _ _ _ h => h) (Or.inr ⟨by kernel_rfl, rfl⟩) (by assumption) ?_
          try go_simp
          refine wpAnyH_take (i := 13) (oi := _) (v := undef) rfl (by kernel_rfl) (by kernel_rfl) (by kernel_rfl) (fun _ _ _ h => h) (Or.inr ⟨by kernel_rfl, rfl⟩) (by assumption) ?_
          try go_simp
          refine wpAnyH_take (i := 14) (oi := _) (v := undef) rfl (by kernel_rfl) (by kernel_rfl) (by kernel_rfl) (fun _ _ _ h => h) (Or.inr ⟨by kernel_rfl, rfl⟩) (by assumption) ?_
          try go_simp
          refine wpAnyH_take (i := 15) (oi := _) (v := undef) rfl (by kernel_rfl) (by kernel_rfl) (by kernel_rfl) (fun _ _ _ h => h) (Or.inr ⟨by kernel_rfl, rfl⟩) (by assumption) ?_
          try go_simp
          refine wpAnyH_take (i := 16) (oi := _) (v := undef) rfl (by kernel_rfl) (by kernel_rfl) (by kernel_rfl) (fun _ _ _ h => h) (Or.inr ⟨by kernel_rfl, rfl⟩) (by assumption) ?_
          try go_simp
          refine wpAnyH_take (i := 17) (oi := _) (v := undef) rfl (by kernel_rfl) (by kernel_rfl) (by kernel_rfl) (fun _ _ _ h => h) (Or.inr ⟨by kernel_rfl, rfl⟩) (by assumption) ?_
          try go_simp
          refine wpAnyH_take (i := 18) (oi := _) (v := undef) rfl (by kernel_rfl) (by kernel_rfl) (by kernel_rfl) (fun _ _ _ h => h) (Or.inr ⟨by kernel_rfl, rfl⟩) (by assumption) ?_
          try go_simp
          refine wpAnyH_take (i := 19) (oi := _) (v := ?_) rfl (by kernel_rfl) (by kernel_rfl) (by kernel_rfl) (fun _ _ _ h => h) (Or.inl ⟨by rfl, ?_⟩) (by assumption) ?_
          rotate_left 1
          · (intro w hSw; (try dsimp only at hSw); go_simp; first | done | with_reducible rfl)
          try go_simp
          refine wpAnyH_take (i := 20) (oi := _) (v := ?_) rfl (by kernel_rfl) (by kernel_rfl) (by kernel_rfl) (fun _ _ _ h => h) (Or.inl ⟨by rfl, ?_⟩) (by assumption) ?_
          rotate_left 1
          · (intro w hSw; (try dsimp only at hSw); go_simp; first | done | with_reducible rfl)
          try go_simp
          refine wpAnyH_take (i := 21) (oi := _) (v := undef) rfl (by kernel_rfl) (by kernel_rfl) (by kernel_rfl) (fun _ _ _ h => h) (Or.inr ⟨by kernel_rfl, rfl⟩) (by assumption) ?_
          try go_simp
          refine wpAnyH_take (i := 22) (oi := _) (v := undef) rfl (by kernel_rfl) (by kernel_rfl) (by kernel_rfl) (fun _ _ _ h => h) (Or.inr ⟨by kernel_rfl, rfl⟩) (by assumption) ?_
          try go_simp
          refine wpAnyH_take (i := 23) (oi := _) (v := undef) rfl (by kernel_rfl) (by kernel_rfl) (by kernel_rfl) (fun _ _ _ h => h) (Or.inr ⟨by kernel_rfl, rfl⟩) (by assumption) ?_
          try go_simp
          refine wpAnyH_take (i := 24) (oi := _) (v := undef) rfl (by kernel_rfl) (by kernel_rfl) (by kernel_rfl) (fun _ _ _ h => h) (Or.inr ⟨by kernel_rfl, rfl⟩) (by assumption) ?_
          try go_simp
          refine wpAnyH_take (i := 25) (oi := _) (v := ?_) rfl (by kernel_rfl) (by kernel_rfl) (by kernel_rfl) (fun _ _ _ h => h) (Or.inl ⟨by rfl, ?_⟩) (by assumption) ?_
          rotate_left 1
          · (intro w hSw; (try dsimp only at hSw); go_simp; first | done | with_reducible rfl)
          try go_simp
          refine wpAnyH_done (by kernel_rfl) ?_ _
          refine NoPanic.normal ?_
          go_simp
          go_simp
          clear hHeld c0 c1 c2 c3
          have gz : wz.grownBy wz.drew none := grown_dr (World.grownBy.refl _ _)
          have c0 := (EQ.out.grown gz (by simp)).c0
          have c1 := (EQ.out.grown gz (by simp)).c1
          have c2 := (EQ.out.grown gz (by simp)).c2
          have c3 := (EQ.out.grown gz (by simp)).c3
          go_wp2_with fail
          refine (led_g n1 i1 Hn1.out Hi1.out LB lb lcb L1 PB pb pcb P1 (fun s hs => Nat.le_trans (Hs1.out s hs) (by decide)) (by omega) wz.drew (HL1.out.kept gz) (HP1.out.kept gz)).mono ?_
          rintro e w11 ⟨rfl, g11⟩
          clear c0 c1 c2 c3
          have GY := World.grownBy.trans gz g11
          have GT := Lib.hid (((G0.out.trans GS.out).trans gz).trans g11)
          have c0 := (EQ.out.grown GY (by simp)).c0
          have c1 := (EQ.out.grown GY (by simp)).c1
          have c2 := (EQ.out.grown GY (by simp)).c2
          have c3 := (EQ.out.grown GY (by simp)).c3
          have HVL := Lib.hid (ver_led R n1 i1 L1 P1)
          generalize ledS n1 i1 L1 P1 = Ls at *
          generalize fitsB n1 i1 L1 P1 = Fb at *
          clear g11
          cases Fb with
          | false =>
            have HVL : Hid (verB R n1 i1 L1 P1 = false) := Lib.hid (by rw [HVL.out]; rfl)
            go_wp2_with fail
            refine (verify_g R n1 i1 Hn1.out Hi1.out LB lb lcb L1 PB pb pcb P1 (by omega) (by omega) w11 (HL1.out.kept GY) (HP1.out.kept GY)).mono ?_
            rintro e w12 ⟨rfl, g12⟩
            rw [HVL.out]
            go_wp2_with fail
            go_ret
            exact ⟨rfl, GT.out.trans g12⟩
          | true =>
            by_cases hE : Ls = R
            · subst hE
              go_wp2_with fail
              go_ret
              exact ⟨rfl, GT.out⟩
            · have hEb : (Ls == R) = false := by simpa using hE
              have HVL : Hid (verB R n1 i1 L1 P1 = false) := Lib.hid (by rw [HVL.out, Bool.true_and, beq_eq_false_iff_ne]; exact fun h => hE h.symm)
              clear hE
              go_wp2_with fail
              refine (verify_g R n1 i1 Hn1.out Hi1.out LB lb lcb L1 PB pb pcb P1 (by omega) (by omega) w11 (HL1.out.kept GY) (HP1.out.kept GY)).mono ?_
              rintro e w12 ⟨rfl, g12⟩
              rw [HVL.out]
              go_wp2_with fail
              go_ret
              exact ⟨rfl, GT.out.trans g12⟩
      · have bN : (n1 == (xc : Int)) = false := by rw [beq_eq_false_iff_ne]; exact hN
        clear hN
        refine wp_region_noPanic ?_
        refine wp_region_held_drew (S := (fun w' => wz.grownBy w' none)) (by kernel_rfl) ?_ (fun hHeld => ?_)
        · (try dsimp only); (repeat (first | assumption | exact World.grownBy.refl _ _ | refine grown_drR ?_ | refine grown_alR ?_))
        refine wpAnyH_take (i := 0) (oi := _) (v := ?_) rfl (by kernel_rfl) (by kernel_rfl) (by kernel_rfl) (fun _ _ _ h => h) (Or.inl ⟨by rfl, ?_⟩) (by assumption) ?_
        rotate_left 1
        · (intro w hSw; (try dsimp only at hSw); go_simp; first | done | with_reducible rfl)
        try go_simp
        refine wpAnyH_take (i := 1) (oi := _) (v := .int .i64 n1) rfl (by kernel_rfl) (by kernel_rfl) (by kernel_rfl) (fun _ _ _ h => h) (Or.inl ⟨by kernel_rfl, ?_⟩) (by assumption) ?_
        · (intro w hSw; (try dsimp only at hSw); go_simp; have q9 := gcellR hSw NE9 c0; clear hSw; go_simp; first | done | with_reducible rfl)
        try go_simp
        refine wpAnyH_take (i := 2) (oi := _) (v := ?_) rfl (by kernel_rfl) (by kernel_rfl) (by kernel_rfl) (fun _ _ _ h => h) (Or.inl ⟨by rfl, ?_⟩) (by assumption) ?_
        rotate_left 1
        · (intro w hSw; (try dsimp only at hSw); go_simp; first | done | with_reducible rfl)
        try go_simp
        refine wpAnyH_take (i := 3) (oi := _) (v := ?_) rfl (by kernel_rfl) (by kernel_rfl) (by kernel_rfl) (fun _ _ _ h => h) (Or.inl ⟨by rfl, ?_⟩) (by assumption) ?_
        rotate_left 1
        · (intro w hSw; (try dsimp only at hSw); go_simp; first | done | with_reducible rfl)
        try go_simp
        refine wpAnyH_take (i := 4) (oi := _) (v := ?_) rfl (by kernel_rfl) (by kernel_rfl) (by kernel_rfl) (fun _ _ _ h => h) (Or.inl ⟨by rfl, ?_⟩) (by assumption) ?_
        rotate_left 1
        · (intro w hSw; (try dsimp only at hSw); go_simp; first | done | with_reducible rfl)
        try go_simp
        refine wpAnyH_take (i := 5) (oi := _) (v := ?_) rfl (by kernel_rfl) (by kernel_rfl) (by kernel_rfl) (fun _ _ _ h => h) (Or.inl ⟨by rfl, ?_⟩) (by assumption) ?_
        rotate_left 1
        · (intro w hSw; (try dsimp only at hSw); go_simp; first | done | with_reducible rfl)
        try go_simp
        refine wpAnyH_take (i := 6) (oi := _) (v := undef) rfl (by kernel_rfl) (by kernel_rfl) (by kernel_rfl) (fun _ _ _ h => h) (Or.inr ⟨by kernel_rfl, rfl⟩) (by assumption) ?_
        try go_simp
        refine wpAnyH_take (i := 7) (oi := _) (v := undef) rfl (by kernel_rfl) (by kernel_rfl) (by kernel_rfl) (fun _ _ _ h => h) (Or.inr ⟨by kernel_rfl, rfl⟩) (by assumption) ?_
        try go_simp
        refine wpAnyH_take (i := 8) (oi := _) (v := undef) rfl (by kernel_rfl) (by kernel_rfl) (by kernel_rfl) (fun _ _ _ h => h) (Or.inr ⟨by kernel_rfl, rfl⟩) (by assumption) ?_
        try go_simp
        refine wpAnyH_take (i := 9) (oi := _) (v := undef) rfl (by kernel_rfl) (by kernel_rfl) (by kernel_rfl) (fun _ _ _ h => h) (Or.inr ⟨by kernel_rfl, rfl⟩) (by assumption) ?_
        try go_simp
        refine wpAnyH_take (i := 10) (oi := _) (v := ?_) rfl (by kernel_rfl) (by kernel_rfl) (by kernel_rfl) (fun _ _ _ h => h) (Or.inl ⟨by rfl, ?_⟩) (by assumption) ?_
        rotate_left 1
        · (intro w hSw; (try dsimp only at hSw); go_simp; first | done | with_reducible rfl)
        try go_simp
        refine wpAnyH_take (i := 11) (oi := _) (v := ?_) rfl (by kernel_rfl) (by kernel_rfl) (by kernel_rfl) (fun _ _ _ h => h) (Or.inl ⟨by rfl, ?_⟩) (by assumption) ?_
        rotate_left 1
        · (intro w hSw; (try dsimp only at hSw); go_simp; first | done | with_reducible rfl)
        try go_simp
        refine wpAnyH_take (i := 12) (oi := _) (v := undef) rfl (by kernel_rfl) (by kernel_rfl) (by kernel_rfl) (fun _ _ _ h => h) (Or.inr ⟨by kernel_rfl, rfl⟩) (by assumption) ?_
        try go_simp
        refine wpAnyH_take (i := 13) (oi := _) (v := undef) rfl (by kernel_rfl) (by kernel_rfl) (by kernel_rfl) (fun _ _ _ h => h) (Or.inr ⟨by kernel_rfl, rfl⟩) (by assumption) ?_
        try go_simp
        refine wpAnyH_take (i := 14) (oi := _) (v := undef) rfl (by kernel_rfl) (by kernel_rfl) (by kernel_rfl) (fun _ _ _ h => h) (Or.inr ⟨by kernel_rfl, rfl⟩) (by assumption) ?_
        try go_simp
        refine wpAnyH_take (i := 15) (oi := _) (v := undef) rfl (by kernel_rfl) (by kernel_rfl) (by kernel_rfl) (fun _ _ _ h => h) (Or.inr ⟨by kernel_rfl, rfl⟩) (by assumption) ?_
        try go_simp
        refine wpAnyH_take (i := 16) (oi := _) (v := undef) rfl (by kernel_rfl) (by kernel_rfl) (by kernel_rfl) (fun _ _ _ h => h) (Or.inr ⟨by kernel_rfl, rfl⟩) (by assumption) ?_
        try go_simp
        refine wpAnyH_take (i := 17) (oi := _) (v := undef) rfl (by kernel_rfl) (by kernel_rfl) (by kernel_rfl) (fun _ _ _ h => h) (Or.inr ⟨by kernel_rfl, rfl⟩) (by assumption) ?_
        try go_simp
        refine wpAnyH_take (i := 18) (oi := _) (v := undef) rfl (by kernel_rfl) (by kernel_rfl) (by kernel_rfl) (fun _ _ _ h => h) (Or.inr ⟨by kernel_rfl, rfl⟩) (by assumption) ?_
        try go_simp
        refine wpAnyH_take (i := 19) (oi := _) (v := ?_) rfl (by kernel_rfl) (by kernel_rfl) (by kernel_rfl) (fun _ _ _ h => h) (Or.inl ⟨by rfl, ?_⟩) (by assumption) ?_
        rotate_left 1
        · (intro w hSw; (try dsimp only at hSw); go_simp; first | done | with_reducible rfl)
        try go_simp
        refine wpAnyH_take (i := 20) (oi := _) (v := ?_) rfl (by kernel_rfl) (by kernel_rfl) (by kernel_rfl) (fun _ _ _ h => h) (Or.inl ⟨by rfl, ?_⟩) (by assumption) ?_
        rotate_left 1
        · (intro w hSw; (try dsimp only at hSw); go_simp; first | done | with_reducible rfl)
        try go_simp
        refine wpAnyH_take (i := 21) (oi := _) (v := undef) rfl (by kernel_rfl) (by kernel_rfl) (by kernel_rfl) (fun _ _ _ h => h) (Or.inr ⟨by kernel_rfl, rfl⟩) (by assumption) ?_
        try go_simp
        refine wpAnyH_take (i := 22) (oi := _) (v := undef) rfl (by kernel_rfl) (by kernel_rfl) (by kernel_rfl) (fun _ _ _ h => h) (Or.inr ⟨by kernel_rfl, rfl⟩) (by assumption) ?_
        try go_simp
        refine wpAnyH_take (i := 23) (oi := _) (v := undef) rfl (by kernel_rfl) (by kernel_rfl) (by kernel_rfl) (fun _ _ _ h => h) (Or.inr ⟨by kernel_rfl, rfl⟩) (by assumption) ?_
        try go_simp
        refine wpAnyH_take (i := 24) (oi := _) (v := undef) rfl (by kernel_rfl) (by kernel_rfl) (by kernel_rfl) (fun _ _ _ h => h) (Or.inr ⟨by kernel_rfl, rfl⟩) (by assumption) ?_
        try go_simp
        refine wpAnyH_take (i := 25) (oi := _) (v := ?_) rfl (by kernel_rfl) (by kernel_rfl) (by kernel_rfl) (fun _ _ _ h => h) (Or.inl ⟨by rfl, ?_⟩) (by assumption) ?_
        rotate_left 1
        · (intro w hSw; (try dsimp only at hSw); go_simp; first | done | with_reducible rfl)
        try go_simp
        refine wpAnyH_done (by kernel_rfl) ?_ _
        refine NoPanic.normal ?_
        go_simp
        go_simp
        clear hHeld c0 c1 c2 c3
        have gz : wz.grownBy wz.drew none := grown_dr (World.grownBy.refl _ _)
        have c0 := (EQ.out.grown gz (by simp)).c0
        have c1 := (EQ.out.grown gz (by simp)).c1
        have c2 := (EQ.out.grown gz (by simp)).c2
        have c3 := (EQ.out.grown gz (by simp)).c3
        go_wp2_with fail
        refine (led_g n1 i1 Hn1.out Hi1.out LB lb lcb L1 PB pb pcb P1 (fun s hs => Nat.le_trans (Hs1.out s hs) (by decide)) (by omega) wz.drew (HL1.out.kept gz) (HP1.out.kept gz)).mono ?_
        rintro e w11 ⟨rfl, g11⟩
        clear c0 c1 c2 c3
        have GY := World.grownBy.trans gz g11
        have GT := Lib.hid (((G0.out.trans GS.out).trans gz).trans g11)
        have c0 := (EQ.out.grown GY (by simp)).c0
        have c1 := (EQ.out.grown GY (by simp)).c1
        have c2 := (EQ.out.grown GY (by simp)).c2
        have c3 := (EQ.out.grown GY (by simp)).c3
        have HVL := Lib.hid (ver_led R n1 i1 L1 P1)
        generalize ledS n1 i1 L1 P1 = Ls at *
        generalize fitsB n1 i1 L1 P1 = Fb at *
        clear g11
        cases Fb with
        | false =>
          have HVL : Hid (verB R n1 i1 L1 P1 = false) := Lib.hid (by rw [HVL.out]; rfl)
          go_wp2_with fail
          refine (verify_g R n1 i1 Hn1.out Hi1.out LB lb lcb L1 PB pb pcb P1 (by omega) (by omega) w11 (HL1.out.kept GY) (HP1.out.kept GY)).mono ?_
          rintro e w12 ⟨rfl, g12⟩
          rw [HVL.out]
          go_wp2_with fail
          go_ret
          exact ⟨rfl, GT.out.trans g12⟩
        | true =>
          by_cases hE : Ls = R
          · subst hE
            go_wp2_with fail
            go_ret
            exact ⟨rfl, GT.out⟩
          · have hEb : (Ls == R) = false := by simpa using hE
            have HVL : Hid (verB R n1 i1 L1 P1 = false) := Lib.hid (by rw [HVL.out, Bool.true_and, beq_eq_false_iff_ne]; exact fun h => hE h.symm)
            clear hE
            go_wp2_with fail
            refine (verify_g R n1 i1 Hn1.out Hi1.out LB lb lcb L1 PB pb pcb P1 (by omega) (by omega) w11 (HL1.out.kept GY) (HP1.out.kept GY)).mono ?_
            rintro e w12 ⟨rfl, g12⟩
            rw [HVL.out]
            go_wp2_with fail
            go_ret
            exact ⟨rfl, GT.out.trans g12⟩

    refine AllReadyH.cons (o := _) rfl (fun K hK => ?_) AllReadyH.nil
    · clear hHeld
      go_simp
      first | (refine hK.out _ _ ?_ (fun hHeld => ?_)) | (go_wp2_with fail; refine hK.out _ _ ?_ (fun hHeld => ?_))
      · (try dsimp only); (repeat (first | assumption | exact World.grownBy.refl _ _ | refine grown_drR ?_ | refine grown_alR ?_ | refine grown_new6 ?_ hrr))
      clear hK K
      have GJ : w5.grownBy (w5.drew.alloc (.cells #[.int .i64 0, .int .i64 0, .slice none 0 0, .slice none 0 0, .string ⟨#[]⟩, .string ⟨#[]⟩] 46)) none := (grown_dr (World.grownBy.refl _ _)).trans (World.grownBy_alloc _ _ none)
      have RR : Hid (Cl (w5.drew.alloc (.cells #[.int .i64 0, .int .i64 0, .slice none 0 0, .slice none 0 0, .string ⟨#[]⟩, .string ⟨#[]⟩] 46)) w5.heap.size 0 0 (.slice none 0 0) (.slice none 0 0) [] []) := Lib.hid (World.alloc_heap_new w5.drew _)
      clear hHeld
      refine wpAnyH_ready (rs := [10]) (by kernel_rfl) (by simp) ?_
      refine AllReadyH.cons (o := _) rfl (fun K hK => ?_) AllReadyH.nil
      go_simp
      refine (changed_k xc xc (by constructor <;> omega) (by constructor <;> omega) XA 0 0 ((x.take xc).drop xc) PA pn pc P [] [] q0 q1 q2 q3 hq2 hq3 (by omega) (by omega) HLs.out HPs.out (fun _ => rfl) HPN.out _ (HXS.out _ GJ) (HP.out _ GJ)).mono ?_
      rintro e wd ⟨n1, i1, LB, lb, lcb, L1, PB, pb, pcb, P1, rfl, hn1, hi1, hlb, hpb, hL1, hP1, HL1, HP1, gd, fL, fP⟩
      have gwd := GJ.trans gd
      first | (refine hK.out _ _ ?_ (fun hHeld => ?_)) | (go_wp2_with fail; refine hK.out _ _ ?_ (fun hHeld => ?_))
      · exact gwd
      clear hK K
      have RR := Lib.hid (RR.out.grown gd (by simp))
      have fL : Hid (∀ a, LB = some a → a.block ≠ w5.heap.size) := Lib.hid (fun a e => by have := fL a e; simp at this; omega)
      have fP : Hid (∀ a, PB = some a → a.block ≠ w5.heap.size) := Lib.hid (fun a e => by have := fP a e; simp at this; omega)
      have HL1 := Lib.hid (fun W (g : wd.grownBy W none) => HL1.kept g)
      have HP1 := Lib.hid (fun W (g : wd.grownBy W none) => HP1.kept g)
      obtain ⟨r, hr⟩ : ∃ r, w5.heap.size = r := ⟨_, rfl⟩
      rw [hr] at RR fL fP ⊢
      have hrr : w5.heap.size ≤ r := Nat.le_of_eq hr
      have gwj := gwd
      obtain ⟨wj, hwj⟩ : ∃ wj, wj = wd := ⟨_, rfl⟩
      subst hwj
      have z0 := RR.out.c0
      have z1 := RR.out.c1
      have z2 := RR.out.c2
      have z3 := RR.out.c3
      have z4 := RR.out.c4
      have z5 := RR.out.c5
      have x0 := RR.out.fz 0
      have x1 := RR.out.fz 1
      have x2 := RR.out.fz 2
      have x3 := RR.out.fz 3
      have x4 := RR.out.fz 4
      have x5 := RR.out.fz 5
      refine wpAnyH_ready (rs := [12]) (by kernel_rfl) (by simp) ?_
      refine AllReadyH.cons (o := _) rfl (fun K hK => ?_) AllReadyH.nil
      go_simp
      first | (refine hK.out _ _ ?_ (fun hHeld => ?_)) | (go_wp2_with fail; refine hK.out _ _ ?_ (fun hHeld => ?_))
      · (try dsimp only); exact grown_new6 gwj hrr
      clear hK K
      refine wpAnyH_done (by kernel_rfl) ?_ _
      refine NoPanic.normal ?_
      go_simp
      clear z0 x0 z1 x1 z2 x2 z3 x3 z4 x4 z5 x5
      have EQ : Hid (Cl ((((((wj.setCell ⟨r, 0, none⟩ (.int .i64 n1)).setCell ⟨r, 1, none⟩ (.int .i64 i1)).setCell ⟨r, 2, none⟩ (.slice LB lb lcb)).setCell ⟨r, 3, none⟩ (.slice PB pb pcb)).setCell ⟨r, 4, none⟩ (.string ⟨#[]⟩)).setCell ⟨r, 5, none⟩ (.string ⟨#[]⟩)) r n1 i1 (.slice LB lb lcb) (.slice PB pb pcb) [] []) := Lib.hid (RR.out.setAll n1 i1 (.slice LB lb lcb) (.slice PB pb pcb) [] [])
      have GS : Hid (w5.grownBy ((((((wj.setCell ⟨r, 0, none⟩ (.int .i64 n1)).setCell ⟨r, 1, none⟩ (.int .i64 i1)).setCell ⟨r, 2, none⟩ (.slice LB lb lcb)).setCell ⟨r, 3, none⟩ (.slice PB pb pcb)).setCell ⟨r, 4, none⟩ (.string ⟨#[]⟩)).setCell ⟨r, 5, none⟩ (.string ⟨#[]⟩)) none) := Lib.hid (grown_new6 gwj hrr)
      have HL1 : Hid (Strs ((((((wj.setCell ⟨r, 0, none⟩ (.int .i64 n1)).setCell ⟨r, 1, none⟩ (.int .i64 i1)).setCell ⟨r, 2, none⟩ (.slice LB lb lcb)).setCell ⟨r, 3, none⟩ (.slice PB pb pcb)).setCell ⟨r, 4, none⟩ (.string ⟨#[]⟩)).setCell ⟨r, 5, none⟩ (.string ⟨#[]⟩)) LB lb lcb L1) := Lib.hid ((HL1.out wj (World.grownBy.refl _ _)).far fL.out (grown_set6 ..))
      have HP1 : Hid (Strs ((((((wj.setCell ⟨r, 0, none⟩ (.int .i64 n1)).setCell ⟨r, 1, none⟩ (.int .i64 i1)).setCell ⟨r, 2, none⟩ (.slice LB lb lcb)).setCell ⟨r, 3, none⟩ (.slice PB pb pcb)).setCell ⟨r, 4, none⟩ (.string ⟨#[]⟩)).setCell ⟨r, 5, none⟩ (.string ⟨#[]⟩)) PB pb pcb P1) := Lib.hid ((HP1.out wj (World.grownBy.refl _ _)).far fP.out (grown_set6 ..))
      clear hHeld gwj RR
      generalize ((((((wj.setCell ⟨r, 0, none⟩ (.int .i64 n1)).setCell ⟨r, 1, none⟩ (.int .i64 i1)).setCell ⟨r, 2, none⟩ (.slice LB lb lcb)).setCell ⟨r, 3, none⟩ (.slice PB pb pcb)).setCell ⟨r, 4, none⟩ (.string ⟨#[]⟩)).setCell ⟨r, 5, none⟩ (.string ⟨#[]⟩)) = wz at *
      have HXZ : Hid (Strs wz XA 0 0 ((x.take xc).drop xc)) := Lib.hid (HXS.out wz GS.out)
      have HPZ : Hid (Strs wz PA pn pc P) := Lib.hid (HP.out wz GS.out)
      have Hn1 := Lib.hid hn1
      have Hi1 := Lib.hid hi1
      have Hs1 := Lib.hid hL1
      generalize root x = R at *
      have c0 := EQ.out.c0
      have c1 := EQ.out.c1
      have c2 := EQ.out.c2
      have c3 := EQ.out.c3
      have NE9 : some r ≠ none := by simp
      have hzz := EQ.out.lt
      clear hn1 hi1 hL1 hP1 HQ HXS HP HLs HPs HXBN HPN hbl
      go_upto_region 10 with fail
      by_cases hN : n1 = (xc : Int)
      · have bN : (n1 == (xc : Int)) = true := by rw [beq_iff_eq]; exact hN
        by_cases hI : i1 = (xc : Int)
        · have bI : (i1 == (xc : Int)) = true := by rw [beq_iff_eq]; exact hI
          clear hN hI
          by_cases hLX : L1 = ((x.take xc).drop xc)
          · have hLX : Hid (decide (L1 = ((x.take xc).drop xc)) = true) := Lib.hid (by simpa using hLX)
            by_cases hPX : P1 = P
            · have hPX : Hid (decide (P1 = P) = true) := Lib.hid (by simpa using hPX)
              have gz : wz.grownBy wz.drew none := grown_dr (World.grownBy.refl _ _)
              refine wp_region_noPanic ?_
              refine wp_region_held_drew (S := (fun w' => wz.grownBy w' none)) (by kernel_rfl) ?_ (fun hHeld => ?_)
              · (try dsimp only); (repeat (first | assumption | exact World.grownBy.refl _ _ | refine grown_drR ?_ | refine grown_alR ?_))
              refine wpAnyH_take (i := 0) (oi := _) (v := ?_) rfl (by kernel_rfl) (by kernel_rfl) (by kernel_rfl) (fun _ _ _ h => h) (Or.inl ⟨by rfl, ?_⟩) (by assumption) ?_
              rotate_left 1
              · (intro w hSw; (try dsimp only at hSw); go_simp; first | done | with_reducible rfl)
              try go_simp
              refine wpAnyH_take (i := 1) (oi := _) (v := .int .i64 n1) rfl (by kernel_rfl) (by kernel_rfl) (by kernel_rfl) (fun _ _ _ h => h) (Or.inl ⟨by kernel_rfl, ?_⟩) (by assumption) ?_
              · (intro w hSw; (try dsimp only at hSw); go_simp; have q9 := gcellR hSw NE9 c0; clear hSw; go_simp; first | done | with_reducible rfl)
              try go_simp
              refine wpAnyH_take (i := 2) (oi := _) (v := ?_) rfl (by kernel_rfl) (by kernel_rfl) (by kernel_rfl) (fun _ _ _ h => h) (Or.inl ⟨by rfl, ?_⟩) (by assumption) ?_
              rotate_left 1
              · (intro w hSw; (try dsimp only at hSw); go_simp; first | done | with_reducible rfl)
              try go_simp
              refine wpAnyH_take (i := 3) (oi := _) (v := ?_) rfl (by kernel_rfl) (by kernel_rfl) (by kernel_rfl) (fun _ _ _ h => h) (Or.inl ⟨by rfl, ?_⟩) (by assumption) ?_
              rotate_left 1
              · (intro w hSw; (try dsimp only at hSw); go_simp; first | done | with_reducible rfl)
              try go_simp
              refine wpAnyH_take (i := 4) (oi := _) (v := ?_) rfl (by kernel_rfl) (by kernel_rfl) (by kernel_rfl) (fun _ _ _ h => h) (Or.inl ⟨by rfl, ?_⟩) (by assumption) ?_
              rotate_left 1
              · (intro w hSw; (try dsimp only at hSw); go_simp; first | done | with_reducible rfl)
              try go_simp
              refine wpAnyH_take (i := 5) (oi := _) (v := ?_) rfl (by kernel_rfl) (by kernel_rfl) (by kernel_rfl) (fun _ _ _ h => h) (Or.inl ⟨by rfl, ?_⟩) (by assumption) ?_
              rotate_left 1
              · (intro w hSw; (try dsimp only at hSw); go_simp; first | done | with_reducible rfl)
              try go_simp
              refine wpAnyH_take (i := 6) (oi := _) (v := ?_) rfl (by kernel_rfl) (by kernel_rfl) (by kernel_rfl) (fun _ _ _ h => h) (Or.inl ⟨by kernel_rfl, ?_⟩) (by assumption) ?_
              rotate_left 1
              · (intro w hSw; (try dsimp only at hSw); go_simp; first | done | with_reducible rfl)
              try go_simp
              refine wpAnyH_take (i := 7) (oi := _) (v := .int .i64 i1) rfl (by kernel_rfl) (by kernel_rfl) (by kernel_rfl) (fun _ _ _ h => h) (Or.inl ⟨by kernel_rfl, ?_⟩) (by assumption) ?_
              · (intro w hSw; (try dsimp only at hSw); go_simp; have q9 := gcellR hSw NE9 c1; clear hSw; go_simp; first | done | with_reducible rfl)
              try go_simp
              refine wpAnyH_take (i := 8) (oi := _) (v := ?_) rfl (by kernel_rfl) (by kernel_rfl) (by kernel_rfl) (fun _ _ _ h => h) (Or.inl ⟨by kernel_rfl, ?_⟩) (by assumption) ?_
              rotate_left 1
              · (intro w hSw; (try dsimp only at hSw); go_simp; first | done | with_reducible rfl)
              try go_simp
              refine wpAnyH_take (i := 9) (oi := _) (v := ?_) rfl (by kernel_rfl) (by kernel_rfl) (by kernel_rfl) (fun _ _ _ h => h) (Or.inl ⟨by kernel_rfl, ?_⟩) (by assumption) ?_
              rotate_left 1
              · (intro w hSw; (try dsimp only at hSw); go_simp; first | done | with_reducible rfl)
              try go_simp
              refine wpAnyH_take (i := 10) (oi := _) (v := ?_) rfl (by kernel_rfl) (by kernel_rfl) (by kernel_rfl) (fun _ _ _ h => h) (Or.inl ⟨by rfl, ?_⟩) (by assumption) ?_
              rotate_left 1
              · (intro w hSw; (try dsimp only at hSw); go_simp; first | done | with_reducible rfl)
              try go_simp
              refine wpAnyH_take (i := 11) (oi := _) (v := ?_) rfl (by kernel_rfl) (by kernel_rfl) (by kernel_rfl) (fun _ _ _ h => h) (Or.inl ⟨by rfl, ?_⟩) (by assumption) ?_
              rotate_left 1
              · (intro w hSw; (try dsimp only at hSw); go_simp; first | done | with_reducible rfl)
              try go_simp
              refine wpAnyH_take (i := 12) (oi := _) (v := ?_) rfl (by kernel_rfl) (by kernel_rfl) (by kernel_rfl) (fun _ _ _ h => h) (Or.inl ⟨by kernel_rfl, ?_⟩) (by assumption) ?_
              rotate_left 1
              · (intro w hSw; (try dsimp only at hSw); go_simp; first | done | with_reducible rfl)
              try go_simp
              refine wpAnyH_take (i := 13) (oi := _) (v := .slice LB lb lcb) rfl (by kernel_rfl) (by kernel_rfl) (by kernel_rfl) (fun _ _ _ h => h) (Or.inl ⟨by kernel_rfl, ?_⟩) (by assumption) ?_
              · (intro w hSw; (try dsimp only at hSw); go_simp; have q9 := gcellR hSw NE9 c2; clear hSw; go_simp; first | done | with_reducible rfl)
              try go_simp
              refine wpAnyH_take (i := 14) (oi := _) (v := ?_) rfl (by kernel_rfl) (by kernel_rfl) (by kernel_rfl) (fun _ _ _ h => h) (Or.inl ⟨by kernel_rfl, ?_⟩) (by assumption) ?_
              rotate_left 1
              · (intro w hSw; (try dsimp only at hSw); go_simp; first | done | with_reducible rfl)
              try go_simp
              refine wpAnyH_take (i := 15) (oi := _) (v := ?_) rfl (by kernel_rfl) (by kernel_rfl) (by kernel_rfl) (fun _ _ _ h => h) (Or.inl ⟨by kernel_rfl, ?_⟩) (by assumption) ?_
              rotate_left 1
              · (intro w hSw; (try dsimp only at hSw); go_simp; first | done | with_reducible rfl)
              try go_simp
              refine wpAnyH_take (i := 16) (oi := _) (v := ?_) rfl (by kernel_rfl) (by kernel_rfl) (by kernel_rfl) (fun _ _ _ h => h) (Or.inl ⟨by kernel_rfl, ?_⟩) (by assumption) ?_
              rotate_left 1
              · (intro w hSw; (try dsimp only at hSw); go_simp; first | done | with_reducible rfl)
              try go_simp
              refine wpAnyH_take (i := 17) (oi := _) (v := ?_) rfl (by kernel_rfl) (by kernel_rfl) (by kernel_rfl) (fun _ _ _ h => h) (Or.inl ⟨by kernel_rfl, ?_⟩) (by assumption) ?_
              rotate_left 1
              · (intro w hSw; (try dsimp only at hSw); go_simp; first | done | with_reducible rfl)
              try go_simp
              refine wpAnyH_ready (rs := [18]) (by kernel_rfl) (by simp) ?_
              refine AllReadyH.cons (o := _) rfl (fun K hK => ?_) AllReadyH.nil
              go_simp
              refine (same_k LB XA lb lcb 0 0 L1 ((x.take xc).drop xc) wz.drew (HL1.out.kept gz) (HXZ.out.kept gz)).mono ?_
              rintro e wa ⟨rfl, ga⟩
              have ga := World.grownBy.trans gz ga
              rw [hLX.out]
              first | (refine hK.out _ _ ?_ (fun hHeld => ?_)) | (go_wp2_with fail; refine hK.out _ _ ?_ (fun hHeld => ?_))
              · (try dsimp only); (repeat (first | assumption | exact World.grownBy.refl _ _ | refine grown_drR ?_ | refine grown_alR ?_))
              clear hK K
              refine wpAnyH_take (i := 19) (oi := _) (v := ?_) rfl (by kernel_rfl) (by kernel_rfl) (by kernel_rfl) (fun _ _ _ h => h) (Or.inl ⟨by rfl, ?_⟩) (by assumption) ?_
              rotate_left 1
              · (intro w hSw; (try dsimp only at hSw); go_simp; first | done | with_reducible rfl)
              try go_simp
              refine wpAnyH_take (i := 20) (oi := _) (v := ?_) rfl (by kernel_rfl) (by kernel_rfl) (by kernel_rfl) (fun _ _ _ h => h) (Or.inl ⟨by rfl, ?_⟩) (by assumption) ?_
              rotate_left 1
              · (intro w hSw; (try dsimp only at hSw); go_simp; first | done | with_reducible rfl)
              try go_simp
              refine wpAnyH_take (i := 21) (oi := _) (v := ?_) rfl (by kernel_rfl) (by kernel_rfl) (by kernel_rfl) (fun _ _ _ h => h) (Or.inl ⟨by kernel_rfl, ?_⟩) (by assumption) ?_
              rotate_left 1
              · (intro w hSw; (try dsimp only at hSw); go_simp; first | done | with_reducible rfl)
              try go_simp
              refine wpAnyH_take (i := 22) (oi := _) (v := .slice PB pb pcb) rfl (by kernel_rfl) (by kernel_rfl) (by kernel_rfl) (fun _ _ _ h => h) (Or.inl ⟨by kernel_rfl, ?_⟩) (by assumption) ?_
              · (intro w hSw; (try dsimp only at hSw); go_simp; have q9 := gcellR hSw NE9 c3; clear hSw; go_simp; first | done | with_reducible rfl)
              try go_simp
              refine wpAnyH_take (i := 23) (oi := _) (v := ?_) rfl (by kernel_rfl) (by kernel_rfl) (by kernel_rfl) (fun _ _ _ h => h) (Or.inl ⟨by kernel_rfl, ?_⟩) (by assumption) ?_
              rotate_left 1
              · (intro w hSw; (try dsimp only at hSw); go_simp; first | done | with_reducible rfl)
              try go_simp
              refine wpAnyH_ready (rs := [24]) (by kernel_rfl) (by simp) ?_
              refine AllReadyH.cons (o := _) rfl (fun K hK => ?_) AllReadyH.nil
              go_simp
              refine (same_k PB PA pb pcb pn pc P1 P wa (HP1.out.kept ga) (HPZ.out.kept ga)).mono ?_
              rintro e wb ⟨rfl, gb⟩
              have gb := World.grownBy.trans ga gb
              rw [hPX.out]
              first | (refine hK.out _ _ ?_ (fun hHeld => ?_)) | (go_wp2_with fail; refine hK.out _ _ ?_ (fun hHeld => ?_))
              · (try dsimp only); (repeat (first | assumption | exact World.grownBy.refl _ _ | refine grown_drR ?_ | refine grown_alR ?_))
              clear hK K
              refine wpAnyH_take (i := 25) (oi := _) (v := ?_) rfl (by kernel_rfl) (by kernel_rfl) (by kernel_rfl) (fun _ _ _ h => h) (Or.inl ⟨by rfl, ?_⟩) (by assumption) ?_
              rotate_left 1
              · (intro w hSw; (try dsimp only at hSw); go_simp; first | done | with_reducible rfl)
              try go_simp
              refine wpAnyH_done (by kernel_rfl) ?_ _
              refine NoPanic.normal ?_
              go_simp
              go_simp
              clear hHeld c0 c1 c2 c3
              go_wp2_with fail
              go_ret
              exact ⟨rfl, (G0.out.trans GS.out).trans gb⟩
            · have hPX : Hid (decide (P1 = P) = false) := Lib.hid (by simpa using hPX)
              have gz : wz.grownBy wz.drew none := grown_dr (World.grownBy.refl _ _)
              refine wp_region_noPanic ?_
              refine wp_region_held_drew (S := (fun w' => wz.grownBy w' none)) (by kernel_rfl) ?_ (fun hHeld => ?_)
              · (try dsimp only); (repeat (first | assumption | exact World.grownBy.refl _ _ | refine grown_drR ?_ | refine grown_alR ?_))
              refine wpAnyH_take (i := 0) (oi := _) (v := ?_) rfl (by kernel_rfl) (by kernel_rfl) (by kernel_rfl) (fun _ _ _ h => h) (Or.inl ⟨by rfl, ?_⟩) (by assumption) ?_
              rotate_left 1
              · (intro w hSw; (try dsimp only at hSw); go_simp; first | done | with_reducible rfl)
              try go_simp
              refine wpAnyH_take (i := 1) (oi := _) (v := .int .i64 n1) rfl (by kernel_rfl) (by kernel_rfl) (by kernel_rfl) (fun _ _ _ h => h) (Or.inl ⟨by kernel_rfl, ?_⟩) (by assumption) ?_
              · (intro w hSw; (try dsimp only at hSw); go_simp; have q9 := gcellR hSw NE9 c0; clear hSw; go_simp; first | done | with_reducible rfl)
              try go_simp
              refine wpAnyH_take (i := 2) (oi := _) (v := ?_) rfl (by kernel_rfl) (by kernel_rfl) (by kernel_rfl) (fun _ _ _ h => h) (Or.inl ⟨by rfl, ?_⟩) (by assumption) ?_
              rotate_left 1
              · (intro w hSw; (try dsimp only at hSw); go_simp; first | done | with_reducible rfl)
              try go_simp
              refine wpAnyH_take (i := 3) (oi := _) (v := ?_) rfl (by kernel_rfl) (by kernel_rfl) (by kernel_rfl) (fun _ _ _ h => h) (Or.inl ⟨by rfl, ?_⟩) (by assumption) ?_
              rotate_left 1
              · (intro w hSw; (try dsimp only at hSw); go_simp; first | done | with_reducible rfl)
              try go_simp
              refine wpAnyH_take (i := 4) (oi := _) (v := ?_) rfl (by kernel_rfl) (by kernel_rfl) (by kernel_rfl) (fun _ _ _ h => h) (Or.inl ⟨by rfl, ?_⟩) (by assumption) ?_
              rotate_left 1
              · (intro w hSw; (try dsimp only at hSw); go_simp; first | done | with_reducible rfl)
              try go_simp
              refine wpAnyH_take (i := 5) (oi := _) (v := ?_) rfl (by kernel_rfl) (by kernel_rfl) (by kernel_rfl) (fun _ _ _ h => h) (Or.inl ⟨by rfl, ?_⟩) (by assumption) ?_
              rotate_left 1
              · (intro w hSw; (try dsimp only at hSw); go_simp; first | done | with_reducible rfl)
              try go_simp
              refine wpAnyH_take (i := 6) (oi := _) (v := ?_) rfl (by kernel_rfl) (by kernel_rfl) (by kernel_rfl) (fun _ _ _ h => h) (Or.inl ⟨by kernel_rfl, ?_⟩) (by assumption) ?_
              rotate_left 1
              · (intro w hSw; (try dsimp only at hSw); go_simp; first | done | with_reducible rfl)
              try go_simp
              refine wpAnyH_take (i := 7) (oi := _) (v := .int .i64 i1) rfl (by kernel_rfl) (by kernel_rfl) (by kernel_rfl) (fun _ _ _ h => h) (Or.inl ⟨by kernel_rfl, ?_⟩) (by assumption) ?_
              · (intro w hSw; (try dsimp only at hSw); go_simp; have q9 := gcellR hSw NE9 c1; clear hSw; go_simp; first | done | with_reducible rfl)
              try go_simp
              refine wpAnyH_take (i := 8) (oi := _) (v := ?_) rfl (by kernel_rfl) (by kernel_rfl) (by kernel_rfl) (fun _ _ _ h => h) (Or.inl ⟨by kernel_rfl, ?_⟩) (by assumption) ?_
              rotate_left 1
              · (intro w hSw; (try dsimp only at hSw); go_simp; first | done | with_reducible rfl)
              try go_simp
              refine wpAnyH_take (i := 9) (oi := _) (v := ?_) rfl (by kernel_rfl) (by kernel_rfl) (by kernel_rfl) (fun _ _ _ h => h) (Or.inl ⟨by kernel_rfl, ?_⟩) (by assumption) ?_
              rotate_left 1
              · (intro w hSw; (try dsimp only at hSw); go_simp; first | done | with_reducible rfl)
              try go_simp
              refine wpAnyH_take (i := 10) (oi := _) (v := ?_) rfl (by kernel_rfl) (by kernel_rfl) (by kernel_rfl) (fun _ _ _ h => h) (Or.inl ⟨by rfl, ?_⟩) (by assumption) ?_
              rotate_left 1
              · (intro w hSw; (try dsimp only at hSw); go_simp; first | done | with_reducible rfl)
              try go_simp
              refine wpAnyH_take (i := 11) (oi := _) (v := ?_) rfl (by kernel_rfl) (by kernel_rfl) (by kernel_rfl) (fun _ _ _ h => h) (Or.inl ⟨by rfl, ?_⟩) (by assumption) ?_
              rotate_left 1
              · (intro w hSw; (try dsimp only at hSw); go_simp; first | done | with_reducible rfl)
              try go_simp
              refine wpAnyH_take (i := 12) (oi := _) (v := ?_) rfl (by kernel_rfl) (by kernel_rfl) (by kernel_rfl) (fun _ _ _ h => h) (Or.inl ⟨by kernel_rfl, ?_⟩) (by assumption) ?_
              rotate_left 1
              · (intro w hSw; (try dsimp only at hSw); go_simp; first | done | with_reducible rfl)
              try go_simp
              refine wpAnyH_take (i := 13) (oi := _) (v := .slice LB lb lcb) rfl (by kernel_rfl) (by kernel_rfl) (by kernel_rfl) (fun _ _ _ h => h) (Or.inl ⟨by kernel_rfl, ?_⟩) (by assumption) ?_
              · (intro w hSw; (try dsimp only at hSw); go_simp; have q9 := gcellR hSw NE9 c2; clear hSw; go_simp; first | done | with_reducible rfl)
              try go_simp
              refine wpAnyH_take (i := 14) (oi := _) (v := ?_) rfl (by kernel_rfl) (by kernel_rfl) (by kernel_rfl) (fun _ _ _ h => h) (Or.inl ⟨by kernel_rfl, ?_⟩) (by assumption) ?_
              rotate_left 1
              · (intro w hSw; (try dsimp only at hSw); go_simp; first | done | with_reducible rfl)
              try go_simp
              refine wpAnyH_take (i := 15) (oi := _) (v := ?_) rfl (by kernel_rfl) (by kernel_rfl) (by kernel_rfl) (fun _ _ _ h => h) (Or.inl ⟨by kernel_rfl, ?_⟩) (by assumption) ?_
              rotate_left 1
              · (intro w hSw; (try dsimp only at hSw); go_simp; first | done | with_reducible rfl)
              try go_simp
              refine wpAnyH_take (i := 16) (oi := _) (v := ?_) rfl (by kernel_rfl) (by kernel_rfl) (by kernel_rfl) (fun _ _ _ h => h) (Or.inl ⟨by kernel_rfl, ?_⟩) (by assumption) ?_
              rotate_left 1
              · (intro w hSw; (try dsimp only at hSw); go_simp; first | done | with_reducible rfl)
              try go_simp
              refine wpAnyH_take (i := 17) (oi := _) (v := ?_) rfl (by kernel_rfl) (by kernel_rfl) (by kernel_rfl) (fun _ _ _ h => h) (Or.inl ⟨by kernel_rfl, ?_⟩) (by assumption) ?_
              rotate_left 1
              · (intro w hSw; (try dsimp only at hSw); go_simp; first | done | with_reducible rfl)
              try go_simp
              refine wpAnyH_ready (rs := [18]) (by kernel_rfl) (by simp) ?_
              refine AllReadyH.cons (o := _) rfl (fun K hK => ?_) AllReadyH.nil
              go_simp
              refine (same_k LB XA lb lcb 0 0 L1 ((x.take xc).drop xc) wz.drew (HL1.out.kept gz) (HXZ.out.kept gz)).mono ?_
              rintro e wa ⟨rfl, ga⟩
              have ga := World.grownBy.trans gz ga
              rw [hLX.out]
              first | (refine hK.out _ _ ?_ (fun hHeld => ?_)) | (go_wp2_with fail; refine hK.out _ _ ?_ (fun hHeld => ?_))
              · (try dsimp only); (repeat (first | assumption | exact World.grownBy.refl _ _ | refine grown_drR ?_ | refine grown_alR ?_))
              clear hK K
              refine wpAnyH_take (i := 19) (oi := _) (v := ?_) rfl (by kernel_rfl) (by kernel_rfl) (by kernel_rfl) (fun _ _ _ h => h) (Or.inl ⟨by rfl, ?_⟩) (by assumption) ?_
              rotate_left 1
              · (intro w hSw; (try dsimp only at hSw); go_simp; first | done | with_reducible rfl)
              try go_simp
              refine wpAnyH_take (i := 20) (oi := _) (v := ?_) rfl (by kernel_rfl) (by kernel_rfl) (by kernel_rfl) (fun _ _ _ h => h) (Or.inl ⟨by rfl, ?_⟩) (by assumption) ?_
              rotate_left 1
              · (intro w hSw; (try dsimp only at hSw); go_simp; first | done | with_reducible rfl)
              try go_simp
              refine wpAnyH_take (i := 21) (oi := _) (v := ?_) rfl (by kernel_rfl) (by kernel_rfl) (by kernel_rfl) (fun _ _ _ h => h) (Or.inl ⟨by kernel_rfl, ?_⟩) (by assumption) ?_
              rotate_left 1
              · (intro w hSw; (try dsimp only at hSw); go_simp; first | done | with_reducible rfl)
              try go_simp
              refine wpAnyH_take (i := 22) (oi := _) (v := .slice PB pb pcb) rfl (by kernel_rfl) (by kernel_rfl) (by kernel_rfl) (fun _ _ _ h => h) (Or.inl ⟨by kernel_rfl, ?_⟩) (by assumption) ?_
              · (intro w hSw; (try dsimp only at hSw); go_simp; have q9 := gcellR hSw NE9 c3; clear hSw; go_simp; first | done | with_reducible rfl)
              try go_simp
              refine wpAnyH_take (i := 23) (oi := _) (v := ?_) rfl (by kernel_rfl) (by kernel_rfl) (by kernel_rfl) (fun _ _ _ h => h) (Or.inl ⟨by kernel_rfl, ?_⟩) (by assumption) ?_
              rotate_left 1
              · (intro w hSw; (try dsimp only at hSw); go_simp; first | done | with_reducible rfl)
              try go_simp
              refine wpAnyH_ready (rs := [24]) (by kernel_rfl) (by simp) ?_
              refine AllReadyH.cons (o := _) rfl (fun K hK => ?_) AllReadyH.nil
              go_simp
              refine (same_k PB PA pb pcb pn pc P1 P wa (HP1.out.kept ga) (HPZ.out.kept ga)).mono ?_
              rintro e wb ⟨rfl, gb⟩
              have gb := World.grownBy.trans ga gb
              rw [hPX.out]
              first | (refine hK.out _ _ ?_ (fun hHeld => ?_)) | (go_wp2_with fail; refine hK.out _ _ ?_ (fun hHeld => ?_))
              · (try dsimp only); (repeat (first | assumption | exact World.grownBy.refl _ _ | refine grown_drR ?_ | refine grown_alR ?_))
              clear hK K
              refine wpAnyH_take (i := 25) (oi := _) (v := ?_) rfl (by kernel_rfl) (by kernel_rfl) (by kernel_rfl) (fun _ _ _ h => h) (Or.inl ⟨by rfl, ?_⟩) (by assumption) ?_
              rotate_left 1
              · (intro w hSw; (try dsimp only at hSw); go_simp; first | done | with_reducible rfl)
              try go_simp
              refine wpAnyH_done (by kernel_rfl) ?_ _
              refine NoPanic.normal ?_
              go_simp
              go_simp
              clear hHeld c0 c1 c2 c3
              have c0 := (EQ.out.grown gb (by simp)).c0
              have c1 := (EQ.out.grown gb (by simp)).c1
              have c2 := (EQ.out.grown gb (by simp)).c2
              have c3 := (EQ.out.grown gb (by simp)).c3
              go_wp2_with fail
              refine (led_g n1 i1 Hn1.out Hi1.out LB lb lcb L1 PB pb pcb P1 (fun s hs => Nat.le_trans (Hs1.out s hs) (by decide)) (by omega) wb (HL1.out.kept gb) (HP1.out.kept gb)).mono ?_
              rintro e w11 ⟨rfl, g11⟩
              clear c0 c1 c2 c3
              have GY := World.grownBy.trans gb g11
              have GT := Lib.hid (((G0.out.trans GS.out).trans gb).trans g11)
              have c0 := (EQ.out.grown GY (by simp)).c0
              have c1 := (EQ.out.grown GY (by simp)).c1
              have c2 := (EQ.out.grown GY (by simp)).c2
              have c3 := (EQ.out.grown GY (by simp)).c3
              have HVL := Lib.hid (ver_led R n1 i1 L1 P1)
              generalize ledS n1 i1 L1 P1 = Ls at *
              generalize fitsB n1 i1 L1 P1 = Fb at *
              clear g11
              cases Fb with
              | false =>
                have HVL : Hid (verB R n1 i1 L1 P1 = false) := Lib.hid (by rw [HVL.out]; rfl)
                go_wp2_with fail
                refine (verify_g R n1 i1 Hn1.out Hi1.out LB lb lcb L1 PB pb pcb P1 (by omega) (by omega) w11 (HL1.out.kept GY) (HP1.out.kept GY)).mono ?_
                rintro e w12 ⟨rfl, g12⟩
                rw [HVL.out]
                go_wp2_with fail
                go_ret
                exact ⟨rfl, GT.out.trans g12⟩
              | true =>
                by_cases hE : Ls = R
                · subst hE
                  go_wp2_with fail
                  go_ret
                  exact ⟨rfl, GT.out⟩
                · have hEb : (Ls == R) = false := by simpa using hE
                  have HVL : Hid (verB R n1 i1 L1 P1 = false) := Lib.hid (by rw [HVL.out, Bool.true_and, beq_eq_false_iff_ne]; exact fun h => hE h.symm)
                  clear hE
                  go_wp2_with fail
                  refine (verify_g R n1 i1 Hn1.out Hi1.out LB lb lcb L1 PB pb pcb P1 (by omega) (by omega) w11 (HL1.out.kept GY) (HP1.out.kept GY)).mono ?_
                  rintro e w12 ⟨rfl, g12⟩
                  rw [HVL.out]
                  go_wp2_with fail
                  go_ret
                  exact ⟨rfl, GT.out.trans g12⟩
          · have hLX : Hid (decide (L1 = ((x.take xc).drop xc)) = false) := Lib.hid (by simpa using hLX)
            have gz : wz.grownBy wz.drew none := grown_dr (World.grownBy.refl _ _)
            refine wp_region_noPanic ?_
            refine wp_region_held_drew (S := (fun w' => wz.grownBy w' none)) (by kernel_rfl) ?_ (fun hHeld => ?_)
            · (try dsimp only); (repeat (first | assumption | exact World.grownBy.refl _ _ | refine grown_drR ?_ | refine grown_alR ?_))
            refine wpAnyH_take (i := 0) (oi := _) (v := ?_) rfl (by kernel_rfl) (by kernel_rfl) (by kernel_rfl) (fun _ _ _ h => h) (Or.inl ⟨by rfl, ?_⟩) (by assumption) ?_
            rotate_left 1
            · (intro w hSw; (try dsimp only at hSw); go_simp; first | done | with_reducible rfl)
            try go_simp
            refine wpAnyH_take (i := 1) (oi := _) (v := .int .i64 n1) rfl (by kernel_rfl) (by kernel_rfl) (by kernel_rfl) (fun _ _ _ h => h) (Or.inl ⟨by kernel_rfl, ?_⟩) (by assumption) ?_
            · (intro w hSw; (try dsimp only at hSw); go_simp; have q9 := gcellR hSw NE9 c0; clear hSw; go_simp; first | done | with_reducible rfl)
            try go_simp
            refine wpAnyH_take (i := 2) (oi := _) (v := ?_) rfl (by kernel_rfl) (by kernel_rfl) (by kernel_rfl) (fun _ _ _ h => h) (Or.inl ⟨by rfl, ?_⟩) (by assumption) ?_
            rotate_left 1
            · (intro w hSw; (try dsimp only at hSw); go_simp; first | done | with_reducible rfl)
            try go_simp
            refine wpAnyH_take (i := 3) (oi := _) (v := ?_) rfl (by kernel_rfl) (by kernel_rfl) (by kernel_rfl) (fun _ _ _ h => h) (Or.inl ⟨by rfl, ?_⟩) (by assumption) ?_
            rotate_left 1
            · (intro w hSw; (try dsimp only at hSw); go_simp; first | done | with_reducible rfl)
            try go_simp
            refine wpAnyH_take (i := 4) (oi := _) (v := ?_) rfl (by kernel_rfl) (by kernel_rfl) (by kernel_rfl) (fun _ _ _ h => h) (Or.inl ⟨by rfl, ?_⟩) (by assumption) ?_
            rotate_left 1
            · (intro w hSw; (try dsimp only at hSw); go_simp; first | done | with_reducible rfl)
            try go_simp
            refine wpAnyH_take (i := 5) (oi := _) (v := ?_) rfl (by kernel_rfl) (by kernel_rfl) (by kernel_rfl) (fun _ _ _ h => h) (Or.inl ⟨by rfl, ?_⟩) (by assumption) ?_
            rotate_left 1
            · (intro w hSw; (try dsimp only at hSw); go_simp; first | done | with_reducible rfl)
            try go_simp
            refine wpAnyH_take (i := 6) (oi := _) (v := ?_) rfl (by kernel_rfl) (by kernel_rfl) (by kernel_rfl) (fun _ _ _ h => h) (Or.inl ⟨by kernel_rfl, ?_⟩) (by assumption) ?_
            rotate_left 1
            · (intro w hSw; (try dsimp only at hSw); go_simp; first | done | with_reducible rfl)
            try go_simp
            refine wpAnyH_take (i := 7) (oi := _) (v := .int .i64 i1) rfl (by kernel_rfl) (by kernel_rfl) (by kernel_rfl) (fun _ _ _ h => h) (Or.inl ⟨by kernel_rfl, ?_⟩) (by assumption) ?_
            · (intro w hSw; (try dsimp only at hSw); go_simp; have q9 := gcellR hSw NE9 c1; clear hSw; go_simp; first | done | with_reducible rfl)
            try go_simp
            refine wpAnyH_take (i := 8) (oi := _) (v := ?_) rfl (by kernel_rfl) (by kernel_rfl) (by kernel_rfl) (fun _ _ _ h => h) (Or.inl ⟨by kernel_rfl, ?_⟩) (by assumption) ?_
            rotate_left 1
            · (intro w hSw; (try dsimp only at hSw); go_simp; first | done | with_reducible rfl)
            try go_simp
            refine wpAnyH_take (i := 9) (oi := _) (v := ?_) rfl (by kernel_rfl) (by kernel_rfl) (by kernel_rfl) (fun _ _ _ h => h) (Or.inl ⟨by kernel_rfl, ?_⟩) (by assumption) ?_
            rotate_left 1
            · (intro w hSw; (try dsimp only at hSw); go_simp; first | done | with_reducible rfl)
            try go_simp
            refine wpAnyH_take (i := 10) (oi := _) (v := ?_) rfl (by kernel_rfl) (by kernel_rfl) (by kernel_rfl) (fun _ _ _ h => h) (Or.inl ⟨by rfl, ?_⟩) (by assumption) ?_
            rotate_left 1
            · (intro w hSw; (try dsimp only at hSw); go_simp; first | done | with_reducible rfl)
            try go_simp
            refine wpAnyH_take (i := 11) (oi := _) (v := ?_) rfl (by kernel_rfl) (by kernel_rfl) (by kernel_rfl) (fun _ _ _ h => h) (Or.inl ⟨by rfl, ?_⟩) (by assumption) ?_
            rotate_left 1
            · (intro w hSw; (try dsimp only at hSw); go_simp; first | done | with_reducible rfl)
            try go_simp
            refine wpAnyH_take (i := 12) (oi := _) (v := ?_) rfl (by kernel_rfl) (by kernel_rfl) (by kernel_rfl) (fun _ _ _ h => h) (Or.inl ⟨by kernel_rfl, ?_⟩) (by assumption) ?_
            rotate_left 1
            · (intro w hSw; (try dsimp only at hSw); go_simp; first | done | with_reducible rfl)
            try go_simp
            refine wpAnyH_take (i := 13) (oi := _) (v := .slice LB lb lcb) rfl (by kernel_rfl) (by kernel_rfl) (by kernel_rfl) (fun _ _ _ h => h) (Or.inl ⟨by kernel_rfl, ?_⟩) (by assumption) ?_
            · (intro w hSw; (try dsimp only at hSw); go_simp; have q9 := gcellR hSw NE9 c2; clear hSw; go_simp; first | done | with_reducible rfl)
            try go_simp
            refine wpAnyH_take (i := 14) (oi := _) (v := ?_) rfl (by kernel_rfl) (by kernel_rfl) (by kernel_rfl) (fun _ _ _ h => h) (Or.inl ⟨by kernel_rfl, ?_⟩) (by assumption) ?_
            rotate_left 1
            · (intro w hSw; (try dsimp only at hSw); go_simp; first | done | with_reducible rfl)
            try go_simp
            refine wpAnyH_take (i := 15) (oi := _) (v := ?_) rfl (by kernel_rfl) (by kernel_rfl) (by kernel_rfl) (fun _ _ _ h => h) (Or.inl ⟨by kernel_rfl, ?_⟩) (by assumption) ?_
            rotate_left 1
            · (intro w hSw; (try dsimp only at hSw); go_simp; first | done | with_reducible rfl)
            try go_simp
            refine wpAnyH_take (i := 16) (oi := _) (v := ?_) rfl (by kernel_rfl) (by kernel_rfl) (by kernel_rfl) (fun _ _ _ h => h) (Or.inl ⟨by kernel_rfl, ?_⟩) (by assumption) ?_
            rotate_left 1
            · (intro w hSw; (try dsimp only at hSw); go_simp; first | done | with_reducible rfl)
            try go_simp
            refine wpAnyH_take (i := 17) (oi := _) (v := ?_) rfl (by kernel_rfl) (by kernel_rfl) (by kernel_rfl) (fun _ _ _ h => h) (Or.inl ⟨by kernel_rfl, ?_⟩) (by assumption) ?_
            rotate_left 1
            · (intro w hSw; (try dsimp only at hSw); go_simp; first | done | with_reducible rfl)
            try go_simp
            refine wpAnyH_ready (rs := [18]) (by kernel_rfl) (by simp) ?_
            refine AllReadyH.cons (o := _) rfl (fun K hK => ?_) AllReadyH.nil
            go_simp
            refine (same_k LB XA lb lcb 0 0 L1 ((x.take xc).drop xc) wz.drew (HL1.out.kept gz) (HXZ.out.kept gz)).mono ?_
            rintro e wa ⟨rfl, ga⟩
            have ga := World.grownBy.trans gz ga
            rw [hLX.out]
            first | (refine hK.out _ _ ?_ (fun hHeld => ?_)) | (go_wp2_with fail; refine hK.out _ _ ?_ (fun hHeld => ?_))
            · (try dsimp only); (repeat (first | assumption | exact World.grownBy.refl _ _ | refine grown_drR ?_ | refine grown_alR ?_))
            clear hK K
            refine wpAnyH_take (i := 19) (oi := _) (v := ?_) rfl (by kernel_rfl) (by kernel_rfl) (by kernel_rfl) (fun _ _ _ h => h) (Or.inl ⟨by rfl, ?_⟩) (by assumption) ?_
            rotate_left 1
            · (intro w hSw; (try dsimp only at hSw); go_simp; first | done | with_reducible rfl)
            try go_simp
            refine wpAnyH_take (i := 20) (oi := _) (v := ?_) rfl (by kernel_rfl) (by kernel_rfl) (by kernel_rfl) (fun _ _ _ h => h) (Or.inl ⟨by rfl, ?_⟩) (by assumption) ?_
            rotate_left 1
            · (intro w hSw; (try dsimp only at hSw); go_simp; first | done | with_reducible rfl)
            try go_simp
            refine wpAnyH_take (i := 21) (oi := _) (v := undef) rfl (by kernel_rfl) (by kernel_rfl) (by kernel_rfl) (fun _ _ _ h => h) (Or.inr ⟨by kernel_rfl, rfl⟩) (by assumption) ?_
            try go_simp
            refine wpAnyH_take (i := 22) (oi := _) (v := undef) rfl (by kernel_rfl) (by kernel_rfl) (by kernel_rfl) (fun _ _ _ h => h) (Or.inr ⟨by kernel_rfl, rfl⟩) (by assumption) ?_
            try go_simp
            refine wpAnyH_take (i := 23) (oi := _) (v := undef) rfl (by kernel_rfl) (by kernel_rfl) (by kernel_rfl) (fun _ _ _ h => h) (Or.inr ⟨by kernel_rfl, rfl⟩) (by assumption) ?_
            try go_simp
            refine wpAnyH_take (i := 24) (oi := _) (v := undef) rfl (by kernel_rfl) (by kernel_rfl) (by kernel_rfl) (fun _ _ _ h => h) (Or.inr ⟨by kernel_rfl, rfl⟩) (by assumption) ?_
            try go_simp
            refine wpAnyH_take (i := 25) (oi := _) (v := ?_) rfl (by kernel_rfl) (by kernel_rfl) (by kernel_rfl) (fun _ _ _ h => h) (Or.inl ⟨by rfl, ?_⟩) (by assumption) ?_
            rotate_left 1
            · (intro w hSw; (try dsimp only at hSw); go_simp; first | done | with_reducible rfl)
            try go_simp
            refine wpAnyH_done (by kernel_rfl) ?_ _
            refine NoPanic.normal ?_
            go_simp
            go_simp
            clear hHeld c0 c1 c2 c3
            have c0 := (EQ.out.grown ga (by simp)).c0
            have c1 := (EQ.out.grown ga (by simp)).c1
            have c2 := (EQ.out.grown ga (by simp)).c2
            have c3 := (EQ.out.grown ga (by simp)).c3
            go_wp2_with fail
            refine (led_g n1 i1 Hn1.out Hi1.out LB lb lcb L1 PB pb pcb P1 (fun s hs => Nat.le_trans (Hs1.out s hs) (by decide)) (by omega) wa (HL1.out.kept ga) (HP1.out.kept ga)).mono ?_
            rintro e w11 ⟨rfl, g11⟩
            clear c0 c1 c2 c3
            have GY := World.grownBy.trans ga g11
            have GT := Lib.hid (((G0.out.trans GS.out).trans ga).trans g11)
            have c0 := (EQ.out.grown GY (by simp)).c0
            have c1 := (EQ.out.grown GY (by simp)).c1
            have c2 := (EQ.out.grown GY (by simp)).c2
            have c3 := (EQ.out.grown GY (by simp)).c3
            have HVL := Lib.hid (ver_led R n1 i1 L1 P1)
            generalize ledS n1 i1 L1 P1 = Ls at *
            generalize fitsB n1 i1 L1 P1 = Fb at *
            clear g11
            cases Fb with
            | false =>
              have HVL : Hid (verB R n1 i1 L1 P1 = false) := Lib.hid (by rw [HVL.out]; rfl)
              go_wp2_with fail
              refine (verify_g R n1 i1 Hn1.out Hi1.out LB lb lcb L1 PB pb pcb P1 (by omega) (by omega) w11 (HL1.out.kept GY) (HP1.out.kept GY)).mono ?_
              rintro e w12 ⟨rfl, g12⟩
              rw [HVL.out]
              go_wp2_with fail
              go_ret
              exact ⟨rfl, GT.out.trans g12⟩
            | true =>
              by_cases hE : Ls = R
              · subst hE
                go_wp2_with fail
                go_ret
                exact ⟨rfl, GT.out⟩
              · have hEb : (Ls == R) = false := by simpa using hE
                have HVL : Hid (verB R n1 i1 L1 P1 = false) := Lib.hid (by rw [HVL.out, Bool.true_and, beq_eq_false_iff_ne]; exact fun h => hE h.symm)
                clear hE
                go_wp2_with fail
                refine (verify_g R n1 i1 Hn1.out Hi1.out LB lb lcb L1 PB pb pcb P1 (by omega) (by omega) w11 (HL1.out.kept GY) (HP1.out.kept GY)).mono ?_
                rintro e w12 ⟨rfl, g12⟩
                rw [HVL.out]
                go_wp2_with fail
                go_ret
                exact ⟨rfl, GT.out.trans g12⟩
        · have bI : (i1 == (xc : Int)) = false := by rw [beq_eq_false_iff_ne]; exact hI
          clear hN hI
          refine wp_region_noPanic ?_
          refine wp_region_held_drew (S := (fun w' => wz.grownBy w' none)) (by kernel_rfl) ?_ (fun hHeld => ?_)
          · (try dsimp only); (repeat (first | assumption | exact World.grownBy.refl _ _ | refine grown_drR ?_ | refine grown_alR ?_))
          refine wpAnyH_take (i := 0) (oi := _) (v := ?_) rfl (by kernel_rfl) (by kernel_rfl) (by kernel_rfl) (fun _ _ _ h => h) (Or.inl ⟨by rfl, ?_⟩) (by assumption) ?_
          rotate_left 1
          · (intro w hSw; (try dsimp only at hSw); go_simp; first | done | with_reducible rfl)
          try go_simp
          refine wpAnyH_take (i := 1) (oi := _) (v := .int .i64 n1) rfl (by kernel_rfl) (by kernel_rfl) (by kernel_rfl) (fun _ _ _ h => h) (Or.inl ⟨by kernel_rfl, ?_⟩) (by assumption) ?_
          · (intro w hSw; (try dsimp only at hSw); go_simp; have q9 := gcellR hSw NE9 c0; clear hSw; go_simp; first | done | with_reducible rfl)
          try go_simp
          refine wpAnyH_take (i := 2) (oi := _) (v := ?_) rfl (by kernel_rfl) (by kernel_rfl) (by kernel_rfl) (fun _ _ _ h => h) (Or.inl ⟨by rfl, ?_⟩) (by assumption) ?_
          rotate_left 1
          · (intro w hSw; (try dsimp only at hSw); go_simp; first | done | with_reducible rfl)
          try go_simp
          refine wpAnyH_take (i := 3) (oi := _) (v := ?_) rfl (by kernel_rfl) (by kernel_rfl) (by kernel_rfl) (fun _ _ _ h => h) (Or.inl ⟨by rfl, ?_⟩) (by assumption) ?_
          rotate_left 1
          · (intro w hSw; (try dsimp only at hSw); go_simp; first | done | with_reducible rfl)
          try go_simp
          refine wpAnyH_take (i := 4) (oi := _) (v := ?_) rfl (by kernel_rfl) (by kernel_rfl) (by kernel_rfl) (fun _ _ _ h => h) (Or.inl ⟨by rfl, ?_⟩) (by assumption) ?_
          rotate_left 1
          · (intro w hSw; (try dsimp only at hSw); go_simp; first | done | with_reducible rfl)
          try go_simp
          refine wpAnyH_take (i := 5) (oi := _) (v := ?_) rfl (by kernel_rfl) (by kernel_rfl) (by kernel_rfl) (fun _ _ _ h => h) (Or.inl ⟨by rfl, ?_⟩) (by assumption) ?_
          rotate_left 1
          · (intro w hSw; (try dsimp only at hSw); go_simp; first | done | with_reducible rfl)
          try go_simp
          refine wpAnyH_take (i := 6) (oi := _) (v := ?_) rfl (by kernel_rfl) (by kernel_rfl) (by kernel_rfl) (fun _ _ _ h => h) (Or.inl ⟨by kernel_rfl, ?_⟩) (by assumption) ?_
          rotate_left 1
          · (intro w hSw; (try dsimp only at hSw); go_simp; first | done | with_reducible rfl)
          try go_simp
          refine wpAnyH_take (i := 7) (oi := _) (v := .int .i64 i1) rfl (by kernel_rfl) (by kernel_rfl) (by kernel_rfl) (fun _ _ _ h => h) (Or.inl ⟨by kernel_rfl, ?_⟩) (by assumption) ?_
          · (intro w hSw; (try dsimp only at hSw); go_simp; have q9 := gcellR hSw NE9 c1; clear hSw; go_simp; first | done | with_reducible rfl)
          try go_simp
          refine wpAnyH_take (i := 8) (oi := _) (v := ?_) rfl (by kernel_rfl) (by kernel_rfl) (by kernel_rfl) (fun _ _ _ h => h) (Or.inl ⟨by kernel_rfl, ?_⟩) (by assumption) ?_
          rotate_left 1
          · (intro w hSw; (try dsimp only at hSw); go_simp; first | done | with_reducible rfl)
          try go_simp
          refine wpAnyH_take (i := 9) (oi := _) (v := ?_) rfl (by kernel_rfl) (by kernel_rfl) (by kernel_rfl) (fun _ _ _ h => h) (Or.inl ⟨by kernel_rfl, ?_⟩) (by assumption) ?_
          rotate_left 1
          · (intro w hSw; (try dsimp only at hSw); go_simp; first | done | with_reducible rfl)
          try go_simp
          refine wpAnyH_take (i := 10) (oi := _) (v := ?_) rfl (by kernel_rfl) (by kernel_rfl) (by kernel_rfl) (fun _ _ _ h => h) (Or.inl ⟨by rfl, ?_⟩) (by assumption) ?_
          rotate_left 1
          · (intro w hSw; (try dsimp only at hSw); go_simp; first | done | with_reducible rfl)
          try go_simp
          refine wpAnyH_take (i := 11) (oi := _) (v := ?_) rfl (by kernel_rfl) (by kernel_rfl) (by kernel_rfl) (fun _ _ _ h => h) (Or.inl ⟨by rfl, ?_⟩) (by assumption) ?_
          rotate_left 1
          · (intro w hSw; (try dsimp only at hSw); go_simp; first | done | with_reducible rfl)
          try go_simp
          refine wpAnyH_take (i := 12) (oi := _) (v := undef) rfl (by kernel_rfl) (by kernel_rfl) (by kernel_rfl) (fun _ _ _ h => h) (Or.inr ⟨by kernel_rfl, rfl⟩) (by assumption) ?_
          try go_simp
          refine wpAnyH_take (i := 13) (oi := _) (v := undef) rfl (by kernel_rfl) (by kernel_rfl) (by kernel_rfl) (fun _ _ _ h => h) (Or.inr ⟨by kernel_rfl, rfl⟩) (by assumption) ?_
          try go_simp
          refine wpAnyH_take (i := 14) (oi := _) (v := undef) rfl (by kernel_rfl) (by kernel_rfl) (by kernel_rfl) (fun _ _ _ h => h) (Or.inr ⟨by kernel_rfl, rfl⟩) (by assumption) ?_
          try go_simp
          refine wpAnyH_take (i := 15) (oi := _) (v := undef) rfl (by kernel_rfl) (by kernel_rfl) (by kernel_rfl) (fun _ _ _ h => h) (Or.inr ⟨by kernel_rfl, rfl⟩) (by assumption) ?_
          try go_simp
          refine wpAnyH_take (i := 16) (oi := _) (v := undef) rfl (by kernel_rfl) (by kernel_rfl) (by kernel_rfl) (fun _ _ _ h => h) (Or.inr ⟨by kernel_rfl, rfl⟩) (by assumption) ?_
          try go_simp
          refine wpAnyH_take (i := 17) (oi := _) (v := undef) rfl (by kernel_rfl) (by kernel_rfl) (by kernel_rfl) (fun _ _ _ h => h) (Or.inr ⟨by kernel_rfl, rfl⟩) (by assumption) ?_
          try go_simp
          refine wpAnyH_take (i := 18) (oi := _) (v := undef) rfl (by kernel_rfl) (by kernel_rfl) (by kernel_rfl) (fun _ _ _ h => h) (Or.inr ⟨by kernel_rfl, rfl⟩) (by assumption) ?_
          try go_simp
          refine wpAnyH_take (i := 19) (oi := _) (v := ?_) rfl (by kernel_rfl) (by kernel_rfl) (by kernel_rfl) (fun _ _ _ h => h) (Or.inl ⟨by rfl, ?_⟩) (by assumption) ?_
          rotate_left 1
          · (intro w hSw; (try dsimp only at hSw); go_simp; first | done | with_reducible rfl)
          try go_simp
          refine wpAnyH_take (i := 20) (oi := _) (v := ?_) rfl (by kernel_rfl) (by kernel_rfl) (by kernel_rfl) (fun _ _ _ h => h) (Or.inl ⟨by rfl, ?_⟩) (by assumption) ?_
          rotate_left 1
          · (intro w hSw; (try dsimp only at hSw); go_simp; first | done | with_reducible rfl)
          try go_simp
          refine wpAnyH_take (i := 21) (oi := _) (v := undef) rfl (by kernel_rfl) (by kernel_rfl) (by kernel_rfl) (fun _ _ _ h => h) (Or.inr ⟨by kernel_rfl, rfl⟩) (by assumption) ?_
          try go_simp
          refine wpAnyH_take (i := 22) (oi := _) (v := undef) rfl (by kernel_rfl) (by kernel_rfl) (by kernel_rfl) (fun _ _ _ h => h) (Or.inr ⟨by kernel_rfl, rfl⟩) (by assumption) ?_
          try go_simp
          refine wpAnyH_take (i := 23) (oi := _) (v := undef) rfl (by kernel_rfl) (by kernel_rfl) (by kernel_rfl) (fun _ _ _ h => h) (Or.inr ⟨by kernel_rfl, rfl⟩) (by assumption) ?_
          try go_simp
          refine wpAnyH_take (i := 24) (oi := _) (v := undef) rfl (by kernel_rfl) (by kernel_rfl) (by kernel_rfl) (fun _ _ _ h => h) (Or.inr ⟨by kernel_rfl, rfl⟩) (by assumption) ?_
          try go_simp
          refine wpAnyH_take (i := 25) (oi := _) (v := ?_) rfl (by kernel_rfl) (by kernel_rfl) (by kernel_rfl) (fun _ _ _ h => h) (Or.inl ⟨by rfl, ?_⟩) (by assumption) ?_
          rotate_left 1
          · (intro w hSw; (try dsimp only at hSw); go_simp; first | done | with_reducible rfl)
          try go_simp
          refine wpAnyH_done (by kernel_rfl) ?_ _
          refine NoPanic.normal ?_
          go_simp
          go_simp
          clear hHeld c0 c1 c2 c3
          have gz : wz.grownBy wz.drew none := grown_dr (World.grownBy.refl _ _)
          have c0 := (EQ.out.grown gz (by simp)).c0
          have c1 := (EQ.out.grown gz (by simp)).c1
          have c2 := (EQ.out.grown gz (by simp)).c2
          have c3 := (EQ.out.grown gz (by simp)).c3
          go_wp2_with fail
          refine (led_g n1 i1 Hn1.out Hi1.out LB lb lcb L1 PB pb pcb P1 (fun s hs => Nat.le_trans (Hs1.out s hs) (by decide)) (by omega) wz.drew (HL1.out.kept gz) (HP1.out.kept gz)).mono ?_
          rintro e w11 ⟨rfl, g11⟩
          clear c0 c1 c2 c3
          have GY := World.grownBy.trans gz g11
          have GT := Lib.hid (((G0.out.trans GS.out).trans gz).trans g11)
          have c0 := (EQ.out.grown GY (by simp)).c0
          have c1 := (EQ.out.grown GY (by simp)).c1
          have c2 := (EQ.out.grown GY (by simp)).c2
          have c3 := (EQ.out.grown GY (by simp)).c3
          have HVL := Lib.hid (ver_led R n1 i1 L1 P1)
          generalize ledS n1 i1 L1 P1 = Ls at *
          generalize fitsB n1 i1 L1 P1 = Fb at *
          clear g11
          cases Fb with
          | false =>
            have HVL : Hid (verB R n1 i1 L1 P1 = false) := Lib.hid (by rw [HVL.out]; rfl)
            go_wp2_with fail
            refine (verify_g R n1 i1 Hn1.out Hi1.out LB lb lcb L1 PB pb pcb P1 (by omega) (by omega) w11 (HL1.out.kept GY) (HP1.out.kept GY)).mono ?_
            rintro e w12 ⟨rfl, g12⟩
            rw [HVL.out]
            go_wp2_with fail
            go_ret
            exact ⟨rfl, GT.out.trans g12⟩
          | true =>
            by_cases hE : Ls = R
            · subst hE
              go_wp2_with fail
              go_ret
              exact ⟨rfl, GT.out⟩
            · have hEb : (Ls == R) = false := by simpa using hE
              have HVL : Hid (verB R n1 i1 L1 P1 = false) := Lib.hid (by rw [HVL.out, Bool.true_and, beq_eq_false_iff_ne]; exact fun h => hE h.symm)
              clear hE
              go_wp2_with fail
              refine (verify_g R n1 i1 Hn1.out Hi1.out LB lb lcb L1 PB pb pcb P1 (by omega) (by omega) w11 (HL1.out.kept GY) (HP1.out.kept GY)).mono ?_
              rintro e w12 ⟨rfl, g12⟩
              rw [HVL.out]
              go_wp2_with fail
              go_ret
              exact ⟨rfl, GT.out.trans g12⟩
      · have bN : (n1 == (xc : Int)) = false := by rw [beq_eq_false_iff_ne]; exact hN
        clear hN
        refine wp_region_noPanic ?_
        refine wp_region_held_drew (S := (fun w' => wz.grownBy w' none)) (by kernel_rfl) ?_ (fun hHeld => ?_)
        · (try dsimp only); (repeat (first | assumption | exact World.grownBy.refl _ _ | refine grown_drR ?_ | refine grown_alR ?_))
        refine wpAnyH_take (i := 0) (oi := _) (v := ?_) rfl (by kernel_rfl) (by kernel_rfl) (by kernel_rfl) (fun _ _ _ h => h) (Or.inl ⟨by rfl, ?_⟩) (by assumption) ?_
        rotate_left 1
        · (intro w hSw; (try dsimp only at hSw); go_simp; first | done | with_reducible rfl)
        try go_simp
        refine wpAnyH_take (i := 1) (oi := _) (v := .int .i64 n1) rfl (by kernel_rfl) (by kernel_rfl) (by kernel_rfl) (fun _ _ _ h => h) (Or.inl ⟨by kernel_rfl, ?_⟩) (by assumption) ?_
        · (intro w hSw; (try dsimp only at hSw); go_simp; have q9 := gcellR hSw NE9 c0; clear hSw; go_simp; first | done | with_reducible rfl)
        try go_simp
        refine wpAnyH_take (i := 2) (oi := _) (v := ?_) rfl (by kernel_rfl) (by kernel_rfl) (by kernel_rfl) (fun _ _ _ h => h) (Or.inl ⟨by rfl, ?_⟩) (by assumption) ?_
        rotate_left 1
        · (intro w hSw; (try dsimp only at hSw); go_simp; first | done | with_reducible rfl)
        try go_simp
        refine wpAnyH_take (i := 3) (oi := _) (v := ?_) rfl (by kernel_rfl) (by kernel_rfl) (by kernel_rfl) (fun _ _ _ h => h) (Or.inl ⟨by rfl, ?_⟩) (by assumption) ?_
        rotate_left 1
        · (intro w hSw; (try dsimp only at hSw); go_simp; first | done | with_reducible rfl)
        try go_simp
        refine wpAnyH_take (i := 4) (oi := _) (v := ?_) rfl (by kernel_rfl) (by kernel_rfl) (by kernel_rfl) (fun _ _ _ h => h) (Or.inl ⟨by rfl, ?_⟩) (by assumption) ?_
        rotate_left 1
        · (intro w hSw; (try dsimp only at hSw); go_simp; first | done | with_reducible rfl)
        try go_simp
        refine wpAnyH_take (i := 5) (oi := _) (v := ?_) rfl (by kernel_rfl) (by kernel_rfl) (by kernel_rfl) (fun _ _ _ h => h) (Or.inl ⟨by rfl, ?_⟩) (by assumption) ?_
        rotate_left 1
        · (intro w hSw; (try dsimp only at hSw); go_simp; first | done | with_reducible rfl)
        try go_simp
        refine wpAnyH_take (i := 6) (oi := _) (v := undef) rfl (by kernel_rfl) (by kernel_rfl) (by kernel_rfl) (fun _ _ _ h => h) (Or.inr ⟨by kernel_rfl, rfl⟩) (by assumption) ?_
        try go_simp
        refine wpAnyH_take (i := 7) (oi := _) (v := undef) rfl (by kernel_rfl) (by kernel_rfl) (by kernel_rfl) (fun _ _ _ h => h) (Or.inr ⟨by kernel_rfl, rfl⟩) (by assumption) ?_
        try go_simp
        refine wpAnyH_take (i := 8) (oi := _) (v := undef) rfl (by kernel_rfl) (by kernel_rfl) (by kernel_rfl) (fun _ _ _ h => h) (Or.inr ⟨by kernel_rfl, rfl⟩) (by assumption) ?_
        try go_simp
        refine wpAnyH_take (i := 9) (oi := _) (v := undef) rfl (by kernel_rfl) (by kernel_rfl) (by kernel_rfl) (fun _ _ _ h => h) (Or.inr ⟨by kernel_rfl, rfl⟩) (by assumption) ?_
        try go_simp
        refine wpAnyH_take (i := 10) (oi := _) (v := ?_) rfl (by kernel_rfl) (by kernel_rfl) (by kernel_rfl) (fun _ _ _ h => h) (Or.inl ⟨by rfl, ?_⟩) (by assumption) ?_
        rotate_left 1
        · (intro w hSw; (try dsimp only at hSw); go_simp; first | done | with_reducible rfl)
        try go_simp
        refine wpAnyH_take (i := 11) (oi := _) (v := ?_) rfl (by kernel_rfl) (by kernel_rfl) (by kernel_rfl) (fun _ _ _ h => h) (Or.inl ⟨by rfl, ?_⟩) (by assumption) ?_
        rotate_left 1
        · (intro w hSw; (try dsimp only at hSw); go_simp; first | done | with_reducible rfl)
        try go_simp
        refine wpAnyH_take (i := 12) (oi := _) (v := undef) rfl (by kernel_rfl) (by kernel_rfl) (by kernel_rfl) (fun _ _ _ h => h) (Or.inr ⟨by kernel_rfl, rfl⟩) (by assumption) ?_
        try go_simp
        refine wpAnyH_take (i := 13) (oi := _) (v := undef) rfl (by kernel_rfl) (by kernel_rfl) (by kernel_rfl) (fun _ _ _ h => h) (Or.inr ⟨by kernel_rfl, rfl⟩) (by assumption) ?_
        try go_simp
        refine wpAnyH_take (i := 14) (oi := _) (v := undef) rfl (by kernel_rfl) (by kernel_rfl) (by kernel_rfl) (fun _ _ _ h => h) (Or.inr ⟨by kernel_rfl, rfl⟩) (by assumption) ?_
        try go_simp
        refine wpAnyH_take (i := 15) (oi := _) (v := undef) rfl (by kernel_rfl) (by kernel_rfl) (by kernel_rfl) (fun _ _ _ h => h) (Or.inr ⟨by kernel_rfl, rfl⟩) (by assumption) ?_
        try go_simp
        refine wpAnyH_take (i := 16) (oi := _) (v := undef) rfl (by kernel_rfl) (by kernel_rfl) (by kernel_rfl) (fun _ _ _ h => h) (Or.inr ⟨by kernel_rfl, rfl⟩) (by assumption) ?_
        try go_simp
        refine wpAnyH_take (i := 17) (oi := _) (v := undef) rfl (by kernel_rfl) (by kernel_rfl) (by kernel_rfl) (fun _ _ _ h => h) (Or.inr ⟨by kernel_rfl, rfl⟩) (by assumption) ?_
        try go_simp
        refine wpAnyH_take (i := 18) (oi := _) (v := undef) rfl (by kernel_rfl) (by kernel_rfl) (by kernel_rfl) (fun _ _ _ h => h) (Or.inr ⟨by kernel_rfl, rfl⟩) (by assumption) ?_
        try go_simp
        refine wpAnyH_take (i := 19) (oi := _) (v := ?_) rfl (by kernel_rfl) (by kernel_rfl) (by kernel_rfl) (fun _ _ _ h => h) (Or.inl ⟨by rfl, ?_⟩) (by assumption) ?_
        rotate_left 1
        · (intro w hSw; (try dsimp only at hSw); go_simp; first | done | with_reducible rfl)
        try go_simp
        refine wpAnyH_take (i := 20) (oi := _) (v := ?_) rfl (by kernel_rfl) (by kernel_rfl) (by kernel_rfl) (fun _ _ _ h => h) (Or.inl ⟨by rfl, ?_⟩) (by assumption) ?_
        rotate_left 1
        · (intro w hSw; (try dsimp only at hSw); go_simp; first | done | with_reducible rfl)
        try go_simp
        refine wpAnyH_take (i := 21) (oi := _) (v := undef) rfl (by kernel_rfl) (by kernel_rfl) (by kernel_rfl) (fun _ _ _ h => h) (Or.inr ⟨by kernel_rfl, rfl⟩) (by assumption) ?_
        try go_simp
        refine wpAnyH_take (i := 22) (oi := _) (v := undef) rfl (by kernel_rfl) (by kernel_rfl) (by kernel_rfl) (fun _ _ _ h => h) (Or.inr ⟨by kernel_rfl, rfl⟩) (by assumption) ?_
        try go_simp
        refine wpAnyH_take (i := 23) (oi := _) (v := undef) rfl (by kernel_rfl) (by kernel_rfl) (by kernel_rfl) (fun _ _ _ h => h) (Or.inr ⟨by kernel_rfl, rfl⟩) (by assumption) ?_
        try go_simp
        refine wpAnyH_take (i := 24) (oi := _) (v := undef) rfl (by kernel_rfl) (by kernel_rfl) (by kernel_rfl) (fun _ _ _ h => h) (Or.inr ⟨by kernel_rfl, rfl⟩) (by assumption) ?_
        try go_simp
        refine wpAnyH_take (i := 25) (oi := _) (v := ?_) rfl (by kernel_rfl) (by kernel_rfl) (by kernel_rfl) (fun _ _ _ h => h) (Or.inl ⟨by rfl, ?_⟩) (by assumption) ?_
        rotate_left 1
        · (intro w hSw; (try dsimp only at hSw); go_simp; first | done | with_reducible rfl)
        try go_simp
        refine wpAnyH_done (by kernel_rfl) ?_ _
        refine NoPanic.normal ?_
        go_simp
        go_simp
        clear hHeld c0 c1 c2 c3
        have gz : wz.grownBy wz.drew none := grown_dr (World.grownBy.refl _ _)
        have c0 := (EQ.out.grown gz (by simp)).c0
        have c1 := (EQ.out.grown gz (by simp)).c1
        have c2 := (EQ.out.grown gz (by simp)).c2
        have c3 := (EQ.out.grown gz (by simp)).c3
        go_wp2_with fail
        refine (led_g n1 i1 Hn1.out Hi1.out LB lb lcb L1 PB pb pcb P1 (fun s hs => Nat.le_trans (Hs1.out s hs) (by decide)) (by omega) wz.drew (HL1.out.kept gz) (HP1.out.kept gz)).mono ?_
        rintro e w11 ⟨rfl, g11⟩
        clear c0 c1 c2 c3
        have GY := World.grownBy.trans gz g11
        have GT := Lib.hid (((G0.out.trans GS.out).trans gz).trans g11)
        have c0 := (EQ.out.grown GY (by simp)).c0
        have c1 := (EQ.out.grown GY (by simp)).c1
        have c2 := (EQ.out.grown GY (by simp)).c2
        have c3 := (EQ.out.grown GY (by simp)).c3
        have HVL := Lib.hid (ver_led R n1 i1 L1 P1)
        generalize ledS n1 i1 L1 P1 = Ls at *
        generalize fitsB n1 i1 L1 P1 = Fb at *
        clear g11
        cases Fb with
        | false =>
          have HVL : Hid (verB R n1 i1 L1 P1 = false) := Lib.hid (by rw [HVL.out]; rfl)
          go_wp2_with fail
          refine (verify_g R n1 i1 Hn1.out Hi1.out LB lb lcb L1 PB pb pcb P1 (by omega) (by omega) w11 (HL1.out.kept GY) (HP1.out.kept GY)).mono ?_
          rintro e w12 ⟨rfl, g12⟩
          rw [HVL.out]
          go_wp2_with fail
          go_ret
          exact ⟨rfl, GT.out.trans g12⟩
        | true =>
          by_cases hE : Ls = R
          · subst hE
            go_wp2_with fail
            go_ret
            exact ⟨rfl, GT.out⟩
          · have hEb : (Ls == R) = false := by simpa using hE
            have HVL : Hid (verB R n1 i1 L1 P1 = false) := Lib.hid (by rw [HVL.out, Bool.true_and, beq_eq_false_iff_ne]; exact fun h => hE h.symm)
            clear hE
            go_wp2_with fail
            refine (verify_g R n1 i1 Hn1.out Hi1.out LB lb lcb L1 PB pb pcb P1 (by omega) (by omega) w11 (HL1.out.kept GY) (HP1.out.kept GY)).mono ?_
            rintro e w12 ⟨rfl, g12⟩
            rw [HVL.out]
            go_wp2_with fail
            go_ret
            exact ⟨rfl, GT.out.trans g12⟩
  · have HXS : Hid (∀ W, w4.grownBy W none → Strs W (XA.map (fun a => a.add i)) (j - i) (xc - i) ((x.take j).drop i)) := Lib.hid (fun W g => by
      have := ((HX.out W g).take hjx).drop hij
      rwa [if_neg hcx] at this)
    go_wp2_with fail
    refine (verify_g (root x) xn i (by constructor <;> omega) (by constructor <;> omega) (XA.map (fun a => a.add i)) (j - i) (xc - i) ((x.take j).drop i) PA pn pc P (by omega) (by omega) w4 (HXS.out w4 (World.grownBy.refl _ _)) (HP.out w4 (World.grownBy.refl _ _))).mono ?_
    rintro e w5 ⟨rfl, g5⟩
    rw [HV.out]
    have HXBN : Hid ((XA.map (fun a => a.add i)) = none → (xc - i) = 0) := Lib.hid (fun e => by cases XA with
      | none => have := HXN.out rfl; omega
      | some a => cases e)
    have HLs : Hid (∀ s ∈ ((x.take j).drop i), s.length ≤ 100) := Lib.hid (fun s hs => Nat.le_trans (H12.out s (List.mem_of_mem_take (List.mem_of_mem_drop hs))) (by decide))
    have HPs : Hid (∀ s ∈ P, s.length ≤ 100) := Lib.hid (fun s hs => Nat.le_trans (Hp8.out s hs) (by decide))
    have HQ := Lib.hid (HQ.out.grown g5 (by simp))
    have G0 := Lib.hid (G0.out.trans g5)
    have HXS := Lib.hid (fun W (g : w5.grownBy W none) => HXS.out W (g5.trans g))
    have HP := Lib.hid (fun W (g : w5.grownBy W none) => HP.out W (g5.trans g))
    clear g5 HV hbl
    have c0 := HQ.out.c0
    have c1 := HQ.out.c1
    have c2 := HQ.out.c2
    have c3 := HQ.out.c3
    have NE : some B ≠ none := by simp
    have hbl := HQ.out.lt
    go_upto_region 9 with fail
    refine wp_region_noPanic ?_
    refine wp_region_held_drew (S := (fun w' => w5.grownBy w' none)) (by kernel_rfl) ?_ (fun hHeld => ?_)
    · (try dsimp only); (repeat (first | assumption | exact World.grownBy.refl _ _ | refine grown_drR ?_ | refine grown_alR ?_ | refine grown_new6 ?_ hrr))
    refine wpAnyH_take (i := 0) (oi := _) (v := ?_) rfl (by kernel_rfl) (by kernel_rfl) (by kernel_rfl) (fun _ _ _ h => h) (Or.inl ⟨by rfl, ?_⟩) (by assumption) ?_
    rotate_left 1
    · (intro w hSw; (try dsimp only at hSw); go_simp; first | done | with_reducible rfl)
    try go_simp
    refine wpAnyH_take (i := 1) (oi := _) (v := ?_) rfl (by kernel_rfl) (by kernel_rfl) (by kernel_rfl) (fun _ _ _ h => h) (Or.inl ⟨by rfl, ?_⟩) (by assumption) ?_
    rotate_left 1
    · (intro w hSw; (try dsimp only at hSw); go_simp; first | done | with_reducible rfl)
    try go_simp
    refine wpAnyH_take (i := 2) (oi := _) (v := ?_) rfl (by kernel_rfl) (by kernel_rfl) (by kernel_rfl) (fun _ _ _ h => h) (Or.inl ⟨by rfl, ?_⟩) (by assumption) ?_
    rotate_left 1
    · (intro w hSw; (try dsimp only at hSw); go_simp; first | done | with_reducible rfl)
    try go_simp
    refine wpAnyH_take (i := 3) (oi := _) (v := ?_) rfl (by kernel_rfl) (by kernel_rfl) (by kernel_rfl) (fun _ _ _ h => h) (Or.inl ⟨by rfl, ?_⟩) (by assumption) ?_
    rotate_left 1
    · (intro w hSw; (try dsimp only at hSw); go_simp; first | done | with_reducible rfl)
    try go_simp
    refine wpAnyH_take (i := 4) (oi := _) (v := ?_) rfl (by kernel_rfl) (by kernel_rfl) (by kernel_rfl) (fun _ _ _ h => h) (Or.inl ⟨by rfl, ?_⟩) (by assumption) ?_
    rotate_left 1
    · (intro w hSw; (try dsimp only at hSw); go_simp; first | done | with_reducible rfl)
    try go_simp
    refine wpAnyH_take (i := 5) (oi := _) (v := ?_) rfl (by kernel_rfl) (by kernel_rfl) (by kernel_rfl) (fun _ _ _ h => h) (Or.inl ⟨by rfl, ?_⟩) (by assumption) ?_
    rotate_left 1
    · (intro w hSw; (try dsimp only at hSw); go_simp; first | done | with_reducible rfl)
    try go_simp
    refine wpAnyH_take (i := 6) (oi := _) (v := ?_) rfl (by kernel_rfl) (by kernel_rfl) (by kernel_rfl) (fun _ _ _ h => h) (Or.inl ⟨by rfl, ?_⟩) (by assumption) ?_
    rotate_left 1
    · (intro w hSw; (try dsimp only at hSw); go_simp; first | done | with_reducible rfl)
    try go_simp
    refine wpAnyH_take (i := 7) (oi := _) (v := ?_) rfl (by kernel_rfl) (by kernel_rfl) (by kernel_rfl) (fun _ _ _ h => h) (Or.inl ⟨by rfl, ?_⟩) (by assumption) ?_
    rotate_left 1
    · (intro w hSw; (try dsimp only at hSw); go_simp; first | done | with_reducible rfl)
    try go_simp
    refine wpAnyH_take (i := 8) (oi := _) (v := ?_) rfl (by kernel_rfl) (by kernel_rfl) (by kernel_rfl) (fun _ _ _ h => h) (Or.inl ⟨by rfl, ?_⟩) (by assumption) ?_
    rotate_left 1
    · (intro w hSw; (try dsimp only at hSw); go_simp; first | done | with_reducible rfl)
    try go_simp
    refine wpAnyH_take (i := 9) (oi := _) (v := .agg #[.int .u8 q0, .int .u8 q1, .int .u8 q2, .int .u8 q3]) rfl (by kernel_rfl) (by kernel_rfl) (by kernel_rfl) (fun _ _ _ h => h) (Or.inl ⟨by kernel_rfl, ?_⟩) (by assumption) ?_
    · (intro w hSw; (try dsimp only at hSw); go_simp; have y0 := gcellR hSw NE c0; have y1 := gcellR hSw NE c1; have y2 := gcellR hSw NE c2; have y3 := gcellR hSw NE c3; clear hSw; go_simp; first | done | with_reducible rfl)
    try go_simp
    refine wpAnyH_ready (rs := [10, 11]) (by kernel_rfl) (by simp) ?_
    refine AllReadyH.cons (o := _) rfl (fun K hK => ?_) ?_
    · clear hHeld
      go_simp
      have GJ : w5.grownBy w5.drew none := grown_dr (World.grownBy.refl _ _)
      refine (changed_k xn i (by constructor <;> omega) (by constructor <;> omega) (XA.map (fun a => a.add i)) (j - i) (xc - i) ((x.take j).drop i) PA pn pc P [] [] q0 q1 q2 q3 hq2 hq3 (by omega) (by omega) HLs.out HPs.out HXBN.out HPN.out _ (HXS.out _ GJ) (HP.out _ GJ)).mono ?_
      rintro e wd ⟨n1, i1, LB, lb, lcb, L1, PB, pb, pcb, P1, rfl, hn1, hi1, hlb, hpb, hL1, hP1, HL1, HP1, gd, fL, fP⟩
      have gwd := GJ.trans gd
      first | (refine hK.out _ _ ?_ (fun hHeld => ?_)) | (go_wp2_with fail; refine hK.out _ _ ?_ (fun hHeld => ?_))
      · (try dsimp only); (repeat (first | assumption | exact World.grownBy.refl _ _ | refine grown_drR ?_ | refine grown_alR ?_ | refine grown_new6 ?_ hrr))
      clear hK K
      have RR : Hid (Cl (wd.alloc (.cells #[.int .i64 0, .int .i64 0, .slice none 0 0, .slice none 0 0, .string ⟨#[]⟩, .string ⟨#[]⟩] 46)) wd.heap.size 0 0 (.slice none 0 0) (.slice none 0 0) [] []) := Lib.hid (World.alloc_heap_new wd _)
      have hrr : w5.heap.size ≤ wd.heap.size := gwd.size
      have gwj := gwd.trans (World.grownBy_alloc wd (.cells #[.int .i64 0, .int .i64 0, .slice none 0 0, .slice none 0 0, .string ⟨#[]⟩, .string ⟨#[]⟩] 46) none)
      have HL1 := Lib.hid (fun W (g : wd.grownBy W none) => HL1.kept g)
      have HP1 := Lib.hid (fun W (g : wd.grownBy W none) => HP1.kept g)
      refine wpAnyH_ready (rs := [11]) (by kernel_rfl) (by simp) ?_
      refine AllReadyH.cons (o := _) rfl (fun K hK => ?_) AllReadyH.nil
      go_simp
      first | (refine hK.out _ _ ?_ (fun hHeld => ?_)) | (go_wp2_with fail; refine hK.out _ _ ?_ (fun hHeld => ?_))
      · (try dsimp only); (repeat (first | assumption | exact World.grownBy.refl _ _ | refine grown_drR ?_ | refine grown_alR ?_ | refine grown_new6 ?_ hrr))
      clear hK K
      obtain ⟨r, hr⟩ : ∃ r, wd.heap.size = r := ⟨_, rfl⟩
      rw [hr] at RR hrr ⊢
      generalize hwj : wd.alloc (.cells #[.int .i64 0, .int .i64 0, .slice none 0 0, .slice none 0 0, .string ⟨#[]⟩, .string ⟨#[]⟩] 46) = wj at *
      have gdj : wd.grownBy wj none := by rw [← hwj]; exact World.grownBy_alloc wd _ none
      have z0 := RR.out.c0
      have z1 := RR.out.c1
      have z2 := RR.out.c2
      have z3 := RR.out.c3
      have z4 := RR.out.c4
      have z5 := RR.out.c5
      have x0 := RR.out.fz 0
      have x1 := RR.out.fz 1
      have x2 := RR.out.fz 2
      have x3 := RR.out.fz 3
      have x4 := RR.out.fz 4
      have x5 := RR.out.fz 5
      refine wpAnyH_ready (rs := [12]) (by kernel_rfl) (by simp) ?_
      refine AllReadyH.cons (o := _) rfl (fun K hK => ?_) AllReadyH.nil
      go_simp
      first | (refine hK.out _ _ ?_ (fun hHeld => ?_)) | (go_wp2_with fail; refine hK.out _ _ ?_ (fun hHeld => ?_))
      · (try dsimp only); exact grown_new6 gwj hrr
      clear hK K
      refine wpAnyH_done (by kernel_rfl) ?_ _
      refine NoPanic.normal ?_
      go_simp
      clear z0 x0 z1 x1 z2 x2 z3 x3 z4 x4 z5 x5
      have EQ : Hid (Cl ((((((wj.setCell ⟨r, 0, none⟩ (.int .i64 n1)).setCell ⟨r, 1, none⟩ (.int .i64 i1)).setCell ⟨r, 2, none⟩ (.slice LB lb lcb)).setCell ⟨r, 3, none⟩ (.slice PB pb pcb)).setCell ⟨r, 4, none⟩ (.string ⟨#[]⟩)).setCell ⟨r, 5, none⟩ (.string ⟨#[]⟩)) r n1 i1 (.slice LB lb lcb) (.slice PB pb pcb) [] []) := Lib.hid (RR.out.setAll n1 i1 (.slice LB lb lcb) (.slice PB pb pcb) [] [])
      have GS : Hid (w5.grownBy ((((((wj.setCell ⟨r, 0, none⟩ (.int .i64 n1)).setCell ⟨r, 1, none⟩ (.int .i64 i1)).setCell ⟨r, 2, none⟩ (.slice LB lb lcb)).setCell ⟨r, 3, none⟩ (.slice PB pb pcb)).setCell ⟨r, 4, none⟩ (.string ⟨#[]⟩)).setCell ⟨r, 5, none⟩ (.string ⟨#[]⟩)) none) := Lib.hid (grown_new6 gwj hrr)
      have HL1 := Lib.hid (HL1.out ((((((wj.setCell ⟨r, 0, none⟩ (.int .i64 n1)).setCell ⟨r, 1, none⟩ (.int .i64 i1)).setCell ⟨r, 2, none⟩ (.slice LB lb lcb)).setCell ⟨r, 3, none⟩ (.slice PB pb pcb)).setCell ⟨r, 4, none⟩ (.string ⟨#[]⟩)).setCell ⟨r, 5, none⟩ (.string ⟨#[]⟩)) (grown_new6 gdj (Nat.le_of_eq hr)))
      have HP1 := Lib.hid (HP1.out ((((((wj.setCell ⟨r, 0, none⟩ (.int .i64 n1)).setCell ⟨r, 1, none⟩ (.int .i64 i1)).setCell ⟨r, 2, none⟩ (.slice LB lb lcb)).setCell ⟨r, 3, none⟩ (.slice PB pb pcb)).setCell ⟨r, 4, none⟩ (.string ⟨#[]⟩)).setCell ⟨r, 5, none⟩ (.string ⟨#[]⟩)) (grown_new6 gdj (Nat.le_of_eq hr)))
      clear hHeld gwj RR
      generalize ((((((wj.setCell ⟨r, 0, none⟩ (.int .i64 n1)).setCell ⟨r, 1, none⟩ (.int .i64 i1)).setCell ⟨r, 2, none⟩ (.slice LB lb lcb)).setCell ⟨r, 3, none⟩ (.slice PB pb pcb)).setCell ⟨r, 4, none⟩ (.string ⟨#[]⟩)).setCell ⟨r, 5, none⟩ (.string ⟨#[]⟩)) = wz at *
      have HXZ : Hid (Strs wz (XA.map (fun a => a.add i)) (j - i) (xc - i) ((x.take j).drop i)) := Lib.hid (HXS.out wz GS.out)
      have HPZ : Hid (Strs wz PA pn pc P) := Lib.hid (HP.out wz GS.out)
      have Hn1 := Lib.hid hn1
      have Hi1 := Lib.hid hi1
      have Hs1 := Lib.hid hL1
      generalize root x = R at *
      have c0 := EQ.out.c0
      have c1 := EQ.out.c1
      have c2 := EQ.out.c2
      have c3 := EQ.out.c3
      have NE9 : some r ≠ none := by simp
      have hzz := EQ.out.lt
      clear hn1 hi1 hL1 hP1 HQ HXS HP HLs HPs HXBN HPN hbl
      go_upto_region 10 with fail
      by_cases hN : n1 = (xn : Int)
      · have bN : (n1 == (xn : Int)) = true := by rw [beq_iff_eq]; exact hN
        by_cases hI : i1 = (i : Int)
        · have bI : (i1 == (i : Int)) = true := by rw [beq_iff_eq]; exact hI
          clear hN hI
          by_cases hLX : L1 = ((x.take j).drop i)
          · have hLX : Hid (decide (L1 = ((x.take j).drop i)) = true) := Lib.hid (by simpa using hLX)
            by_cases hPX : P1 = P
            · have hPX : Hid (decide (P1 = P) = true) := Lib.hid (by simpa using hPX)
              have gz : wz.grownBy wz.drew none := grown_dr (World.grownBy.refl _ _)
              refine wp_region_noPanic ?_
              refine wp_region_held_drew (S := (fun w' => wz.grownBy w' none)) (by kernel_rfl) ?_ (fun hHeld => ?_)
              · (try dsimp only); (repeat (first | assumption | exact World.grownBy.refl _ _ | refine grown_drR ?_ | refine grown_alR ?_))
              refine wpAnyH_take (i := 0) (oi := _) (v := ?_) rfl (by kernel_rfl) (by kernel_rfl) (by kernel_rfl) (fun _ _ _ h => h) (Or.inl ⟨by rfl, ?_⟩) (by assumption) ?_
              rotate_left 1
              · (intro w hSw; (try dsimp only at hSw); go_simp; first | done | with_reducible rfl)
              try go_simp
              refine wpAnyH_take (i := 1) (oi := _) (v := .int .i64 n1) rfl (by kernel_rfl) (by kernel_rfl) (by kernel_rfl) (fun _ _ _ h => h) (Or.inl ⟨by kernel_rfl, ?_⟩) (by assumption) ?_
              · (intro w hSw; (try dsimp only at hSw); go_simp; have q9 := gcellR hSw NE9 c0; clear hSw; go_simp; first | done | with_reducible rfl)
              try go_simp
              refine wpAnyH_take (i := 2) (oi := _) (v := ?_) rfl (by kernel_rfl) (by kernel_rfl) (by kernel_rfl) (fun _ _ _ h => h) (Or.inl ⟨by rfl, ?_⟩) (by assumption) ?_
              rotate_left 1
              · (intro w hSw; (try dsimp only at hSw); go_simp; first | done | with_reducible rfl)
              try go_simp
              refine wpAnyH_take (i := 3) (oi := _) (v := ?_) rfl (by kernel_rfl) (by kernel_rfl) (by kernel_rfl) (fun _ _ _ h => h) (Or.inl ⟨by rfl, ?_⟩) (by assumption) ?_
              rotate_left 1
              · (intro w hSw; (try dsimp only at hSw); go_simp; first | done | with_reducible rfl)
              try go_simp
              refine wpAnyH_take (i := 4) (oi := _) (v := ?_) rfl (by kernel_rfl) (by kernel_rfl) (by kernel_rfl) (fun _ _ _ h => h) (Or.inl ⟨by rfl, ?_⟩) (by assumption) ?_
              rotate_left 1
              · (intro w hSw; (try dsimp only at hSw); go_simp; first | done | with_reducible rfl)
              try go_simp
              refine wpAnyH_take (i := 5) (oi := _) (v := ?_) rfl (by kernel_rfl) (by kernel_rfl) (by kernel_rfl) (fun _ _ _ h => h) (Or.inl ⟨by rfl, ?_⟩) (by assumption) ?_
              rotate_left 1
              · (intro w hSw; (try dsimp only at hSw); go_simp; first | done | with_reducible rfl)
              try go_simp
              refine wpAnyH_take (i := 6) (oi := _) (v := ?_) rfl (by kernel_rfl) (by kernel_rfl) (by kernel_rfl) (fun _ _ _ h => h) (Or.inl ⟨by kernel_rfl, ?_⟩) (by assumption) ?_
              rotate_left 1
              · (intro w hSw; (try dsimp only at hSw); go_simp; first | done | with_reducible rfl)
              try go_simp
              refine wpAnyH_take (i := 7) (oi := _) (v := .int .i64 i1) rfl (by kernel_rfl) (by kernel_rfl) (by kernel_rfl) (fun _ _ _ h => h) (Or.inl ⟨by kernel_rfl, ?_⟩) (by assumption) ?_
              · (intro w hSw; (try dsimp only at hSw); go_simp; have q9 := gcellR hSw NE9 c1; clear hSw; go_simp; first | done | with_reducible rfl)
              try go_simp
              refine wpAnyH_take (i := 8) (oi := _) (v := ?_) rfl (by kernel_rfl) (by kernel_rfl) (by kernel_rfl) (fun _ _ _ h => h) (Or.inl ⟨by kernel_rfl, ?_⟩) (by assumption) ?_
              rotate_left 1
              · (intro w hSw; (try dsimp only at hSw); go_simp; first | done | with_reducible rfl)
              try go_simp
              refine wpAnyH_take (i := 9) (oi := _) (v := ?_) rfl (by kernel_rfl) (by kernel_rfl) (by kernel_rfl) (fun _ _ _ h => h) (Or.inl ⟨by kernel_rfl, ?_⟩) (by assumption) ?_
              rotate_left 1
              · (intro w hSw; (try dsimp only at hSw); go_simp; first | done | with_reducible rfl)
              try go_simp
              refine wpAnyH_take (i := 10) (oi := _) (v := ?_) rfl (by kernel_rfl) (by kernel_rfl) (by kernel_rfl) (fun _ _ _ h => h) (Or.inl ⟨by rfl, ?_⟩) (by assumption) ?_
              rotate_left 1
              · (intro w hSw; (try dsimp only at hSw); go_simp; first | done | with_reducible rfl)
              try go_simp
              refine wpAnyH_take (i := 11) (oi := _) (v := ?_) rfl (by kernel_rfl) (by kernel_rfl) (by kernel_rfl) (fun _ _ _ h => h) (Or.inl ⟨by rfl, ?_⟩) (by assumption) ?_
              rotate_left 1
              · (intro w hSw; (try dsimp only at hSw); go_simp; first | done | with_reducible rfl)
              try go_simp
              refine wpAnyH_take (i := 12) (oi := _) (v := ?_) rfl (by kernel_rfl) (by kernel_rfl) (by kernel_rfl) (fun _ _ _ h => h) (Or.inl ⟨by kernel_rfl, ?_⟩) (by assumption) ?_
              rotate_left 1
              · (intro w hSw; (try dsimp only at hSw); go_simp; first | done | with_reducible rfl)
              try go_simp
              refine wpAnyH_take (i := 13) (oi := _) (v := .slice LB lb lcb) rfl (by kernel_rfl) (by kernel_rfl) (by kernel_rfl) (fun _ _ _ h => h) (Or.inl ⟨by kernel_rfl, ?_⟩) (by assumption) ?_
              · (intro w hSw; (try dsimp only at hSw); go_simp; have q9 := gcellR hSw NE9 c2; clear hSw; go_simp; first | done | with_reducible rfl)
              try go_simp
              refine wpAnyH_take (i := 14) (oi := _) (v := ?_) rfl (by kernel_rfl) (by kernel_rfl) (by kernel_rfl) (fun _ _ _ h => h) (Or.inl ⟨by kernel_rfl, ?_⟩) (by assumption) ?_
              rotate_left 1
              · (intro w hSw; (try dsimp only at hSw); go_simp; first | done | with_reducible rfl)
              try go_simp
              refine wpAnyH_take (i := 15) (oi := _) (v := ?_) rfl (by kernel_rfl) (by kernel_rfl) (by kernel_rfl) (fun _ _ _ h => h) (Or.inl ⟨by kernel_rfl, ?_⟩) (by assumption) ?_
              rotate_left 1
              · (intro w hSw; (try dsimp only at hSw); go_simp; first | done | with_reducible rfl)
              try go_simp
              refine wpAnyH_take (i := 16) (oi := _) (v := ?_) rfl (by kernel_rfl) (by kernel_rfl) (by kernel_rfl) (fun _ _ _ h => h) (Or.inl ⟨by kernel_rfl, ?_⟩) (by assumption) ?_
              rotate_left 1
              · (intro w hSw; (try dsimp only at hSw); go_simp; first | done | with_reducible rfl)
              try go_simp
              refine wpAnyH_take (i := 17) (oi := _) (v := ?_) rfl (by kernel_rfl) (by kernel_rfl) (by kernel_rfl) (fun _ _ _ h => h) (Or.inl ⟨by kernel_rfl, ?_⟩) (by assumption) ?_
              rotate_left 1
              · (intro w hSw; (try dsimp only at hSw); go_simp; first | done | with_reducible rfl)
              try go_simp
              refine wpAnyH_ready (rs := [18]) (by kernel_rfl) (by simp) ?_
              refine AllReadyH.cons (o := _) rfl (fun K hK => ?_) AllReadyH.nil
              go_simp
              refine (same_k LB (XA.map (fun a => a.add i)) lb lcb (j - i) (xc - i) L1 ((x.take j).drop i) wz.drew (HL1.out.kept gz) (HXZ.out.kept gz)).mono ?_
              rintro e wa ⟨rfl, ga⟩
              have ga := World.grownBy.trans gz ga
              rw [hLX.out]
              first | (refine hK.out _ _ ?_ (fun hHeld => ?_)) | (go_wp2_with fail; refine hK.out _ _ ?_ (fun hHeld => ?_))
              · (try dsimp only); (repeat (first | assumption | exact World.grownBy.refl _ _ | refine grown_drR ?_ | refine grown_alR ?_))
              clear hK K
              refine wpAnyH_take (i := 19) (oi := _) (v := ?_) rfl (by kernel_rfl) (by kernel_rfl) (by kernel_rfl) (fun _ _ _ h => h) (Or.inl ⟨by rfl, ?_⟩) (by assumption) ?_
              rotate_left 1
              · (intro w hSw; (try dsimp only at hSw); go_simp; first | done | with_reducible rfl)
              try go_simp
              refine wpAnyH_take (i := 20) (oi := _) (v := ?_) rfl (by kernel_rfl) (by kernel_rfl) (by kernel_rfl) (fun _ _ _ h => h) (Or.inl ⟨by rfl, ?_⟩) (by assumption) ?_
              rotate_left 1
              · (intro w hSw; (try dsimp only at hSw); go_simp; first | done | with_reducible rfl)
              try go_simp
              refine wpAnyH_take (i := 21) (oi := _) (v := ?_) rfl (by kernel_rfl) (by kernel_rfl) (by kernel_rfl) (fun _ _ _ h => h) (Or.inl ⟨by kernel_rfl, ?_⟩) (by assumption) ?_
              rotate_left 1
              · (intro w hSw; (try dsimp only at hSw); go_simp; first | done | with_reducible rfl)
              try go_simp
              refine wpAnyH_take (i := 22) (oi := _) (v := .slice PB pb pcb) rfl (by kernel_rfl) (by kernel_rfl) (by kernel_rfl) (fun _ _ _ h => h) (Or.inl ⟨by kernel_rfl, ?_⟩) (by assumption) ?_
              · (intro w hSw; (try dsimp only at hSw); go_simp; have q9 := gcellR hSw NE9 c3; clear hSw; go_simp; first | done | with_reducible rfl)
              try go_simp
              refine wpAnyH_take (i := 23) (oi := _) (v := ?_) rfl (by kernel_rfl) (by kernel_rfl) (by kernel_rfl) (fun _ _ _ h => h) (Or.inl ⟨by kernel_rfl, ?_⟩) (by assumption) ?_
              rotate_left 1
              · (intro w hSw; (try dsimp only at hSw); go_simp; first | done | with_reducible rfl)
              try go_simp
              refine wpAnyH_ready (rs := [24]) (by kernel_rfl) (by simp) ?_
              refine AllReadyH.cons (o := _) rfl (fun K hK => ?_) AllReadyH.nil
              go_simp
              refine (same_k PB PA pb pcb pn pc P1 P wa (HP1.out.kept ga) (HPZ.out.kept ga)).mono ?_
              rintro e wb ⟨rfl, gb⟩
              have gb := World.grownBy.trans ga gb
              rw [hPX.out]
              first | (refine hK.out _ _ ?_ (fun hHeld => ?_)) | (go_wp2_with fail; refine hK.out _ _ ?_ (fun hHeld => ?_))
              · (try dsimp only); (repeat (first | assumption | exact World.grownBy.refl _ _ | refine grown_drR ?_ | refine grown_alR ?_))
              clear hK K
              refine wpAnyH_take (i := 25) (oi := _) (v := ?_) rfl (by kernel_rfl) (by kernel_rfl) (by kernel_rfl) (fun _ _ _ h => h) (Or.inl ⟨by rfl, ?_⟩) (by assumption) ?_
              rotate_left 1
              · (intro w hSw; (try dsimp only at hSw); go_simp; first | done | with_reducible rfl)
              try go_simp
              refine wpAnyH_done (by kernel_rfl) ?_ _
              refine NoPanic.normal ?_
              go_simp
              go_simp
              clear hHeld c0 c1 c2 c3
              go_wp2_with fail
              go_ret
              exact ⟨rfl, (G0.out.trans GS.out).trans gb⟩
            · have hPX : Hid (decide (P1 = P) = false) := Lib.hid (by simpa using hPX)
              have gz : wz.grownBy wz.drew none := grown_dr (World.grownBy.refl _ _)
              refine wp_region_noPanic ?_
              refine wp_region_held_drew (S := (fun w' => wz.grownBy w' none)) (by kernel_rfl) ?_ (fun hHeld => ?_)
              · (try dsimp only); (repeat (first | assumption | exact World.grownBy.refl _ _ | refine grown_drR ?_ | refine grown_alR ?_))
              refine wpAnyH_take (i := 0) (oi := _) (v := ?_) rfl (by kernel_rfl) (by kernel_rfl) (by kernel_rfl) (fun _ _ _ h => h) (Or.inl ⟨by rfl, ?_⟩) (by assumption) ?_
              rotate_left 1
              · (intro w hSw; (try dsimp only at hSw); go_simp; first | done | with_reducible rfl)
              try go_simp
              refine wpAnyH_take (i := 1) (oi := _) (v := .int .i64 n1) rfl (by kernel_rfl) (by kernel_rfl) (by kernel_rfl) (fun _ _ _ h => h) (Or.inl ⟨by kernel_rfl, ?_⟩) (by assumption) ?_
              · (intro w hSw; (try dsimp only at hSw); go_simp; have q9 := gcellR hSw NE9 c0; clear hSw; go_simp; first | done | with_reducible rfl)
              try go_simp
              refine wpAnyH_take (i := 2) (oi := _) (v := ?_) rfl (by kernel_rfl) (by kernel_rfl) (by kernel_rfl) (fun _ _ _ h => h) (Or.inl ⟨by rfl, ?_⟩) (by assumption) ?_
              rotate_left 1
              · (intro w hSw; (try dsimp only at hSw); go_simp; first | done | with_reducible rfl)
              try go_simp
              refine wpAnyH_take (i := 3) (oi := _) (v := ?_) rfl (by kernel_rfl) (by kernel_rfl) (by kernel_rfl) (fun _ _ _ h => h) (Or.inl ⟨by rfl, ?_⟩) (by assumption) ?_
              rotate_left 1
              · (intro w hSw; (try dsimp only at hSw); go_simp; first | done | with_reducible rfl)
              try go_simp
              refine wpAnyH_take (i := 4) (oi := _) (v := ?_) rfl (by kernel_rfl) (by kernel_rfl) (by kernel_rfl) (fun _ _ _ h => h) (Or.inl ⟨by rfl, ?_⟩) (by assumption) ?_
              rotate_left 1
              · (intro w hSw; (try dsimp only at hSw); go_simp; first | done | with_reducible rfl)
              try go_simp
              refine wpAnyH_take (i := 5) (oi := _) (v := ?_) rfl (by kernel_rfl) (by kernel_rfl) (by kernel_rfl) (fun _ _ _ h => h) (Or.inl ⟨by rfl, ?_⟩) (by assumption) ?_
              rotate_left 1
              · (intro w hSw; (try dsimp only at hSw); go_simp; first | done | with_reducible rfl)
              try go_simp
              refine wpAnyH_take (i := 6) (oi := _) (v := ?_) rfl (by kernel_rfl) (by kernel_rfl) (by kernel_rfl) (fun _ _ _ h => h) (Or.inl ⟨by kernel_rfl, ?_⟩) (by assumption) ?_
              rotate_left 1
              · (intro w hSw; (try dsimp only at hSw); go_simp; first | done | with_reducible rfl)
              try go_simp
              refine wpAnyH_take (i := 7) (oi := _) (v := .int .i64 i1) rfl (by kernel_rfl) (by kernel_rfl) (by kernel_rfl) (fun _ _ _ h => h) (Or.inl ⟨by kernel_rfl, ?_⟩) (by assumption) ?_
              · (intro w hSw; (try dsimp only at hSw); go_simp; have q9 := gcellR hSw NE9 c1; clear hSw; go_simp; first | done | with_reducible rfl)
              try go_simp
              refine wpAnyH_take (i := 8) (oi := _) (v := ?_) rfl (by kernel_rfl) (by kernel_rfl) (by kernel_rfl) (fun _ _ _ h => h) (Or.inl ⟨by kernel_rfl, ?_⟩) (by assumption) ?_
              rotate_left 1
              · (intro w hSw; (try dsimp only at hSw); go_simp; first | done | with_reducible rfl)
              try go_simp
              refine wpAnyH_take (i := 9) (oi := _) (v := ?_) rfl (by kernel_rfl) (by kernel_rfl) (by kernel_rfl) (fun _ _ _ h => h) (Or.inl ⟨by kernel_rfl, ?_⟩) (by assumption) ?_
              rotate_left 1
              · (intro w hSw; (try dsimp only at hSw); go_simp; first | done | with_reducible rfl)
              try go_simp
              refine wpAnyH_take (i := 10) (oi := _) (v := ?_) rfl (by kernel_rfl) (by kernel_rfl) (by kernel_rfl) (fun _ _ _ h => h) (Or.inl ⟨by rfl, ?_⟩) (by assumption) ?_
              rotate_left 1
              · (intro w hSw; (try dsimp only at hSw); go_simp; first | done | with_reducible rfl)
              try go_simp
              refine wpAnyH_take (i := 11) (oi := _) (v := ?_) rfl (by kernel_rfl) (by kernel_rfl) (by kernel_rfl) (fun _ _ _ h => h) (Or.inl ⟨by rfl, ?_⟩) (by assumption) ?_
              rotate_left 1
              · (intro w hSw; (try dsimp only at hSw); go_simp; first | done | with_reducible rfl)
              try go_simp
              refine wpAnyH_take (i := 12) (oi := _) (v := ?_) rfl (by kernel_rfl) (by kernel_rfl) (by kernel_rfl) (fun _ _ _ h => h) (Or.inl ⟨by kernel_rfl, ?_⟩) (by assumption) ?_
              rotate_left 1
              · (intro w hSw; (try dsimp only at hSw); go_simp; first | done | with_reducible rfl)
              try go_simp
              refine wpAnyH_take (i := 13) (oi := _) (v := .slice LB lb lcb) rfl (by kernel_rfl) (by kernel_rfl) (by kernel_rfl) (fun _ _ _ h => h) (Or.inl ⟨by kernel_rfl, ?_⟩) (by assumption) ?_
              · (intro w hSw; (try dsimp only at hSw); go_simp; have q9 := gcellR hSw NE9 c2; clear hSw; go_simp; first | done | with_reducible rfl)
              try go_simp
              refine wpAnyH_take (i := 14) (oi := _) (v := ?_) rfl (by kernel_rfl) (by kernel_rfl) (by kernel_rfl) (fun _ _ _ h => h) (Or.inl ⟨by kernel_rfl, ?_⟩) (by assumption) ?_
              rotate_left 1
              · (intro w hSw; (try dsimp only at hSw); go_simp; first | done | with_reducible rfl)
              try go_simp
              refine wpAnyH_take (i := 15) (oi := _) (v := ?_) rfl (by kernel_rfl) (by kernel_rfl) (by kernel_rfl) (fun _ _ _ h => h) (Or.inl ⟨by kernel_rfl, ?_⟩) (by assumption) ?_
              rotate_left 1
              · (intro w hSw; (try dsimp only at hSw); go_simp; first | done | with_reducible rfl)
              try go_simp
              refine wpAnyH_take (i := 16) (oi := _) (v := ?_) rfl (by kernel_rfl) (by kernel_rfl) (by kernel_rfl) (fun _ _ _ h => h) (Or.inl ⟨by kernel_rfl, ?_⟩) (by assumption) ?_
              rotate_left 1
              · (intro w hSw; (try dsimp only at hSw); go_simp; first | done | with_reducible rfl)
              try go_simp
              refine wpAnyH_take (i := 17) (oi := _) (v := ?_) rfl (by kernel_rfl) (by kernel_rfl) (by kernel_rfl) (fun _ _ _ h => h) (Or.inl ⟨by kernel_rfl, ?_⟩) (by assumption) ?_
              rotate_left 1
              · (intro w hSw; (try dsimp only at hSw); go_simp; first | done | with_reducible rfl)
              try go_simp
              refine wpAnyH_ready (rs := [18]) (by kernel_rfl) (by simp) ?_
              refine AllReadyH.cons (o := _) rfl (fun K hK => ?_) AllReadyH.nil
              go_simp
              refine (same_k LB (XA.map (fun a => a.add i)) lb lcb (j - i) (xc - i) L1 ((x.take j).drop i) wz.drew (HL1.out.kept gz) (HXZ.out.kept gz)).mono ?_
              rintro e wa ⟨rfl, ga⟩
              have ga := World.grownBy.trans gz ga
              rw [hLX.out]
              first | (refine hK.out _ _ ?_ (fun hHeld => ?_)) | (go_wp2_with fail; refine hK.out _ _ ?_ (fun hHeld => ?_))
              · (try dsimp only); (repeat (first | assumption | exact World.grownBy.refl _ _ | refine grown_drR ?_ | refine grown_alR ?_))
              clear hK K
              refine wpAnyH_take (i := 19) (oi := _) (v := ?_) rfl (by kernel_rfl) (by kernel_rfl) (by kernel_rfl) (fun _ _ _ h => h) (Or.inl ⟨by rfl, ?_⟩) (by assumption) ?_
              rotate_left 1
              · (intro w hSw; (try dsimp only at hSw); go_simp; first | done | with_reducible rfl)
              try go_simp
              refine wpAnyH_take (i := 20) (oi := _) (v := ?_) rfl (by kernel_rfl) (by kernel_rfl) (by kernel_rfl) (fun _ _ _ h => h) (Or.inl ⟨by rfl, ?_⟩) (by assumption) ?_
              rotate_left 1
              · (intro w hSw; (try dsimp only at hSw); go_simp; first | done | with_reducible rfl)
              try go_simp
              refine wpAnyH_take (i := 21) (oi := _) (v := ?_) rfl (by kernel_rfl) (by kernel_rfl) (by kernel_rfl) (fun _ _ _ h => h) (Or.inl ⟨by kernel_rfl, ?_⟩) (by assumption) ?_
              rotate_left 1
              · (intro w hSw; (try dsimp only at hSw); go_simp; first | done | with_reducible rfl)
              try go_simp
              refine wpAnyH_take (i := 22) (oi := _) (v := .slice PB pb pcb) rfl (by kernel_rfl) (by kernel_rfl) (by kernel_rfl) (fun _ _ _ h => h) (Or.inl ⟨by kernel_rfl, ?_⟩) (by assumption) ?_
              · (intro w hSw; (try dsimp only at hSw); go_simp; have q9 := gcellR hSw NE9 c3; clear hSw; go_simp; first | done | with_reducible rfl)
              try go_simp
              refine wpAnyH_take (i := 23) (oi := _) (v := ?_) rfl (by kernel_rfl) (by kernel_rfl) (by kernel_rfl) (fun _ _ _ h => h) (Or.inl ⟨by kernel_rfl, ?_⟩) (by assumption) ?_
              rotate_left 1
              · (intro w hSw; (try dsimp only at hSw); go_simp; first | done | with_reducible rfl)
              try go_simp
              refine wpAnyH_ready (rs := [24]) (by kernel_rfl) (by simp) ?_
              refine AllReadyH.cons (o := _) rfl (fun K hK => ?_) AllReadyH.nil
              go_simp
              refine (same_k PB PA pb pcb pn pc P1 P wa (HP1.out.kept ga) (HPZ.out.kept ga)).mono ?_
              rintro e wb ⟨rfl, gb⟩
              have gb := World.grownBy.trans ga gb
              rw [hPX.out]
              first | (refine hK.out _ _ ?_ (fun hHeld => ?_)) | (go_wp2_with fail; refine hK.out _ _ ?_ (fun hHeld => ?_))
              · (try dsimp only); (repeat (first | assumption | exact World.grownBy.refl _ _ | refine grown_drR ?_ | refine grown_alR ?_))
              clear hK K
              refine wpAnyH_take (i := 25) (oi := _) (v := ?_) rfl (by kernel_rfl) (by kernel_rfl) (by kernel_rfl) (fun _ _ _ h => h) (Or.inl ⟨by rfl, ?_⟩) (by assumption) ?_
              rotate_left 1
              · (intro w hSw; (try dsimp only at hSw); go_simp; first | done | with_reducible rfl)
              try go_simp
              refine wpAnyH_done (by kernel_rfl) ?_ _
              refine NoPanic.normal ?_
              go_simp
              go_simp
              clear hHeld c0 c1 c2 c3
              have c0 := (EQ.out.grown gb (by simp)).c0
              have c1 := (EQ.out.grown gb (by simp)).c1
              have c2 := (EQ.out.grown gb (by simp)).c2
              have c3 := (EQ.out.grown gb (by simp)).c3
              go_wp2_with fail
              refine (led_g n1 i1 Hn1.out Hi1.out LB lb lcb L1 PB pb pcb P1 (fun s hs => Nat.le_trans (Hs1.out s hs) (by decide)) (by omega) wb (HL1.out.kept gb) (HP1.out.kept gb)).mono ?_
              rintro e w11 ⟨rfl, g11⟩
              clear c0 c1 c2 c3
              have GY := World.grownBy.trans gb g11
              have GT := Lib.hid (((G0.out.trans GS.out).trans gb).trans g11)
              have c0 := (EQ.out.grown GY (by simp)).c0
              have c1 := (EQ.out.grown GY (by simp)).c1
              have c2 := (EQ.out.grown GY (by simp)).c2
              have c3 := (EQ.out.grown GY (by simp)).c3
              have HVL := Lib.hid (ver_led R n1 i1 L1 P1)
              generalize ledS n1 i1 L1 P1 = Ls at *
              generalize fitsB n1 i1 L1 P1 = Fb at *
              clear g11
              cases Fb with
              | false =>
                have HVL : Hid (verB R n1 i1 L1 P1 = false) := Lib.hid (by rw [HVL.out]; rfl)
                go_wp2_with fail
                refine (verify_g R n1 i1 Hn1.out Hi1.out LB lb lcb L1 PB pb pcb P1 (by omega) (by omega) w11 (HL1.out.kept GY) (HP1.out.kept GY)).mono ?_
                rintro e w12 ⟨rfl, g12⟩
                rw [HVL.out]
                go_wp2_with fail
                go_ret
                exact ⟨rfl, GT.out.trans g12⟩
              | true =>
                by_cases hE : Ls = R
                · subst hE
                  go_wp2_with fail
                  go_ret
                  exact ⟨rfl, GT.out⟩
                · have hEb : (Ls == R) = false := by simpa using hE
                  have HVL : Hid (verB R n1 i1 L1 P1 = false) := Lib.hid (by rw [HVL.out, Bool.true_and, beq_eq_false_iff_ne]; exact fun h => hE h.symm)
                  clear hE
                  go_wp2_with fail
                  refine (verify_g R n1 i1 Hn1.out Hi1.out LB lb lcb L1 PB pb pcb P1 (by omega) (by omega) w11 (HL1.out.kept GY) (HP1.out.kept GY)).mono ?_
                  rintro e w12 ⟨rfl, g12⟩
                  rw [HVL.out]
                  go_wp2_with fail
                  go_ret
                  exact ⟨rfl, GT.out.trans g12⟩
          · have hLX : Hid (decide (L1 = ((x.take j).drop i)) = false) := Lib.hid (by simpa using hLX)
            have gz : wz.grownBy wz.drew none := grown_dr (World.grownBy.refl _ _)
            refine wp_region_noPanic ?_
            refine wp_region_held_drew (S := (fun w' => wz.grownBy w' none)) (by kernel_rfl) ?_ (fun hHeld => ?_)
            · (try dsimp only); (repeat (first | assumption | exact World.grownBy.refl _ _ | refine grown_drR ?_ | refine grown_alR ?_))
            refine wpAnyH_take (i := 0) (oi := _) (v := ?_) rfl (by kernel_rfl) (by kernel_rfl) (by kernel_rfl) (fun _ _ _ h => h) (Or.inl ⟨by rfl, ?_⟩) (by assumption) ?_
            rotate_left 1
            · (intro w hSw; (try dsimp only at hSw); go_simp; first | done | with_reducible rfl)
            try go_simp
            refine wpAnyH_take (i := 1) (oi := _) (v := .int .i64 n1) rfl (by kernel_rfl) (by kernel_rfl) (by kernel_rfl) (fun _ _ _ h => h) (Or.inl ⟨by kernel_rfl, ?_⟩) (by assumption) ?_
            · (intro w hSw; (try dsimp only at hSw); go_simp; have q9 := gcellR hSw NE9 c0; clear hSw; go_simp; first | done | with_reducible rfl)
            try go_simp
            refine wpAnyH_take (i := 2) (oi := _) (v := ?_) rfl (by kernel_rfl) (by kernel_rfl) (by kernel_rfl) (fun _ _ _ h => h) (Or.inl ⟨by rfl, ?_⟩) (by assumption) ?_
            rotate_left 1
            · (intro w hSw; (try dsimp only at hSw); go_simp; first | done | with_reducible rfl)
            try go_simp
            refine wpAnyH_take (i := 3) (oi := _) (v := ?_) rfl (by kernel_rfl) (by kernel_rfl) (by kernel_rfl) (fun _ _ _ h => h) (Or.inl ⟨by rfl, ?_⟩) (by assumption) ?_
            rotate_left 1
            · (intro w hSw; (try dsimp only at hSw); go_simp; first | done | with_reducible rfl)
            try go_simp
            refine wpAnyH_take (i := 4) (oi := _) (v := ?_) rfl (by kernel_rfl) (by kernel_rfl) (by kernel_rfl) (fun _ _ _ h => h) (Or.inl ⟨by rfl, ?_⟩) (by assumption) ?_
            rotate_left 1
            · (intro w hSw; (try dsimp only at hSw); go_simp; first | done | with_reducible rfl)
            try go_simp
            refine wpAnyH_take (i := 5) (oi := _) (v := ?_) rfl (by kernel_rfl) (by kernel_rfl) (by kernel_rfl) (fun _ _ _ h => h) (Or.inl ⟨by rfl, ?_⟩) (by assumption) ?_
            rotate_left 1
            · (intro w hSw; (try dsimp only at hSw); go_simp; first | done | with_reducible rfl)
            try go_simp
            refine wpAnyH_take (i := 6) (oi := _) (v := ?_) rfl (by kernel_rfl) (by kernel_rfl) (by kernel_rfl) (fun _ _ _ h => h) (Or.inl ⟨by kernel_rfl, ?_⟩) (by assumption) ?_
            rotate_left 1
            · (intro w hSw; (try dsimp only at hSw); go_simp; first | done | with_reducible rfl)
            try go_simp
            refine wpAnyH_take (i := 7) (oi := _) (v := .int .i64 i1) rfl (by kernel_rfl) (by kernel_rfl) (by kernel_rfl) (fun _ _ _ h => h) (Or.inl ⟨by kernel_rfl, ?_⟩) (by assumption) ?_
            · (intro w hSw; (try dsimp only at hSw); go_simp; have q9 := gcellR hSw NE9 c1; clear hSw; go_simp; first | done | with_reducible rfl)
            try go_simp
            refine wpAnyH_take (i := 8) (oi := _) (v := ?_) rfl (by kernel_rfl) (by kernel_rfl) (by kernel_rfl) (fun _ _ _ h => h) (Or.inl ⟨by kernel_rfl, ?_⟩) (by assumption) ?_
            rotate_left 1
            · (intro w hSw; (try dsimp only at hSw); go_simp; first | done | with_reducible rfl)
            try go_simp
            refine wpAnyH_take (i := 9) (oi := _) (v := ?_) rfl (by kernel_rfl) (by kernel_rfl) (by kernel_rfl) (fun _ _ _ h => h) (Or.inl ⟨by kernel_rfl, ?_⟩) (by assumption) ?_
            rotate_left 1
            · (intro w hSw; (try dsimp only at hSw); go_simp; first | done | with_reducible rfl)
            try go_simp
            refine wpAnyH_take (i := 10) (oi := _) (v := ?_) rfl (by kernel_rfl) (by kernel_rfl) (by kernel_rfl) (fun _ _ _ h => h) (Or.inl ⟨by rfl, ?_⟩) (by assumption) ?_
            rotate_left 1
            · (intro w hSw; (try dsimp only at hSw); go_simp; first | done | with_reducible rfl)
            try go_simp
            refine wpAnyH_take (i := 11) (oi := _) (v := ?_) rfl (by kernel_rfl) (by kernel_rfl) (by kernel_rfl) (fun _ _ _ h => h) (Or.inl ⟨by rfl, ?_⟩) (by assumption) ?_
            rotate_left 1
            · (intro w hSw; (try dsimp only at hSw); go_simp; first | done | with_reducible rfl)
            try go_simp
            refine wpAnyH_take (i := 12) (oi := _) (v := ?_) rfl (by kernel_rfl) (by kernel_rfl) (by kernel_rfl) (fun _ _ _ h => h) (Or.inl ⟨by kernel_rfl, ?_⟩) (by assumption) ?_
            rotate_left 1
            · (intro w hSw; (try dsimp only at hSw); go_simp; first | done | with_reducible rfl)
            try go_simp
            refine wpAnyH_take (i := 13) (oi := _) (v := .slice LB lb lcb) rfl (by kernel_rfl) (by kernel_rfl) (by kernel_rfl) (fun _ _ _ h => h) (Or.inl ⟨by kernel_rfl, ?_⟩) (by assumption) ?_
            · (intro w hSw; (try dsimp only at hSw); go_simp; have q9 := gcellR hSw NE9 c2; clear hSw; go_simp; first | done | with_reducible rfl)
            try go_simp
            refine wpAnyH_take (i := 14) (oi := _) (v := ?_) rfl (by kernel_rfl) (by kernel_rfl) (by kernel_rfl) (fun _ _ _ h => h) (Or.inl ⟨by kernel_rfl, ?_⟩) (by assumption) ?_
            rotate_left 1
            · (intro w hSw; (try dsimp only at hSw); go_simp; first | done | with_reducible rfl)
            try go_simp
            refine wpAnyH_take (i := 15) (oi := _) (v := ?_) rfl (by kernel_rfl) (by kernel_rfl) (by kernel_rfl) (fun _ _ _ h => h) (Or.inl ⟨by kernel_rfl, ?_⟩) (by assumption) ?_
            rotate_left 1
            · (intro w hSw; (try dsimp only at hSw); go_simp; first | done | with_reducible rfl)
            try go_simp
            refine wpAnyH_take (i := 16) (oi := _) (v := ?_) rfl (by kernel_rfl) (by kernel_rfl) (by kernel_rfl) (fun _ _ _ h => h) (Or.inl ⟨by kernel_rfl, ?_⟩) (by assumption) ?_
            rotate_left 1
            · (intro w hSw; (try dsimp only at hSw); go_simp; first | done | with_reducible rfl)
            try go_simp
            refine wpAnyH_take (i := 17) (oi := _) (v := ?_) rfl (by kernel_rfl) (by kernel_rfl) (by kernel_rfl) (fun _ _ _ h => h) (Or.inl ⟨by kernel_rfl, ?_⟩) (by assumption) ?_
            rotate_left 1
            · (intro w hSw; (try dsimp only at hSw); go_simp; first | done | with_reducible rfl)
            try go_simp
            refine wpAnyH_ready (rs := [18]) (by kernel_rfl) (by simp) ?_
            refine AllReadyH.cons (o := _) rfl (fun K hK => ?_) AllReadyH.nil
            go_simp
            refine (same_k LB (XA.map (fun a => a.add i)) lb lcb (j - i) (xc - i) L1 ((x.take j).drop i) wz.drew (HL1.out.kept gz) (HXZ.out.kept gz)).mono ?_
            rintro e wa ⟨rfl, ga⟩
            have ga := World.grownBy.trans gz ga
            rw [hLX.out]
            first | (refine hK.out _ _ ?_ (fun hHeld => ?_)) | (go_wp2_with fail; refine hK.out _ _ ?_ (fun hHeld => ?_))
            · (try dsimp only); (repeat (first | assumption | exact World.grownBy.refl _ _ | refine grown_drR ?_ | refine grown_alR ?_))
            clear hK K
            refine wpAnyH_take (i := 19) (oi := _) (v := ?_) rfl (by kernel_rfl) (by kernel_rfl) (by kernel_rfl) (fun _ _ _ h => h) (Or.inl ⟨by rfl, ?_⟩) (by assumption) ?_
            rotate_left 1
            · (intro w hSw; (try dsimp only at hSw); go_simp; first | done | with_reducible rfl)
            try go_simp
            refine wpAnyH_take (i := 20) (oi := _) (v := ?_) rfl (by kernel_rfl) (by kernel_rfl) (by kernel_rfl) (fun _ _ _ h => h) (Or.inl ⟨by rfl, ?_⟩) (by assumption) ?_
            rotate_left 1
            · (intro w hSw; (try dsimp only at hSw); go_simp; first | done | with_reducible rfl)
            try go_simp
            refine wpAnyH_take (i := 21) (oi := _) (v := undef) rfl (by kernel_rfl) (by kernel_rfl) (by kernel_rfl) (fun _ _ _ h => h) (Or.inr ⟨by kernel_rfl, rfl⟩) (by assumption) ?_
            try go_simp
            refine wpAnyH_take (i := 22) (oi := _) (v := undef) rfl (by kernel_rfl) (by kernel_rfl) (by kernel_rfl) (fun _ _ _ h => h) (Or.inr ⟨by kernel_rfl, rfl⟩) (by assumption) ?_
            try go_simp
            refine wpAnyH_take (i := 23) (oi := _) (v := undef) rfl (by kernel_rfl) (by kernel_rfl) (by kernel_rfl) (fun _ _ _ h => h) (Or.inr ⟨by kernel_rfl, rfl⟩) (by assumption) ?_
            try go_simp
            refine wpAnyH_take (i := 24) (oi := _) (v := undef) rfl (by kernel_rfl) (by kernel_rfl) (by kernel_rfl) (fun _ _ _ h => h) (Or.inr ⟨by kernel_rfl, rfl⟩) (by assumption) ?_
            try go_simp
            refine wpAnyH_take (i := 25) (oi := _) (v := ?_) rfl (by kernel_rfl) (by kernel_rfl) (by kernel_rfl) (fun _ _ _ h => h) (Or.inl ⟨by rfl, ?_⟩) (by assumption) ?_
            rotate_left 1
            · (intro w hSw; (try dsimp only at hSw); go_simp; first | done | with_reducible rfl)
            try go_simp
            refine wpAnyH_done (by kernel_rfl) ?_ _
            refine NoPanic.normal ?_
            go_simp
            go_simp
            clear hHeld c0 c1 c2 c3
            have c0 := (EQ.out.grown ga (by simp)).c0
            have c1 := (EQ.out.grown ga (by simp)).c1
            have c2 := (EQ.out.grown ga (by simp)).c2
            have c3 := (EQ.out.grown ga (by simp)).c3
            go_wp2_with fail
            refine (led_g n1 i1 Hn1.out Hi1.out LB lb lcb L1 PB pb pcb P1 (fun s hs => Nat.le_trans (Hs1.out s hs) (by decide)) (by omega) wa (HL1.out.kept ga) (HP1.out.kept ga)).mono ?_
            rintro e w11 ⟨rfl, g11⟩
            clear c0 c1 c2 c3
            have GY := World.grownBy.trans ga g11
            have GT := Lib.hid (((G0.out.trans GS.out).trans ga).trans g11)
            have c0 := (EQ.out.grown GY (by simp)).c0
            have c1 := (EQ.out.grown GY (by simp)).c1
            have c2 := (EQ.out.grown GY (by simp)).c2
            have c3 := (EQ.out.grown GY (by simp)).c3
            have HVL := Lib.hid (ver_led R n1 i1 L1 P1)
            generalize ledS n1 i1 L1 P1 = Ls at *
            generalize fitsB n1 i1 L1 P1 = Fb at *
            clear g11
            cases Fb with
            | false =>
              have HVL : Hid (verB R n1 i1 L1 P1 = false) := Lib.hid (by rw [HVL.out]; rfl)
              go_wp2_with fail
              refine (verify_g R n1 i1 Hn1.out Hi1.out LB lb lcb L1 PB pb pcb P1 (by omega) (by omega) w11 (HL1.out.kept GY) (HP1.out.kept GY)).mono ?_
              rintro e w12 ⟨rfl, g12⟩
              rw [HVL.out]
              go_wp2_with fail
              go_ret
              exact ⟨rfl, GT.out.trans g12⟩
            | true =>
              by_cases hE : Ls = R
              · subst hE
                go_wp2_with fail
                go_ret
                exact ⟨rfl, GT.out⟩
              · have hEb : (Ls == R) = false := by simpa using hE
                have HVL : Hid (verB R n1 i1 L1 P1 = false) := Lib.hid (by rw [HVL.out, Bool.true_and, beq_eq_false_iff_ne]; exact fun h => hE h.symm)
                clear hE
                go_wp2_with fail
                refine (verify_g R n1 i1 Hn1.out Hi1.out LB lb lcb L1 PB pb pcb P1 (by omega) (by omega) w11 (HL1.out.kept GY) (HP1.out.kept GY)).mono ?_
                rintro e w12 ⟨rfl, g12⟩
                rw [HVL.out]
                go_wp2_with fail
                go_ret
                exact ⟨rfl, GT.out.trans g12⟩
        · have bI : (i1 == (i : Int)) = false := by rw [beq_eq_false_iff_ne]; exact hI
          clear hN hI
          refine wp_region_noPanic ?_
          refine wp_region_held_drew (S := (fun w' => wz.grownBy w' none)) (by kernel_rfl) ?_ (fun hHeld => ?_)
          · (try dsimp only); (repeat (first | assumption | exact World.grownBy.refl _ _ | refine grown_drR ?_ | refine grown_alR ?_))
          refine wpAnyH_take (i := 0) (oi := _) (v := ?_) rfl (by kernel_rfl) (by kernel_rfl) (by kernel_rfl) (fun _ _ _ h => h) (Or.inl ⟨by rfl, ?_⟩) (by assumption) ?_
          rotate_left 1
          · (intro w hSw; (try dsimp only at hSw); go_simp; first | done | with_reducible rfl)
          try go_simp
          refine wpAnyH_take (i := 1) (oi := _) (v := .int .i64 n1) rfl (by kernel_rfl) (by kernel_rfl) (by kernel_rfl) (fun _ _ _ h => h) (Or.inl ⟨by kernel_rfl, ?_⟩) (by assumption) ?_
          · (intro w hSw; (try dsimp only at hSw); go_simp; have q9 := gcellR hSw NE9 c0; clear hSw; go_simp; first | done | with_reducible rfl)
          try go_simp
          refine wpAnyH_take (i := 2) (oi := _) (v := ?_) rfl (by kernel_rfl) (by kernel_rfl) (by kernel_rfl) (fun _ _ _ h => h) (Or.inl ⟨by rfl, ?_⟩) (by assumption) ?_
          rotate_left 1
          · (intro w hSw; (try dsimp only at hSw); go_simp; first | done | with_reducible rfl)
          try go_simp
          refine wpAnyH_take (i := 3) (oi := _) (v := ?_) rfl (by kernel_rfl) (by kernel_rfl) (by kernel_rfl) (fun _ _ _ h => h) (Or.inl ⟨by rfl, ?_⟩) (by assumption) ?_
          rotate_left 1
          · (intro w hSw; (try dsimp only at hSw); go_simp; first | done | with_reducible rfl)
          try go_simp
          refine wpAnyH_take (i := 4) (oi := _) (v := ?_) rfl (by kernel_rfl) (by kernel_rfl) (by kernel_rfl) (fun _ _ _ h => h) (Or.inl ⟨by rfl, ?_⟩) (by assumption) ?_
          rotate_left 1
          · (intro w hSw; (try dsimp only at hSw); go_simp; first | done | with_reducible rfl)
          try go_simp
          refine wpAnyH_take (i := 5) (oi := _) (v := ?_) rfl (by kernel_rfl) (by kernel_rfl) (by kernel_rfl) (fun _ _ _ h => h) (Or.inl ⟨by rfl, ?_⟩) (by assumption) ?_
          rotate_left 1
          · (intro w hSw; (try dsimp only at hSw); go_simp; first | done | with_reducible rfl)
          try go_simp
          refine wpAnyH_take (i := 6) (oi := _) (v := ?_) rfl (by kernel_rfl) (by kernel_rfl) (by kernel_rfl) (fun _ _ _ h => h) (Or.inl ⟨by kernel_rfl, ?_⟩) (by assumption) ?_
          rotate_left 1
          · (intro w hSw; (try dsimp only at hSw); go_simp; first | done | with_reducible rfl)
          try go_simp
          refine wpAnyH_take (i := 7) (oi := _) (v := .int .i64 i1) rfl (by kernel_rfl) (by kernel_rfl) (by kernel_rfl) (fun _ _ _ h => h) (Or.inl ⟨by kernel_rfl, ?_⟩) (by assumption) ?_
          · (intro w hSw; (try dsimp only at hSw); go_simp; have q9 := gcellR hSw NE9 c1; clear hSw; go_simp; first | done | with_reducible rfl)
          try go_simp
          refine wpAnyH_take (i := 8) (oi := _) (v := ?_) rfl (by kernel_rfl) (by kernel_rfl) (by kernel_rfl) (fun _ _ _ h => h) (Or.inl ⟨by kernel_rfl, ?_⟩) (by assumption) ?_
          rotate_left 1
          · (intro w hSw; (try dsimp only at hSw); go_simp; first | done | with_reducible rfl)
          try go_simp
          refine wpAnyH_take (i := 9) (oi := _) (v := ?_) rfl (by kernel_rfl) (by kernel_rfl) (by kernel_rfl) (fun _ _ _ h => h) (Or.inl ⟨by kernel_rfl, ?_⟩) (by assumption) ?_
          rotate_left 1
          · (intro w hSw; (try dsimp only at hSw); go_simp; first | done | with_reducible rfl)
          try go_simp
          refine wpAnyH_take (i := 10) (oi := _) (v := ?_) rfl (by kernel_rfl) (by kernel_rfl) (by kernel_rfl) (fun _ _ _ h => h) (Or.inl ⟨by rfl, ?_⟩) (by assumption) ?_
          rotate_left 1
          · (intro w hSw; (try dsimp only at hSw); go_simp; first | done | with_reducible rfl)
          try go_simp
          refine wpAnyH_take (i := 11) (oi := _) (v := ?_) rfl (by kernel_rfl) (by kernel_rfl) (by kernel_rfl) (fun _ _ _ h => h) (Or.inl ⟨by rfl, ?_⟩) (by assumption) ?_
          rotate_left 1
          · (intro w hSw; (try dsimp only at hSw); go_simp; first | done | with_reducible rfl)
          try go_simp
          refine wpAnyH_take (i := 12) (oi := _) (v := undef) rfl (by kernel_rfl) (by kernel_rfl) (by kernel_rfl) (fun _ _ _ h => h) (Or.inr ⟨by kernel_rfl, rfl⟩) (by assumption) ?_
          try go_simp
          refine wpAnyH_take (i := 13) (oi := _) (v := undef) rfl (by kernel_rfl) (by kernel_rfl) (by kernel_rfl) (fun _ _ _ h => h) (Or.inr ⟨by kernel_rfl, rfl⟩) (by assumption) ?_
          try go_simp
          refine wpAnyH_take (i := 14) (oi := _) (v := undef) rfl (by kernel_rfl) (by kernel_rfl) (by kernel_rfl) (fun _ _ _ h => h) (Or.inr ⟨by kernel_rfl, rfl⟩) (by assumption) ?_
          try go_simp
          refine wpAnyH_take (i := 15) (oi := _) (v := undef) rfl (by kernel_rfl) (by kernel_rfl) (by kernel_rfl) (fun _ _ _ h => h) (Or.inr ⟨by kernel_rfl, rfl⟩) (by assumption) ?_
          try go_simp
          refine wpAnyH_take (i := 16) (oi := _) (v := undef) rfl (by kernel_rfl) (by kernel_rfl) (by kernel_rfl) (fun _ _ _ h => h) (Or.inr ⟨by kernel_rfl, rfl⟩) (by assumption) ?_
          try go_simp
          refine wpAnyH_take (i := 17) (oi := _) (v := undef) rfl (by kernel_rfl) (by kernel_rfl) (by kernel_rfl) (fun _ _ _ h => h) (Or.inr ⟨by kernel_rfl, rfl⟩) (by assumption) ?_
          try go_simp
          refine wpAnyH_take (i := 18) (oi := _) (v := undef) rfl (by kernel_rfl) (by kernel_rfl) (by kernel_rfl) (fun _ _ _ h => h) (Or.inr ⟨by kernel_rfl, rfl⟩) (by assumption) ?_
          try go_simp
          refine wpAnyH_take (i := 19) (oi := _) (v := ?_) rfl (by kernel_rfl) (by kernel_rfl) (by kernel_rfl) (fun _ _ _ h => h) (Or.inl ⟨by rfl, ?_⟩) (by assumption) ?_
          rotate_left 1
          · (intro w hSw; (try dsimp only at hSw); go_simp; first | done | with_reducible rfl)
          try go_simp
          refine wpAnyH_take (i := 20) (oi := _) (v := ?_) rfl (by kernel_rfl) (by kernel_rfl) (by kernel_rfl) (fun _ _ _ h => h) (Or.inl ⟨by rfl, ?_⟩) (by assumption) ?_
          rotate_left 1
          · (intro w hSw; (try dsimp only at hSw); go_simp; first | done | with_reducible rfl)
          try go_simp
          refine wpAnyH_take (i := 21) (oi := _) (v := undef) rfl (by kernel_rfl) (by kernel_rfl) (by kernel_rfl) (fun _ _ _ h => h) (Or.inr ⟨by kernel_rfl, rfl⟩) (by assumption) ?_
          try go_simp
          refine wpAnyH_take (i := 22) (oi := _) (v := undef) rfl (by kernel_rfl) (by kernel_rfl) (by kernel_rfl) (fun _ _ _ h => h) (Or.inr ⟨by kernel_rfl, rfl⟩) (by assumption) ?_
          try go_simp
          refine wpAnyH_take (i := 23) (oi := _) (v := undef) rfl (by kernel_rfl) (by kernel_rfl) (by kernel_rfl) (fun _ _ _ h => h) (Or.inr ⟨by kernel_rfl, rfl⟩) (by assumption) ?_
          try go_simp
          refine wpAnyH_take (i := 24) (oi := _) (v := undef) rfl (by kernel_rfl) (by kernel_rfl) (by kernel_rfl) (fun _ _ _ h => h) (Or.inr ⟨by kernel_rfl, rfl⟩) (by assumption) ?_
          try go_simp
          refine wpAnyH_take (i := 25) (oi := _) (v := ?_) rfl (by kernel_rfl) (by kernel_rfl) (by kernel_rfl) (fun _ _ _ h => h) (Or.inl ⟨by rfl, ?_⟩) (by assumption) ?_
          rotate_left 1
          · (intro w hSw; (try dsimp only at hSw); go_simp; first | done | with_reducible rfl)
          try go_simp
          refine wpAnyH_done (by kernel_rfl) ?_ _
          refine NoPanic.normal ?_
          go_simp
          go_simp
          clear hHeld c0 c1 c2 c3
          have gz : wz.grownBy wz.drew none := grown_dr (World.grownBy.refl _ _)
          have c0 := (EQ.out.grown gz (by simp)).c0
          have c1 := (EQ.out.grown gz (by simp)).c1
          have c2 := (EQ.out.grown gz (by simp)).c2
          have c3 := (EQ.out.grown gz (by simp)).c3
          go_wp2_with fail
          refine (led_g n1 i1 Hn1.out Hi1.out LB lb lcb L1 PB pb pcb P1 (fun s hs => Nat.le_trans (Hs1.out s hs) (by decide)) (by omega) wz.drew (HL1.out.kept gz) (HP1.out.kept gz)).mono ?_
          rintro e w11 ⟨rfl, g11⟩
          clear c0 c1 c2 c3
          have GY := World.grownBy.trans gz g11
          have GT := Lib.hid (((G0.out.trans GS.out).trans gz).trans g11)
          have c0 := (EQ.out.grown GY (by simp)).c0
          have c1 := (EQ.out.grown GY (by simp)).c1
          have c2 := (EQ.out.grown GY (by simp)).c2
          have c3 := (EQ.out.grown GY (by simp)).c3
          have HVL := Lib.hid (ver_led R n1 i1 L1 P1)
          generalize ledS n1 i1 L1 P1 = Ls at *
          generalize fitsB n1 i1 L1 P1 = Fb at *
          clear g11
          cases Fb with
          | false =>
            have HVL : Hid (verB R n1 i1 L1 P1 = false) := Lib.hid (by rw [HVL.out]; rfl)
            go_wp2_with fail
            refine (verify_g R n1 i1 Hn1.out Hi1.out LB lb lcb L1 PB pb pcb P1 (by omega) (by omega) w11 (HL1.out.kept GY) (HP1.out.kept GY)).mono ?_
            rintro e w12 ⟨rfl, g12⟩
            rw [HVL.out]
            go_wp2_with fail
            go_ret
            exact ⟨rfl, GT.out.trans g12⟩
          | true =>
            by_cases hE : Ls = R
            · subst hE
              go_wp2_with fail
              go_ret
              exact ⟨rfl, GT.out⟩
            · have hEb : (Ls == R) = false := by simpa using hE
              have HVL : Hid (verB R n1 i1 L1 P1 = false) := Lib.hid (by rw [HVL.out, Bool.true_and, beq_eq_false_iff_ne]; exact fun h => hE h.symm)
              clear hE
              go_wp2_with fail
              refine (verify_g R n1 i1 Hn1.out Hi1.out LB lb lcb L1 PB pb pcb P1 (by omega) (by omega) w11 (HL1.out.kept GY) (HP1.out.kept GY)).mono ?_
              rintro e w12 ⟨rfl, g12⟩
              rw [HVL.out]
              go_wp2_with fail
              go_ret
              exact ⟨rfl, GT.out.trans g12⟩
      · have bN : (n1 == (xn : Int)) = false := by rw [beq_eq_false_iff_ne]; exact hN
        clear hN
        refine wp_region_noPanic ?_
        refine wp_region_held_drew (S := (fun w' => wz.grownBy w' none)) (by kernel_rfl) ?_ (fun hHeld => ?_)
        · (try dsimp only); (repeat (first | assumption | exact World.grownBy.refl _ _ | refine grown_drR ?_ | refine grown_alR ?_))
        refine wpAnyH_take (i := 0) (oi := _) (v := ?_) rfl (by kernel_rfl) (by kernel_rfl) (by kernel_rfl) (fun _ _ _ h => h) (Or.inl ⟨by rfl, ?_⟩) (by assumption) ?_
        rotate_left 1
        · (intro w hSw; (try dsimp only at hSw); go_simp; first | done | with_reducible rfl)
        try go_simp
        refine wpAnyH_take (i := 1) (oi := _) (v := .int .i64 n1) rfl (by kernel_rfl) (by kernel_rfl) (by kernel_rfl) (fun _ _ _ h => h) (Or.inl ⟨by kernel_rfl, ?_⟩) (by assumption) ?_
        · (intro w hSw; (try dsimp only at hSw); go_simp; have q9 := gcellR hSw NE9 c0; clear hSw; go_simp; first | done | with_reducible rfl)
        try go_simp
        refine wpAnyH_take (i := 2) (oi := _) (v := ?_) rfl (by kernel_rfl) (by kernel_rfl) (by kernel_rfl) (fun _ _ _ h => h) (Or.inl ⟨by rfl, ?_⟩) (by assumption) ?_
        rotate_left 1
        · (intro w hSw; (try dsimp only at hSw); go_simp; first | done | with_reducible rfl)
        try go_simp
        refine wpAnyH_take (i := 3) (oi := _) (v := ?_) rfl (by kernel_rfl) (by kernel_rfl) (by kernel_rfl) (fun _ _ _ h => h) (Or.inl ⟨by rfl, ?_⟩) (by assumption) ?_
        rotate_left 1
        · (intro w hSw; (try dsimp only at hSw); go_simp; first | done | with_reducible rfl)
        try go_simp
        refine wpAnyH_take (i := 4) (oi := _) (v := ?_) rfl (by kernel_rfl) (by kernel_rfl) (by kernel_rfl) (fun _ _ _ h => h) (Or.inl ⟨by rfl, ?_⟩) (by assumption) ?_
        rotate_left 1
        · (intro w hSw; (try dsimp only at hSw); go_simp; first | done | with_reducible rfl)
        try go_simp
        refine wpAnyH_take (i := 5) (oi := _) (v := ?_) rfl (by kernel_rfl) (by kernel_rfl) (by kernel_rfl) (fun _ _ _ h => h) (Or.inl ⟨by rfl, ?_⟩) (by assumption) ?_
        rotate_left 1
        · (intro w hSw; (try dsimp only at hSw); go_simp; first | done | with_reducible rfl)
        try go_simp
        refine wpAnyH_take (i := 6) (oi := _) (v := undef) rfl (by kernel_rfl) (by kernel_rfl) (by kernel_rfl) (fun _ _ _ h => h) (Or.inr ⟨by kernel_rfl, rfl⟩) (by assumption) ?_
        try go_simp
        refine wpAnyH_take (i := 7) (oi := _) (v := undef) rfl (by kernel_rfl) (by kernel_rfl) (by kernel_rfl) (fun _ _ _ h => h) (Or.inr ⟨by kernel_rfl, rfl⟩) (by assumption) ?_
        try go_simp
        refine wpAnyH_take (i := 8) (oi := _) (v := undef) rfl (by kernel_rfl) (by kernel_rfl) (by kernel_rfl) (fun _ _ _ h => h) (Or.inr ⟨by kernel_rfl, rfl⟩) (by assumption) ?_
        try go_simp
        refine wpAnyH_take (i := 9) (oi := _) (v := undef) rfl (by kernel_rfl) (by kernel_rfl) (by kernel_rfl) (fun _ _ _ h => h) (Or.inr ⟨by kernel_rfl, rfl⟩) (by assumption) ?_
        try go_simp
        refine wpAnyH_take (i := 10) (oi := _) (v := ?_) rfl (by kernel_rfl) (by kernel_rfl) (by kernel_rfl) (fun _ _ _ h => h) (Or.inl ⟨by rfl, ?_⟩) (by assumption) ?_
        rotate_left 1
        · (intro w hSw; (try dsimp only at hSw); go_simp; first | done | with_reducible rfl)
        try go_simp
        refine wpAnyH_take (i := 11) (oi := _) (v := ?_) rfl (by kernel_rfl) (by kernel_rfl) (by kernel_rfl) (fun _ _ _ h => h) (Or.inl ⟨by rfl, ?_⟩) (by assumption) ?_
        rotate_left 1
        · (intro w hSw; (try dsimp only at hSw); go_simp; first | done | with_reducible rfl)
        try go_simp
        refine wpAnyH_take (i := 12) (oi := _) (v := undef) rfl (by kernel_rfl) (by kernel_rfl) (by kernel_rfl) (fun _ _ _ h => h) (Or.inr ⟨by kernel_rfl, rfl⟩) (by assumption) ?_
        try go_simp
        refine wpAnyH_take (i := 13) (oi := _) (v := undef) rfl (by kernel_rfl) (by kernel_rfl) (by kernel_rfl) (fun _ _ _ h => h) (Or.inr ⟨by kernel_rfl, rfl⟩) (by assumption) ?_
        try go_simp
        refine wpAnyH_take (i := 14) (oi := _) (v := undef) rfl (by kernel_rfl) (by kernel_rfl) (by kernel_rfl) (fun _ _ _ h => h) (Or.inr ⟨by kernel_rfl, rfl⟩) (by assumption) ?_
        try go_simp
        refine wpAnyH_take (i := 15) (oi := _) (v := undef) rfl (by kernel_rfl) (by kernel_rfl) (by kernel_rfl) (fun _ _ _ h => h) (Or.inr ⟨by kernel_rfl, rfl⟩) (by assumption) ?_
        try go_simp
        refine wpAnyH_take (i := 16) (oi := _) (v := undef) rfl (by kernel_rfl) (by kernel_rfl) (by kernel_rfl) (fun _ _ _ h => h) (Or.inr ⟨by kernel_rfl, rfl⟩) (by assumption) ?_
        try go_simp
        refine wpAnyH_take (i := 17) (oi := _) (v := undef) rfl (by kernel_rfl) (by kernel_rfl) (by kernel_rfl) (fun _ _ _ h => h) (Or.inr ⟨by kernel_rfl, rfl⟩) (by assumption) ?_
        try go_simp
        refine wpAnyH_take (i := 18) (oi := _) (v := undef) rfl (by kernel_rfl) (by kernel_rfl) (by kernel_rfl) (fun _ _ _ h => h) (Or.inr ⟨by kernel_rfl, rfl⟩) (by assumption) ?_
        try go_simp
        refine wpAnyH_take (i := 19) (oi := _) (v := ?_) rfl (by kernel_rfl) (by kernel_rfl) (by kernel_rfl) (fun _ _ _ h => h) (Or.inl ⟨by rfl, ?_⟩) (by assumption) ?_
        rotate_left 1
        · (intro w hSw; (try dsimp only at hSw); go_simp; first | done | with_reducible rfl)
        try go_simp
        refine wpAnyH_take (i := 20) (oi := _) (v := ?_) rfl (by kernel_rfl) (by kernel_rfl) (by kernel_rfl) (fun _ _ _ h => h) (Or.inl ⟨by rfl, ?_⟩) (by assumption) ?_
        rotate_left 1
        · (intro w hSw; (try dsimp only at hSw); go_simp; first | done | with_reducible rfl)
        try go_simp
        refine wpAnyH_take (i := 21) (oi := _) (v := undef) rfl (by kernel_rfl) (by kernel_rfl) (by kernel_rfl) (fun _ _ _ h => h) (Or.inr ⟨by kernel_rfl, rfl⟩) (by assumption) ?_
        try go_simp
        refine wpAnyH_take (i := 22) (oi := _) (v := undef) rfl (by kernel_rfl) (by kernel_rfl) (by kernel_rfl) (fun _ _ _ h => h) (Or.inr ⟨by kernel_rfl, rfl⟩) (by assumption) ?_
        try go_simp
        refine wpAnyH_take (i := 23) (oi := _) (v := undef) rfl (by kernel_rfl) (by kernel_rfl) (by kernel_rfl) (fun _ _ _ h => h) (Or.inr ⟨by kernel_rfl, rfl⟩) (by assumption) ?_
        try go_simp
        refine wpAnyH_take (i := 24) (oi := _) (v := undef) rfl (by kernel_rfl) (by kernel_rfl) (by kernel_rfl) (fun _ _ _ h => h) (Or.inr ⟨by kernel_rfl, rfl⟩) (by assumption) ?_
        try go_simp
        refine wpAnyH_take (i := 25) (oi := _) (v := ?_) rfl (by kernel_rfl) (by kernel_rfl) (by kernel_rfl) (fun _ _ _ h => h) (Or.inl ⟨by rfl, ?_⟩) (by assumption) ?_
        rotate_left 1
        · (intro w hSw; (try dsimp only at hSw); go_simp; first | done | with_reducible rfl)
        try go_simp
        refine wpAnyH_done (by kernel_rfl) ?_ _
        refine NoPanic.normal ?_
        go_simp
        go_simp
        clear hHeld c0 c1 c2 c3
        have gz : wz.grownBy wz.drew none := grown_dr (World.grownBy.refl _ _)
        have c0 := (EQ.out.grown gz (by simp)).c0
        have c1 := (EQ.out.grown gz (by simp)).c1
        have c2 := (EQ.out.grown gz (by simp)).c2
        have c3 := (EQ.out.grown gz (by simp)).c3
        go_wp2_with fail
        refine (led_g n1 i1 Hn1.out Hi1.out LB lb lcb L1 PB pb pcb P1 (fun s hs => Nat.le_trans (Hs1.out s hs) (by decide)) (by omega) wz.drew (HL1.out.kept gz) (HP1.out.kept gz)).mono ?_
        rintro e w11 ⟨rfl, g11⟩
        clear c0 c1 c2 c3
        have GY := World.grownBy.trans gz g11
        have GT := Lib.hid (((G0.out.trans GS.out).trans gz).trans g11)
        have c0 := (EQ.out.grown GY (by simp)).c0
        have c1 := (EQ.out.grown GY (by simp)).c1
        have c2 := (EQ.out.grown GY (by simp)).c2
        have c3 := (EQ.out.grown GY (by simp)).c3
        have HVL := Lib.hid (ver_led R n1 i1 L1 P1)
        generalize ledS n1 i1 L1 P1 = Ls at *
        generalize fitsB n1 i1 L1 P1 = Fb at *
        clear g11
        cases Fb with
        | false =>
          have HVL : Hid (verB R n1 i1 L1 P1 = false) := Lib.hid (by rw [HVL.out]; rfl)
          go_wp2_with fail
          refine (verify_g R n1 i1 Hn1.out Hi1.out LB lb lcb L1 PB pb pcb P1 (by omega) (by omega) w11 (HL1.out.kept GY) (HP1.out.kept GY)).mono ?_
          rintro e w12 ⟨rfl, g12⟩
          rw [HVL.out]
          go_wp2_with fail
          go_ret
          exact ⟨rfl, GT.out.trans g12⟩
        | true =>
          by_cases hE : Ls = R
          · subst hE
            go_wp2_with fail
            go_ret
            exact ⟨rfl, GT.out⟩
          · have hEb : (Ls == R) = false := by simpa using hE
            have HVL : Hid (verB R n1 i1 L1 P1 = false) := Lib.hid (by rw [HVL.out, Bool.true_and, beq_eq_false_iff_ne]; exact fun h => hE h.symm)
            clear hE
            go_wp2_with fail
            refine (verify_g R n1 i1 Hn1.out Hi1.out LB lb lcb L1 PB pb pcb P1 (by omega) (by omega) w11 (HL1.out.kept GY) (HP1.out.kept GY)).mono ?_
            rintro e w12 ⟨rfl, g12⟩
            rw [HVL.out]
            go_wp2_with fail
            go_ret
            exact ⟨rfl, GT.out.trans g12⟩

    refine AllReadyH.cons (o := _) rfl (fun K hK => ?_) AllReadyH.nil
    · clear hHeld
      go_simp
      first | (refine hK.out _ _ ?_ (fun hHeld => ?_)) | (go_wp2_with fail; refine hK.out _ _ ?_ (fun hHeld => ?_))
      · (try dsimp only); (repeat (first | assumption | exact World.grownBy.refl _ _ | refine grown_drR ?_ | refine grown_alR ?_ | refine grown_new6 ?_ hrr))
      clear hK K
      have GJ : w5.grownBy (w5.drew.alloc (.cells #[.int .i64 0, .int .i64 0, .slice none 0 0, .slice none 0 0, .string ⟨#[]⟩, .string ⟨#[]⟩] 46)) none := (grown_dr (World.grownBy.refl _ _)).trans (World.grownBy_alloc _ _ none)
      have RR : Hid (Cl (w5.drew.alloc (.cells #[.int .i64 0, .int .i64 0, .slice none 0 0, .slice none 0 0, .string ⟨#[]⟩, .string ⟨#[]⟩] 46)) w5.heap.size 0 0 (.slice none 0 0) (.slice none 0 0) [] []) := Lib.hid (World.alloc_heap_new w5.drew _)
      clear hHeld
      refine wpAnyH_ready (rs := [10]) (by kernel_rfl) (by simp) ?_
      refine AllReadyH.cons (o := _) rfl (fun K hK => ?_) AllReadyH.nil
      go_simp
      refine (changed_k xn i (by constructor <;> omega) (by constructor <;> omega) (XA.map (fun a => a.add i)) (j - i) (xc - i) ((x.take j).drop i) PA pn pc P [] [] q0 q1 q2 q3 hq2 hq3 (by omega) (by omega) HLs.out HPs.out HXBN.out HPN.out _ (HXS.out _ GJ) (HP.out _ GJ)).mono ?_
      rintro e wd ⟨n1, i1, LB, lb, lcb, L1, PB, pb, pcb, P1, rfl, hn1, hi1, hlb, hpb, hL1, hP1, HL1, HP1, gd, fL, fP⟩
      have gwd := GJ.trans gd
      first | (refine hK.out _ _ ?_ (fun hHeld => ?_)) | (go_wp2_with fail; refine hK.out _ _ ?_ (fun hHeld => ?_))
      · exact gwd
      clear hK K
      have RR := Lib.hid (RR.out.grown gd (by simp))
      have fL : Hid (∀ a, LB = some a → a.block ≠ w5.heap.size) := Lib.hid (fun a e => by have := fL a e; simp at this; omega)
      have fP : Hid (∀ a, PB = some a → a.block ≠ w5.heap.size) := Lib.hid (fun a e => by have := fP a e; simp at this; omega)
      have HL1 := Lib.hid (fun W (g : wd.grownBy W none) => HL1.kept g)
      have HP1 := Lib.hid (fun W (g : wd.grownBy W none) => HP1.kept g)
      obtain ⟨r, hr⟩ : ∃ r, w5.heap.size = r := ⟨_, rfl⟩
      rw [hr] at RR fL fP ⊢
      have hrr : w5.heap.size ≤ r := Nat.le_of_eq hr
      have gwj := gwd
      obtain ⟨wj, hwj⟩ : ∃ wj, wj = wd := ⟨_, rfl⟩
      subst hwj
      have z0 := RR.out.c0
      have z1 := RR.out.c1
      have z2 := RR.out.c2
      have z3 := RR.out.c3
      have z4 := RR.out.c4
      have z5 := RR.out.c5
      have x0 := RR.out.fz 0
      have x1 := RR.out.fz 1
      have x2 := RR.out.fz 2
      have x3 := RR.out.fz 3
      have x4 := RR.out.fz 4
      have x5 := RR.out.fz 5
      refine wpAnyH_ready (rs := [12]) (by kernel_rfl) (by simp) ?_
      refine AllReadyH.cons (o := _) rfl (fun K hK => ?_) AllReadyH.nil
      go_simp
      first | (refine hK.out _ _ ?_ (fun hHeld => ?_)) | (go_wp2_with fail; refine hK.out _ _ ?_ (fun hHeld => ?_))
      · (try dsimp only); exact grown_new6 gwj hrr
      clear hK K
      refine wpAnyH_done (by kernel_rfl) ?_ _
      refine NoPanic.normal ?_
      go_simp
      clear z0 x0 z1 x1 z2 x2 z3 x3 z4 x4 z5 x5
      have EQ : Hid (Cl ((((((wj.setCell ⟨r, 0, none⟩ (.int .i64 n1)).setCell ⟨r, 1, none⟩ (.int .i64 i1)).setCell ⟨r, 2, none⟩ (.slice LB lb lcb)).setCell ⟨r, 3, none⟩ (.slice PB pb pcb)).setCell ⟨r, 4, none⟩ (.string ⟨#[]⟩)).setCell ⟨r, 5, none⟩ (.string ⟨#[]⟩)) r n1 i1 (.slice LB lb lcb) (.slice PB pb pcb) [] []) := Lib.hid (RR.out.setAll n1 i1 (.slice LB lb lcb) (.slice PB pb pcb) [] [])
      have GS : Hid (w5.grownBy ((((((wj.setCell ⟨r, 0, none⟩ (.int .i64 n1)).setCell ⟨r, 1, none⟩ (.int .i64 i1)).setCell ⟨r, 2, none⟩ (.slice LB lb lcb)).setCell ⟨r, 3, none⟩ (.slice PB pb pcb)).setCell ⟨r, 4, none⟩ (.string ⟨#[]⟩)).setCell ⟨r, 5, none⟩ (.string ⟨#[]⟩)) none) := Lib.hid (grown_new6 gwj hrr)
      have HL1 : Hid (Strs ((((((wj.setCell ⟨r, 0, none⟩ (.int .i64 n1)).setCell ⟨r, 1, none⟩ (.int .i64 i1)).setCell ⟨r, 2, none⟩ (.slice LB lb lcb)).setCell ⟨r, 3, none⟩ (.slice PB pb pcb)).setCell ⟨r, 4, none⟩ (.string ⟨#[]⟩)).setCell ⟨r, 5, none⟩ (.string ⟨#[]⟩)) LB lb lcb L1) := Lib.hid ((HL1.out wj (World.grownBy.refl _ _)).far fL.out (grown_set6 ..))
      have HP1 : Hid (Strs ((((((wj.setCell ⟨r, 0, none⟩ (.int .i64 n1)).setCell ⟨r, 1, none⟩ (.int .i64 i1)).setCell ⟨r, 2, none⟩ (.slice LB lb lcb)).setCell ⟨r, 3, none⟩ (.slice PB pb pcb)).setCell ⟨r, 4, none⟩ (.string ⟨#[]⟩)).setCell ⟨r, 5, none⟩ (.string ⟨#[]⟩)) PB pb pcb P1) := Lib.hid ((HP1.out wj (World.grownBy.refl _ _)).far fP.out (grown_set6 ..))
      clear hHeld gwj RR
      generalize ((((((wj.setCell ⟨r, 0, none⟩ (.int .i64 n1)).setCell ⟨r, 1, none⟩ (.int .i64 i1)).setCell ⟨r, 2, none⟩ (.slice LB lb lcb)).setCell ⟨r, 3, none⟩ (.slice PB pb pcb)).setCell ⟨r, 4, none⟩ (.string ⟨#[]⟩)).setCell ⟨r, 5, none⟩ (.string ⟨#[]⟩)) = wz at *
      have HXZ : Hid (Strs wz (XA.map (fun a => a.add i)) (j - i) (xc - i) ((x.take j).drop i)) := Lib.hid (HXS.out wz GS.out)
      have HPZ : Hid (Strs wz PA pn pc P) := Lib.hid (HP.out wz GS.out)
      have Hn1 := Lib.hid hn1
      have Hi1 := Lib.hid hi1
      have Hs1 := Lib.hid hL1
      generalize root x = R at *
      have c0 := EQ.out.c0
      have c1 := EQ.out.c1
      have c2 := EQ.out.c2
      have c3 := EQ.out.c3
      have NE9 : some r ≠ none := by simp
      have hzz := EQ.out.lt
      clear hn1 hi1 hL1 hP1 HQ HXS HP HLs HPs HXBN HPN hbl
      go_upto_region 10 with fail
      by_cases hN : n1 = (xn : Int)
      · have bN : (n1 == (xn : Int)) = true := by rw [beq_iff_eq]; exact hN
        by_cases hI : i1 = (i : Int)
        · have bI : (i1 == (i : Int)) = true := by rw [beq_iff_eq]; exact hI
          clear hN hI
          by_cases hLX : L1 = ((x.take j).drop i)
          · have hLX : Hid (decide (L1 = ((x.take j).drop i)) = true) := Lib.hid (by simpa using hLX)
            by_cases hPX : P1 = P
            · have hPX : Hid (decide (P1 = P) = true) := Lib.hid (by simpa using hPX)
              have gz : wz.grownBy wz.drew none := grown_dr (World.grownBy.refl _ _)
              refine wp_region_noPanic ?_
              refine wp_region_held_drew (S := (fun w' => wz.grownBy w' none)) (by kernel_rfl) ?_ (fun hHeld => ?_)
              · (try dsimp only); (repeat (first | assumption | exact World.grownBy.refl _ _ | refine grown_drR ?_ | refine grown_alR ?_))
              refine wpAnyH_take (i := 0) (oi := _) (v := ?_) rfl (by kernel_rfl) (by kernel_rfl) (by kernel_rfl) (fun _ _ _ h => h) (Or.inl ⟨by rfl, ?_⟩) (by assumption) ?_
              rotate_left 1
              · (intro w hSw; (try dsimp only at hSw); go_simp; first | done | with_reducible rfl)
              try go_simp
              refine wpAnyH_take (i := 1) (oi := _) (v := .int .i64 n1) rfl (by kernel_rfl) (by kernel_rfl) (by kernel_rfl) (fun _ _ _ h => h) (Or.inl ⟨by kernel_rfl, ?_⟩) (by assumption) ?_
              · (intro w hSw; (try dsimp only at hSw); go_simp; have q9 := gcellR hSw NE9 c0; clear hSw; go_simp; first | done | with_reducible rfl)
              try go_simp
              refine wpAnyH_take (i := 2) (oi := _) (v := ?_) rfl (by kernel_rfl) (by kernel_rfl) (by kernel_rfl) (fun _ _ _ h => h) (Or.inl ⟨by rfl, ?_⟩) (by assumption) ?_
              rotate_left 1
              · (intro w hSw; (try dsimp only at hSw); go_simp; first | done | with_reducible rfl)
              try go_simp
              refine wpAnyH_take (i := 3) (oi := _) (v := ?_) rfl (by kernel_rfl) (by kernel_rfl) (by kernel_rfl) (fun _ _ _ h => h) (Or.inl ⟨by rfl, ?_⟩) (by assumption) ?_
              rotate_left 1
              · (intro w hSw; (try dsimp only at hSw); go_simp; first | done | with_reducible rfl)
              try go_simp
              refine wpAnyH_take (i := 4) (oi := _) (v := ?_) rfl (by kernel_rfl) (by kernel_rfl) (by kernel_rfl) (fun _ _ _ h => h) (Or.inl ⟨by rfl, ?_⟩) (by assumption) ?_
              rotate_left 1
              · (intro w hSw; (try dsimp only at hSw); go_simp; first | done | with_reducible rfl)
              try go_simp
              refine wpAnyH_take (i := 5) (oi := _) (v := ?_) rfl (by kernel_rfl) (by kernel_rfl) (by kernel_rfl) (fun _ _ _ h => h) (Or.inl ⟨by rfl, ?_⟩) (by assumption) ?_
              rotate_left 1
              · (intro w hSw; (try dsimp only at hSw); go_simp; first | done | with_reducible rfl)
              try go_simp
              refine wpAnyH_take (i := 6) (oi := _) (v := ?_) rfl (by kernel_rfl) (by kernel_rfl) (by kernel_rfl) (fun _ _ _ h => h) (Or.inl ⟨by kernel_rfl, ?_⟩) (by assumption) ?_
              rotate_left 1
              · (intro w hSw; (try dsimp only at hSw); go_simp; first | done | with_reducible rfl)
              try go_simp
              refine wpAnyH_take (i := 7) (oi := _) (v := .int .i64 i1) rfl (by kernel_rfl) (by kernel_rfl) (by kernel_rfl) (fun _ _ _ h => h) (Or.inl ⟨by kernel_rfl, ?_⟩) (by assumption) ?_
              · (intro w hSw; (try dsimp only at hSw); go_simp; have q9 := gcellR hSw NE9 c1; clear hSw; go_simp; first | done | with_reducible rfl)
              try go_simp
              refine wpAnyH_take (i := 8) (oi := _) (v := ?_) rfl (by kernel_rfl) (by kernel_rfl) (by kernel_rfl) (fun _ _ _ h => h) (Or.inl ⟨by kernel_rfl, ?_⟩) (by assumption) ?_
              rotate_left 1
              · (intro w hSw; (try dsimp only at hSw); go_simp; first | done | with_reducible rfl)
              try go_simp
              refine wpAnyH_take (i := 9) (oi := _) (v := ?_) rfl (by kernel_rfl) (by kernel_rfl) (by kernel_rfl) (fun _ _ _ h => h) (Or.inl ⟨by kernel_rfl, ?_⟩) (by assumption) ?_
              rotate_left 1
              · (intro w hSw; (try dsimp only at hSw); go_simp; first | done | with_reducible rfl)
              try go_simp
              refine wpAnyH_take (i := 10) (oi := _) (v := ?_) rfl (by kernel_rfl) (by kernel_rfl) (by kernel_rfl) (fun _ _ _ h => h) (Or.inl ⟨by rfl, ?_⟩) (by assumption) ?_
              rotate_left 1
              · (intro w hSw; (try dsimp only at hSw); go_simp; first | done | with_reducible rfl)
              try go_simp
              refine wpAnyH_take (i := 11) (oi := _) (v := ?_) rfl (by kernel_rfl) (by kernel_rfl) (by kernel_rfl) (fun _ _ _ h => h) (Or.inl ⟨by rfl, ?_⟩) (by assumption) ?_
              rotate_left 1
              · (intro w hSw; (try dsimp only at hSw); go_simp; first | done | with_reducible rfl)
              try go_simp
              refine wpAnyH_take (i := 12) (oi := _) (v := ?_) rfl (by kernel_rfl) (by kernel_rfl) (by kernel_rfl) (fun _ _ _ h => h) (Or.inl ⟨by kernel_rfl, ?_⟩) (by assumption) ?_
              rotate_left 1
              · (intro w hSw; (try dsimp only at hSw); go_simp; first | done | with_reducible rfl)
              try go_simp
              refine wpAnyH_take (i := 13) (oi := _) (v := .slice LB lb lcb) rfl (by kernel_rfl) (by kernel_rfl) (by kernel_rfl) (fun _ _ _ h => h) (Or.inl ⟨by kernel_rfl, ?_⟩) (by assumption) ?_
              · (intro w hSw; (try dsimp only at hSw); go_simp; have q9 := gcellR hSw NE9 c2; clear hSw; go_simp; first | done | with_reducible rfl)
              try go_simp
              refine wpAnyH_take (i := 14) (oi := _) (v := ?_) rfl (by kernel_rfl) (by kernel_rfl) (by kernel_rfl) (fun _ _ _ h => h) (Or.inl ⟨by kernel_rfl, ?_⟩) (by assumption) ?_
              rotate_left 1
              · (intro w hSw; (try dsimp only at hSw); go_simp; first | done | with_reducible rfl)
              try go_simp
              refine wpAnyH_take (i := 15) (oi := _) (v := ?_) rfl (by kernel_rfl) (by kernel_rfl) (by kernel_rfl) (fun _ _ _ h => h) (Or.inl ⟨by kernel_rfl, ?_⟩) (by assumption) ?_
              rotate_left 1
              · (intro w hSw; (try dsimp only at hSw); go_simp; first | done | with_reducible rfl)
              try go_simp
              refine wpAnyH_take (i := 16) (oi := _) (v := ?_) rfl (by kernel_rfl) (by kernel_rfl) (by kernel_rfl) (fun _ _ _ h => h) (Or.inl ⟨by kernel_rfl, ?_⟩) (by assumption) ?_
              rotate_left 1
              · (intro w hSw; (try dsimp only at hSw); go_simp; first | done | with_reducible rfl)
              try go_simp
              refine wpAnyH_take (i := 17) (oi := _) (v := ?_) rfl (by kernel_rfl) (by kernel_rfl) (by kernel_rfl) (fun _ _ _ h => h) (Or.inl ⟨by kernel_rfl, ?_⟩) (by assumption) ?_
              rotate_left 1
              · (intro w hSw; (try dsimp only at hSw); go_simp; first | done | with_reducible rfl)
              try go_simp
              refine wpAnyH_ready (rs := [18]) (by kernel_rfl) (by simp) ?_
              refine AllReadyH.cons (o := _) rfl (fun K hK => ?_) AllReadyH.nil
              go_simp
              refine (same_k LB (XA.map (fun a => a.add i)) lb lcb (j - i) (xc - i) L1 ((x.take j).drop i) wz.drew (HL1.out.kept gz) (HXZ.out.kept gz)).mono ?_
              rintro e wa ⟨rfl, ga⟩
              have ga := World.grownBy.trans gz ga
              rw [hLX.out]
              first | (refine hK.out _ _ ?_ (fun hHeld => ?_)) | (go_wp2_with fail; refine hK.out _ _ ?_ (fun hHeld => ?_))
              · (try dsimp only); (repeat (first | assumption | exact World.grownBy.refl _ _ | refine grown_drR ?_ | refine grown_alR ?_))
              clear hK K
              refine wpAnyH_take (i := 19) (oi := _) (v := ?_) rfl (by kernel_rfl) (by kernel_rfl) (by kernel_rfl) (fun _ _ _ h => h) (Or.inl ⟨by rfl, ?_⟩) (by assumption) ?_
              rotate_left 1
              · (intro w hSw; (try dsimp only at hSw); go_simp; first | done | with_reducible rfl)
              try go_simp
              refine wpAnyH_take (i := 20) (oi := _) (v := ?_) rfl (by kernel_rfl) (by kernel_rfl) (by kernel_rfl) (fun _ _ _ h => h) (Or.inl ⟨by rfl, ?_⟩) (by assumption) ?_
              rotate_left 1
              · (intro w hSw; (try dsimp only at hSw); go_simp; first | done | with_reducible rfl)
              try go_simp
              refine wpAnyH_take (i := 21) (oi := _) (v := ?_) rfl (by kernel_rfl) (by kernel_rfl) (by kernel_rfl) (fun _ _ _ h => h) (Or.inl ⟨by kernel_rfl, ?_⟩) (by assumption) ?_
              rotate_left 1
              · (intro w hSw; (try dsimp only at hSw); go_simp; first | done | with_reducible rfl)
              try go_simp
              refine wpAnyH_take (i := 22) (oi := _) (v := .slice PB pb pcb) rfl (by kernel_rfl) (by kernel_rfl) (by kernel_rfl) (fun _ _ _ h => h) (Or.inl ⟨by kernel_rfl, ?_⟩) (by assumption) ?_
              · (intro w hSw; (try dsimp only at hSw); go_simp; have q9 := gcellR hSw NE9 c3; clear hSw; go_simp; first | done | with_reducible rfl)
              try go_simp
              refine wpAnyH_take (i := 23) (oi := _) (v := ?_) rfl (by kernel_rfl) (by kernel_rfl) (by kernel_rfl) (fun _ _ _ h => h) (Or.inl ⟨by kernel_rfl, ?_⟩) (by assumption) ?_
              rotate_left 1
              · (intro w hSw; (try dsimp only at hSw); go_simp; first | done | with_reducible rfl)
              try go_simp
              refine wpAnyH_ready (rs := [24]) (by kernel_rfl) (by simp) ?_
              refine AllReadyH.cons (o := _) rfl (fun K hK => ?_) AllReadyH.nil
              go_simp
              refine (same_k PB PA pb pcb pn pc P1 P wa (HP1.out.kept ga) (HPZ.out.kept ga)).mono ?_
              rintro e wb ⟨rfl, gb⟩
              have gb := World.grownBy.trans ga gb
              rw [hPX.out]
              first | (refine hK.out _ _ ?_ (fun hHeld => ?_)) | (go_wp2_with fail; refine hK.out _ _ ?_ (fun hHeld => ?_))
              · (try dsimp only); (repeat (first | assumption | exact World.grownBy.refl _ _ | refine grown_drR ?_ | refine grown_alR ?_))
              clear hK K
              refine wpAnyH_take (i := 25) (oi := _) (v := ?_) rfl (by kernel_rfl) (by kernel_rfl) (by kernel_rfl) (fun _ _ _ h => h) (Or.inl ⟨by rfl, ?_⟩) (by assumption) ?_
              rotate_left 1
              · (intro w hSw; (try dsimp only at hSw); go_simp; first | done | with_reducible rfl)
              try go_simp
              refine wpAnyH_done (by kernel_rfl) ?_ _
              refine NoPanic.normal ?_
              go_simp
              go_simp
              clear hHeld c0 c1 c2 c3
              go_wp2_with fail
              go_ret
              exact ⟨rfl, (G0.out.trans GS.out).trans gb⟩
            · have hPX : Hid (decide (P1 = P) = false) := Lib.hid (by simpa using hPX)
              have gz : wz.grownBy wz.drew none := grown_dr (World.grownBy.refl _ _)
              refine wp_region_noPanic ?_
              refine wp_region_held_drew (S := (fun w' => wz.grownBy w' none)) (by kernel_rfl) ?_ (fun hHeld => ?_)
              · (try dsimp only); (repeat (first | assumption | exact World.grownBy.refl _ _ | refine grown_drR ?_ | refine grown_alR ?_))
              refine wpAnyH_take (i := 0) (oi := _) (v := ?_) rfl (by kernel_rfl) (by kernel_rfl) (by kernel_rfl) (fun _ _ _ h => h) (Or.inl ⟨by rfl, ?_⟩) (by assumption) ?_
              rotate_left 1
              · (intro w hSw; (try dsimp only at hSw); go_simp; first | done | with_reducible rfl)
              try go_simp
              refine wpAnyH_take (i := 1) (oi := _) (v := .int .i64 n1) rfl (by kernel_rfl) (by kernel_rfl) (by kernel_rfl) (fun _ _ _ h => h) (Or.inl ⟨by kernel_rfl, ?_⟩) (by assumption) ?_
              · (intro w hSw; (try dsimp only at hSw); go_simp; have q9 := gcellR hSw NE9 c0; clear hSw; go_simp; first | done | with_reducible rfl)
              try go_simp
              refine wpAnyH_take (i := 2) (oi := _) (v := ?_) rfl (by kernel_rfl) (by kernel_rfl) (by kernel_rfl) (fun _ _ _ h => h) (Or.inl ⟨by rfl, ?_⟩) (by assumption) ?_
              rotate_left 1
              · (intro w hSw; (try dsimp only at hSw); go_simp; first | done | with_reducible rfl)
              try go_simp
              refine wpAnyH_take (i := 3) (oi := _) (v := ?_) rfl (by kernel_rfl) (by kernel_rfl) (by kernel_rfl) (fun _ _ _ h => h) (Or.inl ⟨by rfl, ?_⟩) (by assumption) ?_
              rotate_left 1
              · (intro w hSw; (try dsimp only at hSw); go_simp; first | done | with_reducible rfl)
              try go_simp
              refine wpAnyH_take (i := 4) (oi := _) (v := ?_) rfl (by kernel_rfl) (by kernel_rfl) (by kernel_rfl) (fun _ _ _ h => h) (Or.inl ⟨by rfl, ?_⟩) (by assumption) ?_
              rotate_left 1
              · (intro w hSw; (try dsimp only at hSw); go_simp; first | done | with_reducible rfl)
              try go_simp
              refine wpAnyH_take (i := 5) (oi := _) (v := ?_) rfl (by kernel_rfl) (by kernel_rfl) (by kernel_rfl) (fun _ _ _ h => h) (Or.inl ⟨by rfl, ?_⟩) (by assumption) ?_
              rotate_left 1
              · (intro w hSw; (try dsimp only at hSw); go_simp; first | done | with_reducible rfl)
              try go_simp
              refine wpAnyH_take (i := 6) (oi := _) (v := ?_) rfl (by kernel_rfl) (by kernel_rfl) (by kernel_rfl) (fun _ _ _ h => h) (Or.inl ⟨by kernel_rfl, ?_⟩) (by assumption) ?_
              rotate_left 1
              · (intro w hSw; (try dsimp only at hSw); go_simp; first | done | with_reducible rfl)
              try go_simp
              refine wpAnyH_take (i := 7) (oi := _) (v := .int .i64 i1) rfl (by kernel_rfl) (by kernel_rfl) (by kernel_rfl) (fun _ _ _ h => h) (Or.inl ⟨by kernel_rfl, ?_⟩) (by assumption) ?_
              · (intro w hSw; (try dsimp only at hSw); go_simp; have q9 := gcellR hSw NE9 c1; clear hSw; go_simp; first | done | with_reducible rfl)
              try go_simp
              refine wpAnyH_take (i := 8) (oi := _) (v := ?_) rfl (by kernel_rfl) (by kernel_rfl) (by kernel_rfl) (fun _ _ _ h => h) (Or.inl ⟨by kernel_rfl, ?_⟩) (by assumption) ?_
              rotate_left 1
              · (intro w hSw; (try dsimp only at hSw); go_simp; first | done | with_reducible rfl)
              try go_simp
              refine wpAnyH_take (i := 9) (oi := _) (v := ?_) rfl (by kernel_rfl) (by kernel_rfl) (by kernel_rfl) (fun _ _ _ h => h) (Or.inl ⟨by kernel_rfl, ?_⟩) (by assumption) ?_
              rotate_left 1
              · (intro w hSw; (try dsimp only at hSw); go_simp; first | done | with_reducible rfl)
              try go_simp
              refine wpAnyH_take (i := 10) (oi := _) (v := ?_) rfl (by kernel_rfl) (by kernel_rfl) (by kernel_rfl) (fun _ _ _ h => h) (Or.inl ⟨by rfl, ?_⟩) (by assumption) ?_
              rotate_left 1
              · (intro w hSw; (try dsimp only at hSw); go_simp; first | done | with_reducible rfl)
              try go_simp
              refine wpAnyH_take (i := 11) (oi := _) (v := ?_) rfl (by kernel_rfl) (by kernel_rfl) (by kernel_rfl) (fun _ _ _ h => h) (Or.inl ⟨by rfl, ?_⟩) (by assumption) ?_
              rotate_left 1
              · (intro w hSw; (try dsimp only at hSw); go_simp; first | done | with_reducible rfl)
              try go_simp
              refine wpAnyH_take (i := 12) (oi := _) (v := ?_) rfl (by kernel_rfl) (by kernel_rfl) (by kernel_rfl) (fun _ _ _ h => h) (Or.inl ⟨by kernel_rfl, ?_⟩) (by assumption) ?_
              rotate_left 1
              · (intro w hSw; (try dsimp only at hSw); go_simp; first | done | with_reducible rfl)
              try go_simp
              refine wpAnyH_take (i := 13) (oi := _) (v := .slice LB lb lcb) rfl (by kernel_rfl) (by kernel_rfl) (by kernel_rfl) (fun _ _ _ h => h) (Or.inl ⟨by kernel_rfl, ?_⟩) (by assumption) ?_
              · (intro w hSw; (try dsimp only at hSw); go_simp; have q9 := gcellR hSw NE9 c2; clear hSw; go_simp; first | done | with_reducible rfl)
              try go_simp
              refine wpAnyH_take (i := 14) (oi := _) (v := ?_) rfl (by kernel_rfl) (by kernel_rfl) (by kernel_rfl) (fun _ _ _ h => h) (Or.inl ⟨by kernel_rfl, ?_⟩) (by assumption) ?_
              rotate_left 1
              · (intro w hSw; (try dsimp only at hSw); go_simp; first | done | with_reducible rfl)
              try go_simp
              refine wpAnyH_take (i := 15) (oi := _) (v := ?_) rfl (by kernel_rfl) (by kernel_rfl) (by kernel_rfl) (fun _ _ _ h => h) (Or.inl ⟨by kernel_rfl, ?_⟩) (by assumption) ?_
              rotate_left 1
              · (intro w hSw; (try dsimp only at hSw); go_simp; first | done | with_reducible rfl)
              try go_simp
              refine wpAnyH_take (i := 16) (oi := _) (v := ?_) rfl (by kernel_rfl) (by kernel_rfl) (by kernel_rfl) (fun _ _ _ h => h) (Or.inl ⟨by kernel_rfl, ?_⟩) (by assumption) ?_
              rotate_left 1
              · (intro w hSw; (try dsimp only at hSw); go_simp; first | done | with_reducible rfl)
              try go_simp
              refine wpAnyH_take (i := 17) (oi := _) (v := ?_) rfl (by kernel_rfl) (by kernel_rfl) (by kernel_rfl) (fun _ _ _ h => h) (Or.inl ⟨by kernel_rfl, ?_⟩) (by assumption) ?_
              rotate_left 1
              · (intro w hSw; (try dsimp only at hSw); go_simp; first | done | with_reducible rfl)
              try go_simp
              refine wpAnyH_ready (rs := [18]) (by kernel_rfl) (by simp) ?_
              refine AllReadyH.cons (o := _) rfl (fun K hK => ?_) AllReadyH.nil
              go_simp
              refine (same_k LB (XA.map (fun a => a.add i)) lb lcb (j - i) (xc - i) L1 ((x.take j).drop i) wz.drew (HL1.out.kept gz) (HXZ.out.kept gz)).mono ?_
              rintro e wa ⟨rfl, ga⟩
              have ga := World.grownBy.trans gz ga
              rw [hLX.out]
              first | (refine hK.out _ _ ?_ (fun hHeld => ?_)) | (go_wp2_with fail; refine hK.out _ _ ?_ (fun hHeld => ?_))
              · (try dsimp only); (repeat (first | assumption | exact World.grownBy.refl _ _ | refine grown_drR ?_ | refine grown_alR ?_))
              clear hK K
              refine wpAnyH_take (i := 19) (oi := _) (v := ?_) rfl (by kernel_rfl) (by kernel_rfl) (by kernel_rfl) (fun _ _ _ h => h) (Or.inl ⟨by rfl, ?_⟩) (by assumption) ?_
              rotate_left 1
              · (intro w hSw; (try dsimp only at hSw); go_simp; first | done | with_reducible rfl)
              try go_simp
              refine wpAnyH_take (i := 20) (oi := _) (v := ?_) rfl (by kernel_rfl) (by kernel_rfl) (by kernel_rfl) (fun _ _ _ h => h) (Or.inl ⟨by rfl, ?_⟩) (by assumption) ?_
              rotate_left 1
              · (intro w hSw; (try dsimp only at hSw); go_simp; first | done | with_reducible rfl)
              try go_simp
              refine wpAnyH_take (i := 21) (oi := _) (v := ?_) rfl (by kernel_rfl) (by kernel_rfl) (by kernel_rfl) (fun _ _ _ h => h) (Or.inl ⟨by kernel_rfl, ?_⟩) (by assumption) ?_
              rotate_left 1
              · (intro w hSw; (try dsimp only at hSw); go_simp; first | done | with_reducible rfl)
              try go_simp
              refine wpAnyH_take (i := 22) (oi := _) (v := .slice PB pb pcb) rfl (by kernel_rfl) (by kernel_rfl) (by kernel_rfl) (fun _ _ _ h => h) (Or.inl ⟨by kernel_rfl, ?_⟩) (by assumption) ?_
              · (intro w hSw; (try dsimp only at hSw); go_simp; have q9 := gcellR hSw NE9 c3; clear hSw; go_simp; first | done | with_reducible rfl)
              try go_simp
              refine wpAnyH_take (i := 23) (oi := _) (v := ?_) rfl (by kernel_rfl) (by kernel_rfl) (by kernel_rfl) (fun _ _ _ h => h) (Or.inl ⟨by kernel_rfl, ?_⟩) (by assumption) ?_
              rotate_left 1
              · (intro w hSw; (try dsimp only at hSw); go_simp; first | done | with_reducible rfl)
              try go_simp
              refine wpAnyH_ready (rs := [24]) (by kernel_rfl) (by simp) ?_
              refine AllReadyH.cons (o := _) rfl (fun K hK => ?_) AllReadyH.nil
              go_simp
              refine (same_k PB PA pb pcb pn pc P1 P wa (HP1.out.kept ga) (HPZ.out.kept ga)).mono ?_
              rintro e wb ⟨rfl, gb⟩
              have gb := World.grownBy.trans ga gb
              rw [hPX.out]
              first | (refine hK.out _ _ ?_ (fun hHeld => ?_)) | (go_wp2_with fail; refine hK.out _ _ ?_ (fun hHeld => ?_))
              · (try dsimp only); (repeat (first | assumption | exact World.grownBy.refl _ _ | refine grown_drR ?_ | refine grown_alR ?_))
              clear hK K
              refine wpAnyH_take (i := 25) (oi := _) (v := ?_) rfl (by kernel_rfl) (by kernel_rfl) (by kernel_rfl) (fun _ _ _ h => h) (Or.inl ⟨by rfl, ?_⟩) (by assumption) ?_
              rotate_left 1
              · (intro w hSw; (try dsimp only at hSw); go_simp; first | done | with_reducible rfl)
              try go_simp
              refine wpAnyH_done (by kernel_rfl) ?_ _
              refine NoPanic.normal ?_
              go_simp
              go_simp
              clear hHeld c0 c1 c2 c3
              have c0 := (EQ.out.grown gb (by simp)).c0
              have c1 := (EQ.out.grown gb (by simp)).c1
              have c2 := (EQ.out.grown gb (by simp)).c2
              have c3 := (EQ.out.grown gb (by simp)).c3
              go_wp2_with fail
              refine (led_g n1 i1 Hn1.out Hi1.out LB lb lcb L1 PB pb pcb P1 (fun s hs => Nat.le_trans (Hs1.out s hs) (by decide)) (by omega) wb (HL1.out.kept gb) (HP1.out.kept gb)).mono ?_
              rintro e w11 ⟨rfl, g11⟩
              clear c0 c1 c2 c3
              have GY := World.grownBy.trans gb g11
              have GT := Lib.hid (((G0.out.trans GS.out).trans gb).trans g11)
              have c0 := (EQ.out.grown GY (by simp)).c0
              have c1 := (EQ.out.grown GY (by simp)).c1
              have c2 := (EQ.out.grown GY (by simp)).c2
              have c3 := (EQ.out.grown GY (by simp)).c3
              have HVL := Lib.hid (ver_led R n1 i1 L1 P1)
              generalize ledS n1 i1 L1 P1 = Ls at *
              generalize fitsB n1 i1 L1 P1 = Fb at *
              clear g11
              cases Fb with
              | false =>
                have HVL : Hid (verB R n1 i1 L1 P1 = false) := Lib.hid (by rw [HVL.out]; rfl)
                go_wp2_with fail
                refine (verify_g R n1 i1 Hn1.out Hi1.out LB lb lcb L1 PB pb pcb P1 (by omega) (by omega) w11 (HL1.out.kept GY) (HP1.out.kept GY)).mono ?_
                rintro e w12 ⟨rfl, g12⟩
                rw [HVL.out]
                go_wp2_with fail
                go_ret
                exact ⟨rfl, GT.out.trans g12⟩
              | true =>
                by_cases hE : Ls = R
                · subst hE
                  go_wp2_with fail
                  go_ret
                  exact ⟨rfl, GT.out⟩
                · have hEb : (Ls == R) = false := by simpa using hE
                  have HVL : Hid (verB R n1 i1 L1 P1 = false) := Lib.hid (by rw [HVL.out, Bool.true_and, beq_eq_false_iff_ne]; exact fun h => hE h.symm)
                  clear hE
                  go_wp2_with fail
                  refine (verify_g R n1 i1 Hn1.out Hi1.out LB lb lcb L1 PB pb pcb P1 (by omega) (by omega) w11 (HL1.out.kept GY) (HP1.out.kept GY)).mono ?_
                  rintro e w12 ⟨rfl, g12⟩
                  rw [HVL.out]
                  go_wp2_with fail
                  go_ret
                  exact ⟨rfl, GT.out.trans g12⟩
          · have hLX : Hid (decide (L1 = ((x.take j).drop i)) = false) := Lib.hid (by simpa using hLX)
            have gz : wz.grownBy wz.drew none := grown_dr (World.grownBy.refl _ _)
            refine wp_region_noPanic ?_
            refine wp_region_held_drew (S := (fun w' => wz.grownBy w' none)) (by kernel_rfl) ?_ (fun hHeld => ?_)
            · (try dsimp only); (repeat (first | assumption | exact World.grownBy.refl _ _ | refine grown_drR ?_ | refine grown_alR ?_))
            refine wpAnyH_take (i := 0) (oi := _) (v := ?_) rfl (by kernel_rfl) (by kernel_rfl) (by kernel_rfl) (fun _ _ _ h => h) (Or.inl ⟨by rfl, ?_⟩) (by assumption) ?_
            rotate_left 1
            · (intro w hSw; (try dsimp only at hSw); go_simp; first | done | with_reducible rfl)
            try go_simp
            refine wpAnyH_take (i := 1) (oi := _) (v := .int .i64 n1) rfl (by kernel_rfl) (by kernel_rfl) (by kernel_rfl) (fun _ _ _ h => h) (Or.inl ⟨by kernel_rfl, ?_⟩) (by assumption) ?_
            · (intro w hSw; (try dsimp only at hSw); go_simp; have q9 := gcellR hSw NE9 c0; clear hSw; go_simp; first | done | with_reducible rfl)
            try go_simp
            refine wpAnyH_take (i := 2) (oi := _) (v := ?_) rfl (by kernel_rfl) (by kernel_rfl) (by kernel_rfl) (fun _ _ _ h => h) (Or.inl ⟨by rfl, ?_⟩) (by assumption) ?_
            rotate_left 1
            · (intro w hSw; (try dsimp only at hSw); go_simp; first | done | with_reducible rfl)
            try go_simp
            refine wpAnyH_take (i := 3) (oi := _) (v := ?_) rfl (by kernel_rfl) (by kernel_rfl) (by kernel_rfl) (fun _ _ _ h => h) (Or.inl ⟨by rfl, ?_⟩) (by assumption) ?_
            rotate_left 1
            · (intro w hSw; (try dsimp only at hSw); go_simp; first | done | with_reducible rfl)
            try go_simp
            refine wpAnyH_take (i := 4) (oi := _) (v := ?_) rfl (by kernel_rfl) (by kernel_rfl) (by kernel_rfl) (fun _ _ _ h => h) (Or.inl ⟨by rfl, ?_⟩) (by assumption) ?_
            rotate_left 1
            · (intro w hSw; (try dsimp only at hSw); go_simp; first | done | with_reducible rfl)
            try go_simp
            refine wpAnyH_take (i := 5) (oi := _) (v := ?_) rfl (by kernel_rfl) (by kernel_rfl) (by kernel_rfl) (fun _ _ _ h => h) (Or.inl ⟨by rfl, ?_⟩) (by assumption) ?_
            rotate_left 1
            · (intro w hSw; (try dsimp only at hSw); go_simp; first | done | with_reducible rfl)
            try go_simp
            refine wpAnyH_take (i := 6) (oi := _) (v := ?_) rfl (by kernel_rfl) (by kernel_rfl) (by kernel_rfl) (fun _ _ _ h => h) (Or.inl ⟨by kernel_rfl, ?_⟩) (by assumption) ?_
            rotate_left 1
            · (intro w hSw; (try dsimp only at hSw); go_simp; first | done | with_reducible rfl)
            try go_simp
            refine wpAnyH_take (i := 7) (oi := _) (v := .int .i64 i1) rfl (by kernel_rfl) (by kernel_rfl) (by kernel_rfl) (fun _ _ _ h => h) (Or.inl ⟨by kernel_rfl, ?_⟩) (by assumption) ?_
            · (intro w hSw; (try dsimp only at hSw); go_simp; have q9 := gcellR hSw NE9 c1; clear hSw; go_simp; first | done | with_reducible rfl)
            try go_simp
            refine wpAnyH_take (i := 8) (oi := _) (v := ?_) rfl (by kernel_rfl) (by kernel_rfl) (by kernel_rfl) (fun _ _ _ h => h) (Or.inl ⟨by kernel_rfl, ?_⟩) (by assumption) ?_
            rotate_left 1
            · (intro w hSw; (try dsimp only at hSw); go_simp; first | done | with_reducible rfl)
            try go_simp
            refine wpAnyH_take (i := 9) (oi := _) (v := ?_) rfl (by kernel_rfl) (by kernel_rfl) (by kernel_rfl) (fun _ _ _ h => h) (Or.inl ⟨by kernel_rfl, ?_⟩) (by assumption) ?_
            rotate_left 1
            · (intro w hSw; (try dsimp only at hSw); go_simp; first | done | with_reducible rfl)
            try go_simp
            refine wpAnyH_take (i := 10) (oi := _) (v := ?_) rfl (by kernel_rfl) (by kernel_rfl) (by kernel_rfl) (fun _ _ _ h => h) (Or.inl ⟨by rfl, ?_⟩) (by assumption) ?_
            rotate_left 1
            · (intro w hSw; (try dsimp only at hSw); go_simp; first | done | with_reducible rfl)
            try go_simp
            refine wpAnyH_take (i := 11) (oi := _) (v := ?_) rfl (by kernel_rfl) (by kernel_rfl) (by kernel_rfl) (fun _ _ _ h => h) (Or.inl ⟨by rfl, ?_⟩) (by assumption) ?_
            rotate_left 1
            · (intro w hSw; (try dsimp only at hSw); go_simp; first | done | with_reducible rfl)
            try go_simp
            refine wpAnyH_take (i := 12) (oi := _) (v := ?_) rfl (by kernel_rfl) (by kernel_rfl) (by kernel_rfl) (fun _ _ _ h => h) (Or.inl ⟨by kernel_rfl, ?_⟩) (by assumption) ?_
            rotate_left 1
            · (intro w hSw; (try dsimp only at hSw); go_simp; first | done | with_reducible rfl)
            try go_simp
            refine wpAnyH_take (i := 13) (oi := _) (v := .slice LB lb lcb) rfl (by kernel_rfl) (by kernel_rfl) (by kernel_rfl) (fun _ _ _ h => h) (Or.inl ⟨by kernel_rfl, ?_⟩) (by assumption) ?_
            · (intro w hSw; (try dsimp only at hSw); go_simp; have q9 := gcellR hSw NE9 c2; clear hSw; go_simp; first | done | with_reducible rfl)
            try go_simp
            refine wpAnyH_take (i := 14) (oi := _) (v := ?_) rfl (by kernel_rfl) (by kernel_rfl) (by kernel_rfl) (fun _ _ _ h => h) (Or.inl ⟨by kernel_rfl, ?_⟩) (by assumption) ?_
            rotate_left 1
            · (intro w hSw; (try dsimp only at hSw); go_simp; first | done | with_reducible rfl)
            try go_simp
            refine wpAnyH_take (i := 15) (oi := _) (v := ?_) rfl (by kernel_rfl) (by kernel_rfl) (by kernel_rfl) (fun _ _ _ h => h) (Or.inl ⟨by kernel_rfl, ?_⟩) (by assumption) ?_
            rotate_left 1
            · (intro w hSw; (try dsimp only at hSw); go_simp; first | done | with_reducible rfl)
            try go_simp
            refine wpAnyH_take (i := 16) (oi := _) (v := ?_) rfl (by kernel_rfl) (by kernel_rfl) (by kernel_rfl) (fun _ _ _ h => h) (Or.inl ⟨by kernel_rfl, ?_⟩) (by assumption) ?_
            rotate_left 1
            · (intro w hSw; (try dsimp only at hSw); go_simp; first | done | with_reducible rfl)
            try go_simp
            refine wpAnyH_take (i := 17) (oi := _) (v := ?_) rfl (by kernel_rfl) (by kernel_rfl) (by kernel_rfl) (fun _ _ _ h => h) (Or.inl ⟨by kernel_rfl, ?_⟩) (by assumption) ?_
            rotate_left 1
            · (intro w hSw; (try dsimp only at hSw); go_simp; first | done | with_reducible rfl)
            try go_simp
            refine wpAnyH_ready (rs := [18]) (by kernel_rfl) (by simp) ?_
            refine AllReadyH.cons (o := _) rfl (fun K hK => ?_) AllReadyH.nil
            go_simp
            refine (same_k LB (XA.map (fun a => a.add i)) lb lcb (j - i) (xc - i) L1 ((x.take j).drop i) wz.drew (HL1.out.kept gz) (HXZ.out.kept gz)).mono ?_
            rintro e wa ⟨rfl, ga⟩
            have ga := World.grownBy.trans gz ga
            rw [hLX.out]
            first | (refine hK.out _ _ ?_ (fun hHeld => ?_)) | (go_wp2_with fail; refine hK.out _ _ ?_ (fun hHeld => ?_))
            · (try dsimp only); (repeat (first | assumption | exact World.grownBy.refl _ _ | refine grown_drR ?_ | refine grown_alR ?_))
            clear hK K
            refine wpAnyH_take (i := 19) (oi := _) (v := ?_) rfl (by kernel_rfl) (by kernel_rfl) (by kernel_rfl) (fun _ _ _ h => h) (Or.inl ⟨by rfl, ?_⟩) (by assumption) ?_
            rotate_left 1
            · (intro w hSw; (try dsimp only at hSw); go_simp; first | done | with_reducible rfl)
            try go_simp
            refine wpAnyH_take (i := 20) (oi := _) (v := ?_) rfl (by kernel_rfl) (by kernel_rfl) (by kernel_rfl) (fun _ _ _ h => h) (Or.inl ⟨by rfl, ?_⟩) (by assumption) ?_
            rotate_left 1
            · (intro w hSw; (try dsimp only at hSw); go_simp; first | done | with_reducible rfl)
            try go_simp
            refine wpAnyH_take (i := 21) (oi := _) (v := undef) rfl (by kernel_rfl) (by kernel_rfl) (by kernel_rfl) (fun _ _ _ h => h) (Or.inr ⟨by kernel_rfl, rfl⟩) (by assumption) ?_
            try go_simp
            refine wpAnyH_take (i := 22) (oi := _) (v := undef) rfl (by kernel_rfl) (by kernel_rfl) (by kernel_rfl) (fun _ _ _ h => h) (Or.inr ⟨by kernel_rfl, rfl⟩) (by assumption) ?_
            try go_simp
            refine wpAnyH_take (i := 23) (oi := _) (v := undef) rfl (by kernel_rfl) (by kernel_rfl) (by kernel_rfl) (fun _ _ _ h => h) (Or.inr ⟨by kernel_rfl, rfl⟩) (by assumption) ?_
            try go_simp
            refine wpAnyH_take (i := 24) (oi := _) (v := undef) rfl (by kernel_rfl) (by kernel_rfl) (by kernel_rfl) (fun _ _ _ h => h) (Or.inr ⟨by kernel_rfl, rfl⟩) (by assumption) ?_
            try go_simp
            refine wpAnyH_take (i := 25) (oi := _) (v := ?_) rfl (by kernel_rfl) (by kernel_rfl) (by kernel_rfl) (fun _ _ _ h => h) (Or.inl ⟨by rfl, ?_⟩) (by assumption) ?_
            rotate_left 1
            · (intro w hSw; (try dsimp only at hSw); go_simp; first | done | with_reducible rfl)
            try go_simp
            refine wpAnyH_done (by kernel_rfl) ?_ _
            refine NoPanic.normal ?_
            go_simp
            go_simp
            clear hHeld c0 c1 c2 c3
            have c0 := (EQ.out.grown ga (by simp)).c0
            have c1 := (EQ.out.grown ga (by simp)).c1
            have c2 := (EQ.out.grown ga (by simp)).c2
            have c3 := (EQ.out.grown ga (by simp)).c3
            go_wp2_with fail
            refine (led_g n1 i1 Hn1.out Hi1.out LB lb lcb L1 PB pb pcb P1 (fun s hs => Nat.le_trans (Hs1.out s hs) (by decide)) (by omega) wa (HL1.out.kept ga) (HP1.out.kept ga)).mono ?_
            rintro e w11 ⟨rfl, g11⟩
            clear c0 c1 c2 c3
            have GY := World.grownBy.trans ga g11
            have GT := Lib.hid (((G0.out.trans GS.out).trans ga).trans g11)
            have c0 := (EQ.out.grown GY (by simp)).c0
            have c1 := (EQ.out.grown GY (by simp)).c1
            have c2 := (EQ.out.grown GY (by simp)).c2
            have c3 := (EQ.out.grown GY (by simp)).c3
            have HVL := Lib.hid (ver_led R n1 i1 L1 P1)
            generalize ledS n1 i1 L1 P1 = Ls at *
            generalize fitsB n1 i1 L1 P1 = Fb at *
            clear g11
            cases Fb with
            | false =>
              have HVL : Hid (verB R n1 i1 L1 P1 = false) := Lib.hid (by rw [HVL.out]; rfl)
              go_wp2_with fail
              refine (verify_g R n1 i1 Hn1.out Hi1.out LB lb lcb L1 PB pb pcb P1 (by omega) (by omega) w11 (HL1.out.kept GY) (HP1.out.kept GY)).mono ?_
              rintro e w12 ⟨rfl, g12⟩
              rw [HVL.out]
              go_wp2_with fail
              go_ret
              exact ⟨rfl, GT.out.trans g12⟩
            | true =>
              by_cases hE : Ls = R
              · subst hE
                go_wp2_with fail
                go_ret
                exact ⟨rfl, GT.out⟩
              · have hEb : (Ls == R) = false := by simpa using hE
                have HVL : Hid (verB R n1 i1 L1 P1 = false) := Lib.hid (by rw [HVL.out, Bool.true_and, beq_eq_false_iff_ne]; exact fun h => hE h.symm)
                clear hE
                go_wp2_with fail
                refine (verify_g R n1 i1 Hn1.out Hi1.out LB lb lcb L1 PB pb pcb P1 (by omega) (by omega) w11 (HL1.out.kept GY) (HP1.out.kept GY)).mono ?_
                rintro e w12 ⟨rfl, g12⟩
                rw [HVL.out]
                go_wp2_with fail
                go_ret
                exact ⟨rfl, GT.out.trans g12⟩
        · have bI : (i1 == (i : Int)) = false := by rw [beq_eq_false_iff_ne]; exact hI
          clear hN hI
          refine wp_region_noPanic ?_
          refine wp_region_held_drew (S := (fun w' => wz.grownBy w' none)) (by kernel_rfl) ?_ (fun hHeld => ?_)
          · (try dsimp only); (repeat (first | assumption | exact World.grownBy.refl _ _ | refine grown_drR ?_ | refine grown_alR ?_))
          refine wpAnyH_take (i := 0) (oi := _) (v := ?_) rfl (by kernel_rfl) (by kernel_rfl) (by kernel_rfl) (fun _ _ _ h => h) (Or.inl ⟨by rfl, ?_⟩) (by assumption) ?_
          rotate_left 1
          · (intro w hSw; (try dsimp only at hSw); go_simp; first | done | with_reducible rfl)
          try go_simp
          refine wpAnyH_take (i := 1) (oi := _) (v := .int .i64 n1) rfl (by kernel_rfl) (by kernel_rfl) (by kernel_rfl) (fun _ _ _ h => h) (Or.inl ⟨by kernel_rfl, ?_⟩) (by assumption) ?_
          · (intro w hSw; (try dsimp only at hSw); go_simp; have q9 := gcellR hSw NE9 c0; clear hSw; go_simp; first | done | with_reducible rfl)
          try go_simp
          refine wpAnyH_take (i := 2) (oi := _) (v := ?_) rfl (by kernel_rfl) (by kernel_rfl) (by kernel_rfl) (fun _ _ _ h => h) (Or.inl ⟨by rfl, ?_⟩) (by assumption) ?_
          rotate_left 1
          · (intro w hSw; (try dsimp only at hSw); go_simp; first | done | with_reducible rfl)
          try go_simp
          refine wpAnyH_take (i := 3) (oi := _) (v := ?_) rfl (by kernel_rfl) (by kernel_rfl) (by kernel_rfl) (fun _ _ _ h => h) (Or.inl ⟨by rfl, ?_⟩) (by assumption) ?_
          rotate_left 1
          · (intro w hSw; (try dsimp only at hSw); go_simp; first | done | with_reducible rfl)
          try go_simp
          refine wpAnyH_take (i := 4) (oi := _) (v := ?_) rfl (by kernel_rfl) (by kernel_rfl) (by kernel_rfl) (fun _ _ _ h => h) (Or.inl ⟨by rfl, ?_⟩) (by assumption) ?_
          rotate_left 1
          · (intro w hSw; (try dsimp only at hSw); go_simp; first | done | with_reducible rfl)
          try go_simp
          refine wpAnyH_take (i := 5) (oi := _) (v := ?_) rfl (by kernel_rfl) (by kernel_rfl) (by kernel_rfl) (fun _ _ _ h => h) (Or.inl ⟨by rfl, ?_⟩) (by assumption) ?_
          rotate_left 1
          · (intro w hSw; (try dsimp only at hSw); go_simp; first | done | with_reducible rfl)
          try go_simp
          refine wpAnyH_take (i := 6) (oi := _) (v := ?_) rfl (by kernel_rfl) (by kernel_rfl) (by kernel_rfl) (fun _ _ _ h => h) (Or.inl ⟨by kernel_rfl, ?_⟩) (by assumption) ?_
          rotate_left 1
          · (intro w hSw; (try dsimp only at hSw); go_simp; first | done | with_reducible rfl)
          try go_simp
          refine wpAnyH_take (i := 7) (oi := _) (v := .int .i64 i1) rfl (by kernel_rfl) (by kernel_rfl) (by kernel_rfl) (fun _ _ _ h => h) (Or.inl ⟨by kernel_rfl, ?_⟩) (by assumption) ?_
          · (intro w hSw; (try dsimp only at hSw); go_simp; have q9 := gcellR hSw NE9 c1; clear hSw; go_simp; first | done | with_reducible rfl)
          try go_simp
          refine wpAnyH_take (i := 8) (oi := _) (v := ?_) rfl (by kernel_rfl) (by kernel_rfl) (by kernel_rfl) (fun _ _ _ h => h) (Or.inl ⟨by kernel_rfl, ?_⟩) (by assumption) ?_
          rotate_left 1
          · (intro w hSw; (try dsimp only at hSw); go_simp; first | done | with_reducible rfl)
          try go_simp
          refine wpAnyH_take (i := 9) (oi := _) (v := ?_) rfl (by kernel_rfl) (by kernel_rfl) (by kernel_rfl) (fun _ _ _ h => h) (Or.inl ⟨by kernel_rfl, ?_⟩) (by assumption) ?_
          rotate_left 1
          · (intro w hSw; (try dsimp only at hSw); go_simp; first | done | with_reducible rfl)
          try go_simp
          refine wpAnyH_take (i := 10) (oi := _) (v := ?_) rfl (by kernel_rfl) (by kernel_rfl) (by kernel_rfl) (fun _ _ _ h => h) (Or.inl ⟨by rfl, ?_⟩) (by assumption) ?_
          rotate_left 1
          · (intro w hSw; (try dsimp only at hSw); go_simp; first | done | with_reducible rfl)
          try go_simp
          refine wpAnyH_take (i := 11) (oi := _) (v := ?_) rfl (by kernel_rfl) (by kernel_rfl) (by kernel_rfl) (fun _ _ _ h => h) (Or.inl ⟨by rfl, ?_⟩) (by assumption) ?_
          rotate_left 1
          · (intro w hSw; (try dsimp only at hSw); go_simp; first | done | with_reducible rfl)
          try go_simp
          refine wpAnyH_take (i := 12) (oi := _) (v := undef) rfl (by kernel_rfl) (by kernel_rfl) (by kernel_rfl) (fun _ _ _ h => h) (Or.inr ⟨by kernel_rfl, rfl⟩) (by assumption) ?_
          try go_simp
          refine wpAnyH_take (i := 13) (oi := _) (v := undef) rfl (by kernel_rfl) (by kernel_rfl) (by kernel_rfl) (fun _ _ _ h => h) (Or.inr ⟨by kernel_rfl, rfl⟩) (by assumption) ?_
          try go_simp
          refine wpAnyH_take (i := 14) (oi := _) (v := undef) rfl (by kernel_rfl) (by kernel_rfl) (by kernel_rfl) (fun _ _ _ h => h) (Or.inr ⟨by kernel_rfl, rfl⟩) (by assumption) ?_
          try go_simp
          refine wpAnyH_take (i := 15) (oi := _) (v := undef) rfl (by kernel_rfl) (by kernel_rfl) (by kernel_rfl) (fun _ _ _ h => h) (Or.inr ⟨by kernel_rfl, rfl⟩) (by assumption) ?_
          try go_simp
          refine wpAnyH_take (i := 16) (oi := _) (v := undef) rfl (by kernel_rfl) (by kernel_rfl) (by kernel_rfl) (fun _ _ _ h => h) (Or.inr ⟨by kernel_rfl, rfl⟩) (by assumption) ?_
          try go_simp
          refine wpAnyH_take (i := 17) (oi := _) (v := undef) rfl (by kernel_rfl) (by kernel_rfl) (by kernel_rfl) (fun _ _ _ h => h) (Or.inr ⟨by kernel_rfl, rfl⟩) (by assumption) ?_
          try go_simp
          refine wpAnyH_take (i := 18) (oi := _) (v := undef) rfl (by kernel_rfl) (by kernel_rfl) (by kernel_rfl) (fun _ _ _ h => h) (Or.inr ⟨by kernel_rfl, rfl⟩) (by assumption) ?_
          try go_simp
          refine wpAnyH_take (i := 19) (oi := _) (v := ?_) rfl (by kernel_rfl) (by kernel_rfl) (by kernel_rfl) (fun _ _ _ h => h) (Or.inl ⟨by rfl, ?_⟩) (by assumption) ?_
          rotate_left 1
          · (intro w hSw; (try dsimp only at hSw); go_simp; first | done | with_reducible rfl)
          try go_simp
          refine wpAnyH_take (i := 20) (oi := _) (v := ?_) rfl (by kernel_rfl) (by kernel_rfl) (by kernel_rfl) (fun _ _ _ h => h) (Or.inl ⟨by rfl, ?_⟩) (by assumption) ?_
          rotate_left 1
          · (intro w hSw; (try dsimp only at hSw); go_simp; first | done | with_reducible rfl)
          try go_simp
          refine wpAnyH_take (i := 21) (oi := _) (v := undef) rfl (by kernel_rfl) (by kernel_rfl) (by kernel_rfl) (fun _ _ _ h => h) (Or.inr ⟨by kernel_rfl, rfl⟩) (by assumption) ?_
          try go_simp
          refine wpAnyH_take (i := 22) (oi := _) (v := undef) rfl (by kernel_rfl) (by kernel_rfl) (by kernel_rfl) (fun _ _ _ h => h) (Or.inr ⟨by kernel_rfl, rfl⟩) (by assumption) ?_
          try go_simp
          refine wpAnyH_take (i := 23) (oi := _) (v := undef) rfl (by kernel_rfl) (by kernel_rfl) (by kernel_rfl) (fun _ _ _ h => h) (Or.inr ⟨by kernel_rfl, rfl⟩) (by assumption) ?_
          try go_simp
          refine wpAnyH_take (i := 24) (oi := _) (v := undef) rfl (by kernel_rfl) (by kernel_rfl) (by kernel_rfl) (fun _ _ _ h => h) (Or.inr ⟨by kernel_rfl, rfl⟩) (by assumption) ?_
          try go_simp
          refine wpAnyH_take (i := 25) (oi := _) (v := ?_) rfl (by kernel_rfl) (by kernel_rfl) (by kernel_rfl) (fun _ _ _ h => h) (Or.inl ⟨by rfl, ?_⟩) (by assumption) ?_
          rotate_left 1
          · (intro w hSw; (try dsimp only at hSw); go_simp; first | done | with_reducible rfl)
          try go_simp
          refine wpAnyH_done (by kernel_rfl) ?_ _
          refine NoPanic.normal ?_
          go_simp
          go_simp
          clear hHeld c0 c1 c2 c3
          have gz : wz.grownBy wz.drew none := grown_dr (World.grownBy.refl _ _)
          have c0 := (EQ.out.grown gz (by simp)).c0
          have c1 := (EQ.out.grown gz (by simp)).c1
          have c2 := (EQ.out.grown gz (by simp)).c2
          have c3 := (EQ.out.grown gz (by simp)).c3
          go_wp2_with fail
          refine (led_g n1 i1 Hn1.out Hi1.out LB lb lcb L1 PB pb pcb P1 (fun s hs => Nat.le_trans (Hs1.out s hs) (by decide)) (by omega) wz.drew (HL1.out.kept gz) (HP1.out.kept gz)).mono ?_
          rintro e w11 ⟨rfl, g11⟩
          clear c0 c1 c2 c3
          have GY := World.grownBy.trans gz g11
          have GT := Lib.hid (((G0.out.trans GS.out).trans gz).trans g11)
          have c0 := (EQ.out.grown GY (by simp)).c0
          have c1 := (EQ.out.grown GY (by simp)).c1
          have c2 := (EQ.out.grown GY (by simp)).c2
          have c3 := (EQ.out.grown GY (by simp)).c3
          have HVL := Lib.hid (ver_led R n1 i1 L1 P1)
          generalize ledS n1 i1 L1 P1 = Ls at *
          generalize fitsB n1 i1 L1 P1 = Fb at *
          clear g11
          cases Fb with
          | false =>
            have HVL : Hid (verB R n1 i1 L1 P1 = false) := Lib.hid (by rw [HVL.out]; rfl)
            go_wp2_with fail
            refine (verify_g R n1 i1 Hn1.out Hi1.out LB lb lcb L1 PB pb pcb P1 (by omega) (by omega) w11 (HL1.out.kept GY) (HP1.out.kept GY)).mono ?_
            rintro e w12 ⟨rfl, g12⟩
            rw [HVL.out]
            go_wp2_with fail
            go_ret
            exact ⟨rfl, GT.out.trans g12⟩
          | true =>
            by_cases hE : Ls = R
            · subst hE
              go_wp2_with fail
              go_ret
              exact ⟨rfl, GT.out⟩
            · have hEb : (Ls == R) = false := by simpa using hE
              have HVL : Hid (verB R n1 i1 L1 P1 = false) := Lib.hid (by rw [HVL.out, Bool.true_and, beq_eq_false_iff_ne]; exact fun h => hE h.symm)
              clear hE
              go_wp2_with fail
              refine (verify_g R n1 i1 Hn1.out Hi1.out LB lb lcb L1 PB pb pcb P1 (by omega) (by omega) w11 (HL1.out.kept GY) (HP1.out.kept GY)).mono ?_
              rintro e w12 ⟨rfl, g12⟩
              rw [HVL.out]
              go_wp2_with fail
              go_ret
              exact ⟨rfl, GT.out.trans g12⟩
      · have bN : (n1 == (xn : Int)) = false := by rw [beq_eq_false_iff_ne]; exact hN
        clear hN
        refine wp_region_noPanic ?_
        refine wp_region_held_drew (S := (fun w' => wz.grownBy w' none)) (by kernel_rfl) ?_ (fun hHeld => ?_)
        · (try dsimp only); (repeat (first | assumption | exact World.grownBy.refl _ _ | refine grown_drR ?_ | refine grown_alR ?_))
        refine wpAnyH_take (i := 0) (oi := _) (v := ?_) rfl (by kernel_rfl) (by kernel_rfl) (by kernel_rfl) (fun _ _ _ h => h) (Or.inl ⟨by rfl, ?_⟩) (by assumption) ?_
        rotate_left 1
        · (intro w hSw; (try dsimp only at hSw); go_simp; first | done | with_reducible rfl)
        try go_simp
        refine wpAnyH_take (i := 1) (oi := _) (v := .int .i64 n1) rfl (by kernel_rfl) (by kernel_rfl) (by kernel_rfl) (fun _ _ _ h => h) (Or.inl ⟨by kernel_rfl, ?_⟩) (by assumption) ?_
        · (intro w hSw; (try dsimp only at hSw); go_simp; have q9 := gcellR hSw NE9 c0; clear hSw; go_simp; first | done | with_reducible rfl)
        try go_simp
        refine wpAnyH_take (i := 2) (oi := _) (v := ?_) rfl (by kernel_rfl) (by kernel_rfl) (by kernel_rfl) (fun _ _ _ h => h) (Or.inl ⟨by rfl, ?_⟩) (by assumption) ?_
        rotate_left 1
        · (intro w hSw; (try dsimp only at hSw); go_simp; first | done | with_reducible rfl)
        try go_simp
        refine wpAnyH_take (i := 3) (oi := _) (v := ?_) rfl (by kernel_rfl) (by kernel_rfl) (by kernel_rfl) (fun _ _ _ h => h) (Or.inl ⟨by rfl, ?_⟩) (by assumption) ?_
        rotate_left 1
        · (intro w hSw; (try dsimp only at hSw); go_simp; first | done | with_reducible rfl)
        try go_simp
        refine wpAnyH_take (i := 4) (oi := _) (v := ?_) rfl (by kernel_rfl) (by kernel_rfl) (by kernel_rfl) (fun _ _ _ h => h) (Or.inl ⟨by rfl, ?_⟩) (by assumption) ?_
        rotate_left 1
        · (intro w hSw; (try dsimp only at hSw); go_simp; first | done | with_reducible rfl)
        try go_simp
        refine wpAnyH_take (i := 5) (oi := _) (v := ?_) rfl (by kernel_rfl) (by kernel_rfl) (by kernel_rfl) (fun _ _ _ h => h) (Or.inl ⟨by rfl, ?_⟩) (by assumption) ?_
        rotate_left 1
        · (intro w hSw; (try dsimp only at hSw); go_simp; first | done | with_reducible rfl)
        try go_simp
        refine wpAnyH_take (i := 6) (oi := _) (v := undef) rfl (by kernel_rfl) (by kernel_rfl) (by kernel_rfl) (fun _ _ _ h => h) (Or.inr ⟨by kernel_rfl, rfl⟩) (by assumption) ?_
        try go_simp
        refine wpAnyH_take (i := 7) (oi := _) (v := undef) rfl (by kernel_rfl) (by kernel_rfl) (by kernel_rfl) (fun _ _ _ h => h) (Or.inr ⟨by kernel_rfl, rfl⟩) (by assumption) ?_
        try go_simp
        refine wpAnyH_take (i := 8) (oi := _) (v := undef) rfl (by kernel_rfl) (by kernel_rfl) (by kernel_rfl) (fun _ _ _ h => h) (Or.inr ⟨by kernel_rfl, rfl⟩) (by assumption) ?_
        try go_simp
        refine wpAnyH_take (i := 9) (oi := _) (v := undef) rfl (by kernel_rfl) (by kernel_rfl) (by kernel_rfl) (fun _ _ _ h => h) (Or.inr ⟨by kernel_rfl, rfl⟩) (by assumption) ?_
        try go_simp
        refine wpAnyH_take (i := 10) (oi := _) (v := ?_) rfl (by kernel_rfl) (by kernel_rfl) (by kernel_rfl) (fun _ _ _ h => h) (Or.inl ⟨by rfl, ?_⟩) (by assumption) ?_
        rotate_left 1
        · (intro w hSw; (try dsimp only at hSw); go_simp; first | done | with_reducible rfl)
        try go_simp
        refine wpAnyH_take (i := 11) (oi := _) (v := ?_) rfl (by kernel_rfl) (by kernel_rfl) (by kernel_rfl) (fun _ _ _ h => h) (Or.inl ⟨by rfl, ?_⟩) (by assumption) ?_
        rotate_left 1
        · (intro w hSw; (try dsimp only at hSw); go_simp; first | done | with_reducible rfl)
        try go_simp
        refine wpAnyH_take (i := 12) (oi := _) (v := undef) rfl (by kernel_rfl) (by kernel_rfl) (by kernel_rfl) (fun _ _ _ h => h) (Or.inr ⟨by kernel_rfl, rfl⟩) (by assumption) ?_
        try go_simp
        refine wpAnyH_take (i := 13) (oi := _) (v := undef) rfl (by kernel_rfl) (by kernel_rfl) (by kernel_rfl) (fun _ _ _ h => h) (Or.inr ⟨by kernel_rfl, rfl⟩) (by assumption) ?_
        try go_simp
        refine wpAnyH_take (i := 14) (oi := _) (v := undef) rfl (by kernel_rfl) (by kernel_rfl) (by kernel_rfl) (fun _ _ _ h => h) (Or.inr ⟨by kernel_rfl, rfl⟩) (by assumption) ?_
        try go_simp
        refine wpAnyH_take (i := 15) (oi := _) (v := undef) rfl (by kernel_rfl) (by kernel_rfl) (by kernel_rfl) (fun _ _ _ h => h) (Or.inr ⟨by kernel_rfl, rfl⟩) (by assumption) ?_
        try go_simp
        refine wpAnyH_take (i := 16) (oi := _) (v := undef) rfl (by kernel_rfl) (by kernel_rfl) (by kernel_rfl) (fun _ _ _ h => h) (Or.inr ⟨by kernel_rfl, rfl⟩) (by assumption) ?_
        try go_simp
        refine wpAnyH_take (i := 17) (oi := _) (v := undef) rfl (by kernel_rfl) (by kernel_rfl) (by kernel_rfl) (fun _ _ _ h => h) (Or.inr ⟨by kernel_rfl, rfl⟩) (by assumption) ?_
        try go_simp
        refine wpAnyH_take (i := 18) (oi := _) (v := undef) rfl (by kernel_rfl) (by kernel_rfl) (by kernel_rfl) (fun _ _ _ h => h) (Or.inr ⟨by kernel_rfl, rfl⟩) (by assumption) ?_
        try go_simp
        refine wpAnyH_take (i := 19) (oi := _) (v := ?_) rfl (by kernel_rfl) (by kernel_rfl) (by kernel_rfl) (fun _ _ _ h => h) (Or.inl ⟨by rfl, ?_⟩) (by assumption) ?_
        rotate_left 1
        · (intro w hSw; (try dsimp only at hSw); go_simp; first | done | with_reducible rfl)
        try go_simp
        refine wpAnyH_take (i := 20) (oi := _) (v := ?_) rfl (by kernel_rfl) (by kernel_rfl) (by kernel_rfl) (fun _ _ _ h => h) (Or.inl ⟨by rfl, ?_⟩) (by assumption) ?_
        rotate_left 1
        · (intro w hSw; (try dsimp only at hSw); go_simp; first | done | with_reducible rfl)
        try go_simp
        refine wpAnyH_take (i := 21) (oi := _) (v := undef) rfl (by kernel_rfl) (by kernel_rfl) (by kernel_rfl) (fun _ _ _ h => h) (Or.inr ⟨by kernel_rfl, rfl⟩) (by assumption) ?_
        try go_simp
        refine wpAnyH_take (i := 22) (oi := _) (v := undef) rfl (by kernel_rfl) (by kernel_rfl) (by kernel_rfl) (fun _ _ _ h => h) (Or.inr ⟨by kernel_rfl, rfl⟩) (by assumption) ?_
        try go_simp
        refine wpAnyH_take (i := 23) (oi := _) (v := undef) rfl (by kernel_rfl) (by kernel_rfl) (by kernel_rfl) (fun _ _ _ h => h) (Or.inr ⟨by kernel_rfl, rfl⟩) (by assumption) ?_
        try go_simp
        refine wpAnyH_take (i := 24) (oi := _) (v := undef) rfl (by kernel_rfl) (by kernel_rfl) (by kernel_rfl) (fun _ _ _ h => h) (Or.inr ⟨by kernel_rfl, rfl⟩) (by assumption) ?_
        try go_simp
        refine wpAnyH_take (i := 25) (oi := _) (v := ?_) rfl (by kernel_rfl) (by kernel_rfl) (by kernel_rfl) (fun _ _ _ h => h) (Or.inl ⟨by rfl, ?_⟩) (by assumption) ?_
        rotate_left 1
        · (intro w hSw; (try dsimp only at hSw); go_simp; first | done | with_reducible rfl)
        try go_simp
        refine wpAnyH_done (by kernel_rfl) ?_ _
        refine NoPanic.normal ?_
        go_simp
        go_simp
        clear hHeld c0 c1 c2 c3
        have gz : wz.grownBy wz.drew none := grown_dr (World.grownBy.refl _ _)
        have c0 := (EQ.out.grown gz (by simp)).c0
        have c1 := (EQ.out.grown gz (by simp)).c1
        have c2 := (EQ.out.grown gz (by simp)).c2
        have c3 := (EQ.out.grown gz (by simp)).c3
        go_wp2_with fail
        refine (led_g n1 i1 Hn1.out Hi1.out LB lb lcb L1 PB pb pcb P1 (fun s hs => Nat.le_trans (Hs1.out s hs) (by decide)) (by omega) wz.drew (HL1.out.kept gz) (HP1.out.kept gz)).mono ?_
        rintro e w11 ⟨rfl, g11⟩
        clear c0 c1 c2 c3
        have GY := World.grownBy.trans gz g11
        have GT := Lib.hid (((G0.out.trans GS.out).trans gz).trans g11)
        have c0 := (EQ.out.grown GY (by simp)).c0
        have c1 := (EQ.out.grown GY (by simp)).c1
        have c2 := (EQ.out.grown GY (by simp)).c2
        have c3 := (EQ.out.grown GY (by simp)).c3
        have HVL := Lib.hid (ver_led R n1 i1 L1 P1)
        generalize ledS n1 i1 L1 P1 = Ls at *
        generalize fitsB n1 i1 L1 P1 = Fb at *
        clear g11
        cases Fb with
        | false =>
          have HVL : Hid (verB R n1 i1 L1 P1 = false) := Lib.hid (by rw [HVL.out]; rfl)
          go_wp2_with fail
          refine (verify_g R n1 i1 Hn1.out Hi1.out LB lb lcb L1 PB pb pcb P1 (by omega) (by omega) w11 (HL1.out.kept GY) (HP1.out.kept GY)).mono ?_
          rintro e w12 ⟨rfl, g12⟩
          rw [HVL.out]
          go_wp2_with fail
          go_ret
          exact ⟨rfl, GT.out.trans g12⟩
        | true =>
          by_cases hE : Ls = R
          · subst hE
            go_wp2_with fail
            go_ret
            exact ⟨rfl, GT.out⟩
          · have hEb : (Ls == R) = false := by simpa using hE
            have HVL : Hid (verB R n1 i1 L1 P1 = false) := Lib.hid (by rw [HVL.out, Bool.true_and, beq_eq_false_iff_ne]; exact fun h => hE h.symm)
            clear hE
            go_wp2_with fail
            refine (verify_g R n1 i1 Hn1.out Hi1.out LB lb lcb L1 PB pb pcb P1 (by omega) (by omega) w11 (HL1.out.kept GY) (HP1.out.kept GY)).mono ?_
            rintro e w12 ⟨rfl, g12⟩
            rw [HVL.out]
            go_wp2_with fail
            go_ret
            exact ⟨rfl, GT.out.trans g12⟩
end Go.Proofs.Ytljjmoeplfcblaa
