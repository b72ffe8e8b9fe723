/-
  The law DigestGrows.
-/
import Derived.Test.YtljjmoeplfcblaaExtends
import Derived.Test.YtljjmoeplfcblaaFew
namespace Go.Proofs.Ytljjmoeplfcblaa
open Go.RowKit Go.Shelf
attribute [local go_sem] get_mk extract_mk
/-- quadriviumlaw02.whole -/
theorem wholel_k (A : Option Addr) (n c : Nat) (l : List Str) (hn : n ≤ 1000) (w : World) (hl : Strs w A n c l) :
    Calls Try.prog 41 #[.slice A n c] w fun e w' => ∃ v, e = .returned v ∧ w'.ownsRow w.heap.size 9 1 v (proofL l n n).length ((proofL l n n).map fun s => .string ⟨s.toArray⟩) ∧ w.grownBy w' none := by
  have HP := Lib.hid (grow_k A n c l hn n (Nat.le_refl _) w hl)
  clear hl
  go_enter Try.func41, Try.ntmps41
  go_wp2_with fail
  refine HP.out.mono ?_
  rintro e w1 ⟨v, rfl, o, g⟩
  go_wp2_with fail
  go_ret
  exact ⟨v, rfl, o, g⟩
theorem proofL_len (l : List Str) (i j : Nat) : (proofL l i j).length ≤ i + (l.length - j) := by
  unfold proofL
  rw [List.length_append, sums_len, sums_len]
  have h1 := blocks_len' 0 i
  have h2 := blocks_len' j l.length
  omega
theorem ext_whole (l : List Str) (h40 : l.length ≤ 1099511627776) : extB (root l) l.length (root l) l.length (proofL l l.length l.length) = true := by
  have := ext_true l l.length (Nat.le_refl _) h40
  rwa [List.take_length] at this
theorem ext_other (l : List Str) (k : Nat) (old : Str) (hk : k ≤ l.length) (h40 : l.length ≤ 1099511627776) (h : old ≠ root (l.take k)) : extB old k (root l) l.length (proofL l k k) = false := by
  have ht := ext_true l k hk h40
  cases hf : extB old k (root l) l.length (proofL l k k) with
  | false => rfl
  | true =>
    exfalso
    unfold extB at ht
    unfold extB proofL at hf
    simp only [Bool.and_eq_true, beq_iff_eq] at ht hf
    exact h (hf.1.2.trans ht.1.2.symm)
theorem few_len (l : List Str) : (fewL l).length ≤ 20 := by
  unfold fewL
  rw [List.length_map, List.length_take]
  omega
theorem few_12 (l : List Str) : ∀ s ∈ fewL l, s.length ≤ 12 := fun s hs => by
  obtain ⟨x, _, rfl⟩ := List.mem_map.1 hs
  exact List.length_take_le _ _
theorem grown_setCell' (w : World) (b i : Nat) (v : Value) : w.grownBy (w.setCell ⟨b, i, none⟩ v) (some b) :=
  ⟨rfl, rfl, rfl, by simp [World.setCell], fun k _ hne => Below.heap_setCell w _ v k (by rintro rfl; exact hne rfl)⟩
set_option maxRecDepth 100000 in
set_option maxHeartbeats 8000000 in
theorem grows_walk (A : Option Addr) (n c : Nat) (l : List Str) (m a : Nat) (hm : m ≤ 255) (ha : a ≤ 255) (w : World) (hn : n = l.length) (hcm : c ≤ maxLen) (hnc : n ≤ c) (hls : ∀ x ∈ l, x.length ≤ 9223372036854775807)
    (hA : 0 < n → ∃ ad, A = some ad ∧ ad.block < w.heap.size ∧ ∀ j x, l[j]? = some x → w.cell? (ad.add j) = some (.string ⟨x.toArray⟩)) :
    Calls Try.prog 8 #[.slice A n c, .int .u8 m, .int .u8 a] w fun e w' => e = .returned (.bool true) ∧ w.grownBy w' none := by
  have HF := Lib.hid (fun w1 (g : w.grownBy w1 none) => few_k A c n l w1 hn hcm hnc hls (fun h => by
    obtain ⟨ad, e, hb, hc⟩ := hA h
    exact ⟨ad, e, Nat.lt_of_lt_of_le hb g.size, fun j x hj => g.cell (hc j x hj) (by simp)⟩))
  clear hn hcm hnc hls hA
  go_enter Try.func8, Try.ntmps8
  go_wp2_with fail
  refine (sane_k w).mono ?_
  rintro e w1 ⟨rfl, g1⟩
  go_wp2_with fail
  refine (HF.out w1 g1).mono ?_
  rintro e w2 ⟨v, rfl, o2, g2⟩
  have hl20 := few_len l
  have hl12 := few_12 l
  generalize fewL l = x at *
  obtain ⟨XA, xc, rfl, HX⟩ := own_strs o2 (fun s hs => Nat.le_trans (hl12 s hs) (by decide))
  have g12 := g1.trans g2
  have hxc := HX.le
  have hxcc := HX.cap
  obtain ⟨xn, hxn⟩ : ∃ k, x.length = k := ⟨_, rfl⟩
  rw [hxn] at HX hxc hl20
  rw [hxn]
  have Hxn := Lib.hid hxn
  have HX := Lib.hid (fun W (g : w2.grownBy W none) => HX.kept g)
  clear o2 g1 g2 hxn
  have e1 : Hid ((m : Int) % ((xn : Int) + 1) = ((m % (xn + 1) : Nat) : Int)) := Lib.hid (by simp)
  have hk := Nat.mod_lt m (show 0 < xn + 1 by omega)
  go_upto_region 4 with fail
  rw [e1.out]
  clear e1
  generalize m % (xn + 1) = k at *
  have hkx : k ≤ xn := by omega
  have t1 : (k : Int) ≤ (xc : Int) := by omega
  have hx1 := ext_true x k (by have := Hxn.out; omega) (by have := Hxn.out; omega)
  have hx2 := ext_whole x (by have := Hxn.out; omega)
  have hx3 := fun old => ext_other x k old (by have := Hxn.out; omega) (by have := Hxn.out; omega)
  have hpl := proofL_len x k k
  have hpl2 := proofL_len x xn xn
  have hp8 := pl_8 x k k
  have hq8 := pl_8 x xn xn
  change extB (root (List.take k x)) ↑k (root x) ↑x.length (proofL x k k) = true at hx1
  rw [Hxn.out] at hx1 hx2 hx3 hpl hpl2
  have RX := Lib.hid (fun W (g : w2.grownBy W none) => root_k XA xn xc x (by omega) W (HX.out W g))
  have RK := Lib.hid (fun W (g : w2.grownBy W none) => root_k XA k xc (x.take k) (by omega) W ((HX.out W g).take hkx))
  have GK := Lib.hid (grow_k XA xn xc x (by omega) k hkx w2 (HX.out w2 (World.grownBy.refl _ _)))
  have WK := Lib.hid (fun W (g : w2.grownBy W none) => wholel_k XA xn xc x (by omega) W (HX.out W g))
  have EK := fun (old r : Str) (m n : Nat) (PA : Option Addr) (p pc : Nat) (PL : List Str) h1 h2 h3 W h4 => extends_k old r m n PA p pc PL h1 h2 h3 W h4
  have EK := Lib.hid EK
  have X1 := Lib.hid hx1
  have X2 := Lib.hid hx2
  have X3 := Lib.hid hx3
  generalize hP : proofL x k k = P at *
  generalize hP2 : proofL x xn xn = P2 at *
  generalize hR : root x = R at *
  generalize hR2 : root (x.take k) = Rk at *
  clear hx1 hx2 hx3 hP hP2 hR
  have g0 := World.grownBy.refl w2 none
  go_wp2_with fail
  refine GK.out.mono ?_
  rintro e w3 ⟨v3, rfl, o3, g3⟩
  obtain ⟨PA, pc, rfl, HP⟩ := own_strs o3 (fun s hs => Nat.le_trans (hp8 s hs) (by decide))
  have HP := Lib.hid (fun W (g : w3.grownBy W none) => HP.kept g)
  have hpl3 : P.length ≤ 20 := by omega
  have Hpl : Hid (P.length = P.length) := Lib.hid rfl
  obtain ⟨pn, hpn⟩ : ∃ k, P.length = k := ⟨_, rfl⟩
  rw [hpn] at hpl3 HP
  rw [hpn]
  have Hpn := Lib.hid hpn
  clear o3 GK hpn Hpl g0
  go_wp2_with fail
  refine (RK.out w3 g3).mono ?_
  rintro e w4 ⟨rfl, g4⟩
  have g04 := g3.trans g4
  go_wp2_with fail
  refine (RX.out w4 g04).mono ?_
  rintro e w5 ⟨rfl, g5⟩
  have g05 := g04.trans g5
  have g35 := g4.trans g5
  go_wp2_with fail
  have E1 := EK.out Rk R k xn PA pn pc P hkx (by omega) (by omega) w5 (HP.out w5 g35)
  rw [X1.out] at E1
  refine E1.mono ?_
  rintro e w6 ⟨rfl, g6⟩
  have g06 := g05.trans g6
  have g36 := g35.trans g6
  clear g3 g4 g04 g5 g05 g35 g6
  go_wp2_with fail
  refine (RX.out w6 g06).mono ?_
  rintro e w7 ⟨rfl, g7⟩
  have g07 := g06.trans g7
  go_wp2_with fail
  refine (RX.out w7 g07).mono ?_
  rintro e w8 ⟨rfl, g8⟩
  have g08 := g07.trans g8
  go_wp2_with fail
  refine (WK.out w8 g08).mono ?_
  rintro e w9 ⟨v9, rfl, o9, g9⟩
  have g09 := g08.trans g9
  have g39 := ((g36.trans g7).trans g8).trans g9
  obtain ⟨QA, qc, rfl, HQ⟩ := own_strs o9 (fun s hs => Nat.le_trans (hq8 s hs) (by decide))
  clear g06 g36 g7 g07 g8 g08 g9 o9
  go_wp2_with fail
  have E2 := EK.out R R xn xn QA P2.length qc P2 (Nat.le_refl _) (by omega) (by omega) w9 HQ
  rw [X2.out] at E2
  refine E2.mono ?_
  rintro e w10 ⟨rfl, g10⟩
  have g010 := g09.trans g10
  have g310 := g39.trans g10
  clear g09 g39 g10 HQ
  by_cases hk0 : k = 0
  · have b0 : ((k : Int) == 0) = true := by simp [hk0]
    clear hk0
    go_wp2_with fail
    go_ret
    exact ⟨rfl, g12.trans g010⟩
  · obtain ⟨ad, rfl, hadb, hadc⟩ := ((HX.out w10 g010).take hkx).cell (by omega)
    have b0 : ((k : Int) == 0) = false := by simpa using hk0
    obtain ⟨i0, hi0, hz0, hz1, hz2⟩ := info_parts info9
    have hnews : ∀ j u, ((x.take k).map fun s => Value.string ⟨s.toArray⟩)[j]? = some u → (w10.alloc (.cells #[] 9)).cell? (ad.add j) = some u := fun j u hu => by
      rw [List.getElem?_map, Option.map_eq_some_iff] at hu
      obtain ⟨s, hs, rfl⟩ := hu
      exact (World.grownBy_alloc w10 _ none).cell (hadc j s hs) (by simp)
    have hone : ∀ u ∈ ((x.take k).map fun s => Value.string ⟨s.toArray⟩), u.oneCell' = true := fun u hu => by
      obtain ⟨s, _, rfl⟩ := List.mem_map.1 hu
      rfl
    have hmade := World.ownsRow_made (base := w10.heap.size) (e := 9) (size := 1) w10 #[] 0 (Nat.le_refl _) (by decide) rfl
    have hlk : (x.take k).length = k := by rw [List.length_take]; have := Hxn.out; omega
    have Hnews := Lib.hid hnews
    have Hone := Lib.hid hone
    have Hmade := Lib.hid hmade
    have Hlk := Lib.hid hlk
    clear hnews hone hmade hlk hadc
    go_upto_region 10 with (at_builtin; refine wpList_append_own_at _ rfl _ _ 29 rfl w10.heap.size 9 i0 _ 1 16 Try.underlying29 hi0 hz0 hz1 hz2 rfl (by omega) (.slice (some ⟨w10.heap.size, 0, none⟩) 0 0) 0 _ rfl Hmade.out ad k xc ((x.take k).map fun s => .string ⟨s.toArray⟩) rfl (by simpa using Hlk.out) Hnews.out Hone.out (by simp only [maxLen]; omega) (by omega) (by simp) ?_; intro v11 w11 hown hgrow hnil hloc)
    have g1011 : w10.grownBy w11 none := (World.grownBy_alloc w10 (.cells #[] 9) none).andThen hgrow (fun r e => by
      have e2 : w10.heap.size = r := by simpa [Value.ownBlock] using e
      exact .inl (by omega))
    rcases hown.2 with ⟨rfl, h0⟩ | ⟨g, cap, cur, rfl, hgb, hg, h1, h2, h3, h4⟩
    · omega
    · have ia0 : 0 ≤ (a : Int) % (k : Int) := Int.emod_nonneg _ (by omega)
      have ia1 : (a : Int) % (k : Int) < (k : Int) := Int.emod_lt_of_pos _ (by omega)
      have ia2 : ((a : Int) % (k : Int)).toNat = a % k := by omega
      have ia3 : a % k < k := Nat.mod_lt _ (by omega)
      clear ia2 hown hgrow hnil hloc
      rw [Nat.zero_add] at h1 h4
      rw [Nat.zero_add]
      simp only [List.nil_append] at h4
      obtain ⟨s, hs⟩ : ∃ s, (x.take k)[a % k]? = some s := ⟨_, List.getElem?_eq_getElem (by rw [Hlk.out]; exact ia3)⟩
      have hcell : ∀ j s, (x.take k)[j]? = some s → w11.cell? ⟨g, j, none⟩ = some (.string ⟨s.toArray⟩) := fun j s hj => by
        have : ((x.take k).map fun s => Value.string ⟨s.toArray⟩)[j]? = some (.string ⟨s.toArray⟩) := by rw [List.getElem?_map, hj]; rfl
        rw [← h4, List.getElem?_take] at this
        split at this
        · simpa [World.cell?, hg] using this
        · cases this
      have hc1 := hcell _ s hs
      have hfz : ∀ i, w11.frozen? ⟨g, i, none⟩ = false := fun i => by simp [World.frozen?, hg]
      have hgl : g < w11.heap.size := (Array.getElem?_eq_some_iff.1 hg).1
      have Hcell := Lib.hid hcell
      have Hs := Lib.hid hs
      have Hg := Lib.hid hg
      have H4 := Lib.hid h4
      clear hcell hs hg h4 h3
      have hsl : s.length ≤ 12 := hl12 s (List.mem_of_mem_take (List.mem_of_getElem? Hs.out))
      obtain ⟨y, hy⟩ : ∃ y, (x.take k).set (a % k) (s ++ [120]) = y := ⟨_, rfl⟩
      have hyl : y.length = k := by rw [← hy, List.length_set, Hlk.out]
      have hy13 : ∀ z ∈ y, z.length ≤ 13 := fun z hz => by
        rw [← hy] at hz
        rcases List.mem_or_eq_of_mem_set hz with hz | rfl
        · exact Nat.le_trans (hl12 z (List.mem_of_mem_take hz)) (by decide)
        · simp; omega
      have HY : Strs (w11.setCell ⟨g, a % k, none⟩ (.string (⟨s.toArray⟩ ++ ⟨#[120]⟩))) (some ⟨g, 0, none⟩) k cap y := by
        refine ⟨hyl.symm, h1, by unfold maxLen at h2; omega, fun z hz => Nat.le_trans (hy13 z hz) (by decide), fun _ => ⟨_, rfl, by simpa [World.setCell] using hgl, fun j z hj => ?_⟩⟩
        rw [show (⟨g, 0, none⟩ : Addr).add j = ⟨g, j, none⟩ by unfold Addr.add; split <;> simp_all]
        rw [← hy, List.getElem?_set] at hj
        split at hj
        · rename_i e
          subst e
          split at hj
          · injection hj with hj
            subst hj
            rw [show (⟨s.toArray⟩ : ByteArray) ++ ⟨#[120]⟩ = ⟨(s ++ [120]).toArray⟩ from str_app s [120]]
            exact World.cell?_setCell_same w11 _ _ hc1
          · cases hj
        · rename_i e
          rw [World.cell?_setCell_other w11 _ _ _ (fun h => e (by injection h))]
          exact Hcell.out j z hj
      have gS : w10.grownBy (w11.setCell ⟨g, a % k, none⟩ (.string (⟨s.toArray⟩ ++ ⟨#[120]⟩))) none := g1011.andThen (grown_setCell' w11 g (a % k) _) (fun r e => by injection e with e; exact .inl (by omega))
      have HY := Lib.hid HY
      have gS := Lib.hid gS
      have hyl := Lib.hid hyl
      clear hy hy13
      go_wp2_with fail
      have gS := gS.out
      have HY := HY.out
      have RY := Lib.hid (root_k (some ⟨g, 0, none⟩) k cap y (by omega) _ HY)
      generalize w11.setCell ⟨g, a % k, none⟩ (.string (⟨s.toArray⟩ ++ ⟨#[120]⟩)) = w12 at *
      generalize root y = Ry at *
      refine RY.out.mono ?_
      rintro e w13 ⟨rfl, g13⟩
      have g13 := gS.trans g13
      have g213 := g010.trans g13
      have hce : (k : Int) ≤ (xc : Int) := by omega
      by_cases hE : Ry = Rk
      · subst hE
        go_wp2_with fail
        refine (RK.out w13 g213).mono ?_
        rintro e w14 ⟨rfl, g14⟩
        go_wp2_with fail
        go_ret
        exact ⟨rfl, g12.trans (g213.trans g14)⟩
      · have E3 := X3.out Ry hE
        have hEb : (Ry == Rk) = false := by simpa using hE
        have E3 := Lib.hid E3
        clear hE
        go_wp2_with fail
        refine (RK.out w13 g213).mono ?_
        rintro e w14 ⟨rfl, g14⟩
        have g214 := g213.trans g14
        go_wp2_with fail
        refine (RX.out w14 g214).mono ?_
        rintro e w15 ⟨rfl, g15⟩
        have g215 := g214.trans g15
        have g315 := ((g310.trans g13).trans g14).trans g15
        go_wp2_with fail
        have E4 := EK.out Ry R k xn PA pn pc P hkx (by omega) (by omega) w15 (HP.out w15 g315)
        rw [E3.out] at E4
        refine E4.mono ?_
        rintro e w16 ⟨rfl, g16⟩
        go_wp2_with fail
        go_ret
        exact ⟨rfl, g12.trans (g215.trans g16)⟩
end Go.Proofs.Ytljjmoeplfcblaa
