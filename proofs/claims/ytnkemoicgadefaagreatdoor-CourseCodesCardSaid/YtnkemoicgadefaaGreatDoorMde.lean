/-
  Made.
-/
import Derived.Test.YtnkemoicgadefaaGreatDoorMwd
namespace Go.Proofs.YtnkemoicgadefaaGreatDoor
open Go.RowKit
attribute [local go_sem] get_mk extract_mk
def mS (z : Value) : Nat := (5 - (intOf z).toNat) % 5
theorem mS_zero {x : Nat} (h : 0 < x) (h4 : x ≤ 4) : mS (.int .i64 0) < mS (.int .i64 (x : Int)) := by
  show (5 - (0 : Int).toNat) % 5 < (5 - (x : Int).toNat) % 5
  omega
theorem mS_next {x : Nat} (h : 0 < x) (h4 : x < 4) : mS (.int .i64 ((x : Int) + 1)) < mS (.int .i64 (x : Int)) := by
  show (5 - ((x : Int) + 1).toNat) % 5 < (5 - (x : Int).toNat) % 5
  omega
set_option maxRecDepth 100000 in
set_option maxHeartbeats 8000000 in
theorem made_r (A : Option Addr) (n c : Nat) (l : List Int) (w : World) (h : Ints w A n c l) :
    Calls Tryz.prog 5 #[.slice A n c] w fun e w' => ∃ (B : Option Addr) (d : Nat) (vs : List V) (L : List O), e = .returned (.slice B L.length d) ∧ Offs w' B L.length d vs L ∧ MadeL 6 L ∧ w.grownBy w' none := by
  have HAL := Lib.hid (fun W (g : w.grownBy W none) => h.kept g)
  have hle := h.v.le
  have hcap := h.v.cap
  obtain ⟨w1, e1, HP, g1⟩ := row_of w 51 #[.slice A n c, .int .i64 0]
  have HNE : Hid (∀ ad, A = some ad → 0 < n → ad.block ≠ w.heap.size) := Lib.hid (fun ad e h0 => by
    obtain ⟨ad', e', hb, _⟩ := h.v.cell h0
    rw [e] at e'
    injection e' with e'
    subst e'
    omega)
  have s1 : w1.heap.size = w.heap.size + 1 := by rw [e1]; simp
  have HS1 := Lib.hid s1
  have E1 := Lib.hid e1
  have HPW := Lib.hid (Nat.le_refl w.heap.size)
  clear e1 h s1
  go_enter Tryz.func5, Tryz.ntmps5
  go_upto_region 2 with fail
  rw [← E1.out]
  clear E1
  obtain ⟨P, hP⟩ : ∃ P, P = w.heap.size := ⟨_, rfl⟩
  rw [← hP] at HP HNE ⊢
  have HPE := Lib.hid hP
  clear hP HPW
  have HD1 : Hid (Dr w1 P A n c 0) := Lib.hid ⟨HP, Nat.zero_le _⟩
  have G1 := Lib.hid g1
  clear HP g1
  go_wp2_with fail
  refine (codes_r w1).mono ?_
  rintro e w2 ⟨rfl, hcs, g2⟩
  rw [show w1.heap.size = P + 1 by rw [HS1.out, HPE.out]] at hcs ⊢
  have HCS := Lib.hid hcs
  have HD2 := Lib.hid (HD1.out.kept g2 (by simp))
  have G2 := Lib.hid (G1.out.trans g2)
  clear hcs g2 HD1 G1 HS1
  go_wp2_with fail
  go_loopw [4, 6] (fun y z wr => ∃ (k at_ : Nat) (vs : List V) (L : List O), k ≤ 6 ∧ z = .int .i64 (k : Int) ∧ Hid (Dr wr P A n c at_ ∧ Strs wr (some ⟨P + 1, 0, none⟩) 6 6 codesL ∧ OutIs wr (P + 2) y vs L ∧ MadeL k L) ∧ Hid (w.grownBy wr none)) (fun _ z _ => 6 - (intOf z).toNat)
  case atStart => exact ⟨0, 0, [], [], by omega, rfl, Lib.hid ⟨HD2.out, HCS.out, out_nil _ _, made_nil⟩, G2⟩
  case round =>
    clear HD2 HCS G2
    obtain ⟨k, at_, vs, L, hk, rfl, H, HG⟩ := hrel
    generalize u4 = y at *
    obtain ⟨B, d, rfl, hoffs, hBb⟩ := H.out.2.2.1.offs
    have HDr := Lib.hid H.out.1
    have HCS := Lib.hid H.out.2.1
    have HOU := Lib.hid H.out.2.2.1
    have HML := Lib.hid H.out.2.2.2
    have HOF := Lib.hid hoffs
    have HBB := Lib.hid hBb
    have hble := hoffs.v.le
    have hbcap := hoffs.v.cap
    clear H hoffs hBb
    obtain ⟨m, hm⟩ : ∃ m, m = L.length := ⟨_, rfl⟩
    rw [← hm] at HOF hble ⊢
    have HM := Lib.hid hm
    clear hm
    by_cases hlt : k < 6
    · have k1 : (0 : Int) ≤ (k : Int) := by omega
      have k2 : (k : Int) < 6 := by omega
      have k3 : decide ((k : Int) < 6) = true := decide_eq_true k2
      have k5 : IntKind.i64.wrap (k : Int) = (k : Int) := by rw [IntKind.wrap_i64]; omega
      have k6 : IntKind.i64.wrap ((k : Int) + 1) = (k : Int) + 1 := by rw [IntKind.wrap_i64]; omega
      have HPS := Lib.hid HDr.out.row.lt
      go_wp2_with fail
      refine (draw_n P A n c l at_ 5 (by omega) (by omega) _ HDr.out.row HDr.out.le (HAL.out _ HG.out) HNE.out).mono ?_
      rintro e w4 ⟨i, at2, rfl, hi, ha2, hd2, g4⟩
      have G4 := Lib.hid g4
      have HG4 := Lib.hid (HG.out.andThen g4 (by rintro j ⟨⟩; exact .inl (by rw [HPE.out]; exact Nat.le_refl _)))
      have HD4 : Hid (Dr w4 P A n c at2) := Lib.hid ⟨hd2, ha2⟩
      have HOU4 := Lib.hid (HOU.out.kept g4 (by rintro j ⟨⟩; omega))
      have HCS4 : Hid (Strs w4 (some ⟨P + 1, 0, none⟩) 6 6 codesL) := Lib.hid ⟨HCS.out.v.keptR g4 (by rintro ad ⟨⟩ _ e; injection e with e; simp at e), HCS.out.ok⟩
      have HSZ4 : Hid (P + 2 ≤ w4.heap.size ∧ P < w4.heap.size) := Lib.hid (by
        have := HD4.out.row.lt
        obtain ⟨ad, e, hb, _⟩ := HCS4.out.v.cell (by omega)
        injection e with e
        subst e
        simp only at hb
        omega)
      clear hd2 ha2 g4 HDr HOU HCS HOF HBB
      by_cases hi4 : i = 4
      · subst hi4
        clear hi
        go_wp2_with fail
        go_roundw
        case rel => exact ⟨k + 1, at2, vs, L, by omega, by go_num, Lib.hid ⟨HD4.out, HCS4.out, by rw [HM.out]; exact HOU4.out, made_skip HML.out⟩, HG4⟩
        case measure => simp [intOf]; omega
      · have q4 : (((i : Int)) == 4) = false := by simp; omega
        clear hi4
        obtain ⟨code, hck, hcl⟩ : ∃ code, codesL[k]? = some code ∧ code.length ≤ 1152921504606846976 := ⟨_, List.getElem?_eq_getElem (by show k < 6; exact hlt), HCS4.out.ok _ (List.getElem_mem _)⟩
        have HCC := Lib.hid hck
        have HCL := Lib.hid hcl
        have HCK : Hid (w4.cell? ⟨P + 1, k, none⟩ = some (.string ⟨code.toArray⟩)) := Lib.hid (by
          obtain ⟨ad, x, h1, _, h2, _, h3⟩ := HCS4.out.at k hlt
          injection h2 with h2
          subst h2
          rw [hck] at h1
          injection h1 with h1
          subst h1
          rwa [add_zero] at h3)
        have HAI := Lib.hid (fun W (g : w4.grownBy W (some P)) => HAL.out W (HG4.out.andThen g (by rintro j ⟨⟩; exact .inl (by rw [HPE.out]; exact Nat.le_refl _))))
        have HNP : Hid (∀ b, w4.heap.size ≤ b → (some b : Option Nat) ≠ some P) := Lib.hid (fun b hb e => by injection e with e; have := HSZ4.out.2; omega)
        clear hck hcl
        go_upto_region 8 with fail
        go_cut [7] (fun v wx => ∃ (ob at3 : Nat) (cr pl : Int) (w5 : World), v = .pointer (some ⟨ob, 0, none⟩) ∧ (1 ≤ cr ∧ cr ≤ 60) ∧ (0 ≤ pl ∧ pl ≤ 200) ∧ Row w5 ob 41 #[.string ⟨code.toArray⟩, .int .i64 cr, .int .i64 pl, .slice none 0 0, .slice none 0 0] ∧ w4.heap.size ≤ ob ∧ Dr w5 P A n c at3 ∧ w4.grownBy w5 (some P) ∧ w5 = wx)
        case first =>
          have hd4 := HD4.out
          clear HAL HCS4 HOU4 HML HM HG4 HG
          refine wp_region_noPanic ?_
          refine wp_region_held_drew (S := (fun W => w4.grownBy W (some P))) (by kernel_rfl) ?_ (fun hHeld => ?_)
          · (try dsimp only); exact grow_some P (grown_dr (grown_refl _))
          refine wpAnyH_take (i := 0) (oi := _) (v := ?_) rfl (by kernel_rfl) (by kernel_rfl) (by kernel_rfl) (fun _ _ _ h => h) (Or.inl ⟨by rfl, ?_⟩) (by assumption) ?_
          rotate_left 1
          · (intro w hSw; (try dsimp only at hSw); go_simp; first | done | with_reducible rfl)
          try go_simp
          refine wpAnyH_take (i := 1) (oi := _) (v := ?_) rfl (by kernel_rfl) (by kernel_rfl) (by kernel_rfl) (fun _ _ _ h => h) (Or.inl ⟨by rfl, ?_⟩) (by assumption) ?_
          rotate_left 1
          · (intro w hSw; (try dsimp only at hSw); go_simp; first | done | with_reducible rfl)
          try go_simp
          refine wpAnyH_take (i := 2) (oi := _) (v := ?_) rfl (by kernel_rfl) (by kernel_rfl) (by kernel_rfl) (fun _ _ _ h => h) (Or.inl ⟨by rfl, ?_⟩) (by assumption) ?_
          rotate_left 1
          · (intro w hSw; (try dsimp only at hSw); go_simp; first | done | with_reducible rfl)
          try go_simp
          refine wpAnyH_take (i := 3) (oi := _) (v := .string ⟨code.toArray⟩) rfl (by kernel_rfl) (by kernel_rfl) (by kernel_rfl) (fun _ _ _ h => h) (Or.inl ⟨by kernel_rfl, ?_⟩) (by assumption) ?_
          · (intro w hSw; (try dsimp only at hSw); go_simp; have y := hSw.cell HCK.out (by simp); clear hSw; go_simp; first | done | with_reducible rfl)
          try go_simp
          refine wpAnyH_take (i := 5) (oi := _) (v := ?_) rfl (by kernel_rfl) (by kernel_rfl) (by kernel_rfl) (fun _ _ _ h => h) (Or.inl ⟨by rfl, ?_⟩) (by assumption) ?_
          rotate_left 1
          · (intro w hSw; (try dsimp only at hSw); go_simp; first | done | with_reducible rfl)
          try go_simp
          refine wpAnyH_take (i := 10) (oi := _) (v := ?_) rfl (by kernel_rfl) (by kernel_rfl) (by kernel_rfl) (fun _ _ _ h => h) (Or.inl ⟨by rfl, ?_⟩) (by assumption) ?_
          rotate_left 1
          · (intro w hSw; (try dsimp only at hSw); go_simp; first | done | with_reducible rfl)
          try go_simp
          refine name_them fun ops Q a0 hops hQ ha => ?_
          have LD_4_6_7_8_9_11_12_13_14_15 : Hid (∀ (a : Act) (w' : World) (at_ : Nat) (b4 : Nat) (i6 : Nat) (x8 : Int) (b9 : Nat) (i11 : Nat) (x13 : Int) (b15 : Nat), a = ((((((((((a0.put (some 27) (.slice (some ⟨b4, 0, none⟩) 6 6)).put (some 29) (.int .i64 (i6 : Int))).put (some 30) (.pointer (some ⟨b4, i6, none⟩))).put (some 31) (.int .i64 x8)).put (some 32) (.slice (some ⟨b9, 0, none⟩) 6 6)).put (some 34) (.int .i64 (i11 : Int))).put (some 35) (.pointer (some ⟨b9, i11, none⟩))).put (some 36) (.int .i64 x13)).put (some 37) (.agg #[.string ⟨code.toArray⟩, .int .i64 x8, .int .i64 x13, .slice none 0 0, .slice none 0 0])).put (some 7) (.pointer (some ⟨b15, 0, none⟩))) → (w4.grownBy w' (some P)) → (Dr w' P A n c at_) → (Row w' b4 3 #[.int .i64 5, .int .i64 6, .int .i64 3, .int .i64 10, .int .i64 5, .int .i64 20]) → (w4.heap.size ≤ b4) → (i6 < 6) → (1 ≤ x8 ∧ x8 ≤ 60) → (Row w' b9 3 #[.int .i64 2, .int .i64 1, .int .i64 0, .int .i64 30, .int .i64 200, .int .i64 3]) → (w4.heap.size ≤ b9) → (i11 < 6) → (0 ≤ x13 ∧ x13 ≤ 200) → (Row w' b15 41 #[.string ⟨#[]⟩, .int .i64 0, .int .i64 0, .slice none 0 0, .slice none 0 0]) → (w4.heap.size ≤ b15) → wpAnyH Tryz.prog .any ops Q (fun W => w4.grownBy W (some P)) 1 #[true, true, true, true, true, true, true, true, true, true, true, true, true, true, true, true, false] a w') := Lib.hid (by
            rintro a w' at_ b4 i6 x8 b9 i11 x13 b15 rfl HG HD HR4 HS4 H6 H8 HR9 HS9 H11 H13 HR15 HS15
            subst hops hQ ha
            have hHeld := HG
            go_simp
            have q6 : ((i6 : Nat) : Int) < 6 := by omega
            have p6 : (0 : Int) ≤ ((i6 : Nat) : Int) := by omega
            have q11 : ((i11 : Nat) : Int) < 6 := by omega
            have p11 : (0 : Int) ≤ ((i11 : Nat) : Int) := by omega
            refine wpAnyH_ready (rs := [16]) (by kernel_rfl) (by simp) ?_
            refine AllReadyH.cons (o := _) rfl (fun K hK => ?_) AllReadyH.nil
            clear hHeld
            have c0 := HR15.c 0 rfl
            have f0 := HR15.fz 0
            have c1 := HR15.c 1 rfl
            have f1 := HR15.fz 1
            have c2 := HR15.c 2 rfl
            have f2 := HR15.fz 2
            have c3 := HR15.c 3 rfl
            have f3 := HR15.fz 3
            have c4 := HR15.c 4 rfl
            have f4 := HR15.fz 4
            have hlt15 := HR15.lt
            have RS : Row _ b15 41 #[.string ⟨code.toArray⟩, .int .i64 x8, .int .i64 x13, .slice none 0 0, .slice none 0 0] := (((((HR15.set 0 (.string ⟨code.toArray⟩)).set 1 (.int .i64 x8)).set 2 (.int .i64 x13)).set 3 (.slice none 0 0)).set 4 (.slice none 0 0))
            have GS := (((((HG.andThen (grown_setCell _ b15 0 (.string ⟨code.toArray⟩)) (by rintro j ⟨⟩; exact .inl HS15)).andThen (grown_setCell _ b15 1 (.int .i64 x8)) (by rintro j ⟨⟩; exact .inl HS15)).andThen (grown_setCell _ b15 2 (.int .i64 x13)) (by rintro j ⟨⟩; exact .inl HS15)).andThen (grown_setCell _ b15 3 (.slice none 0 0)) (by rintro j ⟨⟩; exact .inl HS15)).andThen (grown_setCell _ b15 4 (.slice none 0 0)) (by rintro j ⟨⟩; exact .inl HS15))
            have DS := (((((HD.kept (grown_setCell _ b15 0 (.string ⟨code.toArray⟩)) (HNP.out _ HS15).symm).kept (grown_setCell _ b15 1 (.int .i64 x8)) (HNP.out _ HS15).symm).kept (grown_setCell _ b15 2 (.int .i64 x13)) (HNP.out _ HS15).symm).kept (grown_setCell _ b15 3 (.slice none 0 0)) (HNP.out _ HS15).symm).kept (grown_setCell _ b15 4 (.slice none 0 0)) (HNP.out _ HS15).symm)
            clear HR4 HR9 HR15 HD HG
            go_simp
            first | (refine hK.out _ _ ?_ (fun hHeld => ?_)) | (go_wp2_with fail; refine hK.out _ _ ?_ (fun hHeld => ?_))
            · (try dsimp only); exact GS
            clear hK K
            refine wpAnyH_done (by kernel_rfl) ?_ _
            refine NoPanic.normal ?_
            go_simp
            go_wp2_with fail
            go_meet
            exact ⟨b15, at_, x8, x13, _, rfl, H8, H13, RS, HS15, DS, GS, rfl⟩)
          have LD_4_6_7_8_9_11_12_13_14 : Hid (∀ (a : Act) (w' : World) (at_ : Nat) (b4 : Nat) (i6 : Nat) (x8 : Int) (b9 : Nat) (i11 : Nat) (x13 : Int), a = (((((((((a0.put (some 27) (.slice (some ⟨b4, 0, none⟩) 6 6)).put (some 29) (.int .i64 (i6 : Int))).put (some 30) (.pointer (some ⟨b4, i6, none⟩))).put (some 31) (.int .i64 x8)).put (some 32) (.slice (some ⟨b9, 0, none⟩) 6 6)).put (some 34) (.int .i64 (i11 : Int))).put (some 35) (.pointer (some ⟨b9, i11, none⟩))).put (some 36) (.int .i64 x13)).put (some 37) (.agg #[.string ⟨code.toArray⟩, .int .i64 x8, .int .i64 x13, .slice none 0 0, .slice none 0 0])) → (w4.grownBy w' (some P)) → (Dr w' P A n c at_) → (Row w' b4 3 #[.int .i64 5, .int .i64 6, .int .i64 3, .int .i64 10, .int .i64 5, .int .i64 20]) → (w4.heap.size ≤ b4) → (i6 < 6) → (1 ≤ x8 ∧ x8 ≤ 60) → (Row w' b9 3 #[.int .i64 2, .int .i64 1, .int .i64 0, .int .i64 30, .int .i64 200, .int .i64 3]) → (w4.heap.size ≤ b9) → (i11 < 6) → (0 ≤ x13 ∧ x13 ≤ 200) → wpAnyH Tryz.prog .any ops Q (fun W => w4.grownBy W (some P)) 2 #[true, true, true, true, true, true, true, true, true, true, true, true, true, true, true, false, false] a w') := Lib.hid (by
            rintro a w' at_ b4 i6 x8 b9 i11 x13 rfl HG HD HR4 HS4 H6 H8 HR9 HS9 H11 H13
            subst hops hQ ha
            have hHeld := HG
            go_simp
            have q6 : ((i6 : Nat) : Int) < 6 := by omega
            have p6 : (0 : Int) ≤ ((i6 : Nat) : Int) := by omega
            have q11 : ((i11 : Nat) : Int) < 6 := by omega
            have p11 : (0 : Int) ≤ ((i11 : Nat) : Int) := by omega
            refine wpAnyH_ready (rs := [15]) (by kernel_rfl) (by simp) ?_
            refine AllReadyH.cons (o := _) rfl (fun K hK => ?_) ?_
            · clear hHeld
              go_simp
              first | (refine hK.out _ _ ?_ (fun hHeld => ?_)) | (go_wp2_with fail; refine hK.out _ _ ?_ (fun hHeld => ?_))
              · (try dsimp only); exact grow_p HG (World.grownBy_alloc _ _ none)
              clear hK K
              go_simp
              obtain ⟨b15, hb15⟩ : ∃ b, b = w'.heap.size := ⟨_, rfl⟩
              have HR15 : Row (w'.alloc (.cells #[.string ⟨#[]⟩, .int .i64 0, .int .i64 0, .slice none 0 0, .slice none 0 0] 41)) b15 41 #[.string ⟨#[]⟩, .int .i64 0, .int .i64 0, .slice none 0 0, .slice none 0 0] := by rw [hb15]; exact Row.new _ _ _
              have HS15 : w4.heap.size ≤ b15 := by rw [hb15]; exact HG.size
              rw [← hb15]
              clear hb15
              exact LD_4_6_7_8_9_11_12_13_14_15.out _ _ _ _ _ _ _ _ _ _ (by kernel_rfl) (grow_p HG (World.grownBy_alloc _ _ none)) (HD.kept (World.grownBy_alloc _ _ none) (by simp)) (HR4.kept (World.grownBy_alloc _ _ none)) HS4 H6 H8 (HR9.kept (World.grownBy_alloc _ _ none)) HS9 H11 H13 HR15 HS15
            exact AllReadyH.nil)
          have LD_4_6_7_8_9_11_12_15 : Hid (∀ (a : Act) (w' : World) (at_ : Nat) (b4 : Nat) (i6 : Nat) (x8 : Int) (b9 : Nat) (i11 : Nat) (b15 : Nat), a = ((((((((a0.put (some 27) (.slice (some ⟨b4, 0, none⟩) 6 6)).put (some 29) (.int .i64 (i6 : Int))).put (some 30) (.pointer (some ⟨b4, i6, none⟩))).put (some 31) (.int .i64 x8)).put (some 32) (.slice (some ⟨b9, 0, none⟩) 6 6)).put (some 34) (.int .i64 (i11 : Int))).put (some 35) (.pointer (some ⟨b9, i11, none⟩))).put (some 7) (.pointer (some ⟨b15, 0, none⟩))) → (w4.grownBy w' (some P)) → (Dr w' P A n c at_) → (Row w' b4 3 #[.int .i64 5, .int .i64 6, .int .i64 3, .int .i64 10, .int .i64 5, .int .i64 20]) → (w4.heap.size ≤ b4) → (i6 < 6) → (1 ≤ x8 ∧ x8 ≤ 60) → (Row w' b9 3 #[.int .i64 2, .int .i64 1, .int .i64 0, .int .i64 30, .int .i64 200, .int .i64 3]) → (w4.heap.size ≤ b9) → (i11 < 6) → (Row w' b15 41 #[.string ⟨#[]⟩, .int .i64 0, .int .i64 0, .slice none 0 0, .slice none 0 0]) → (w4.heap.size ≤ b15) → wpAnyH Tryz.prog .any ops Q (fun W => w4.grownBy W (some P)) 3 #[true, true, true, true, true, true, true, true, true, true, true, true, true, false, false, true, false] a w') := Lib.hid (by
            rintro a w' at_ b4 i6 x8 b9 i11 b15 rfl HG HD HR4 HS4 H6 H8 HR9 HS9 H11 HR15 HS15
            subst hops hQ ha
            have hHeld := HG
            go_simp
            have q6 : ((i6 : Nat) : Int) < 6 := by omega
            have p6 : (0 : Int) ≤ ((i6 : Nat) : Int) := by omega
            have q11 : ((i11 : Nat) : Int) < 6 := by omega
            have p11 : (0 : Int) ≤ ((i11 : Nat) : Int) := by omega
            refine wpAnyH_ready (rs := [13]) (by kernel_rfl) (by simp) ?_
            refine AllReadyH.cons (o := _) rfl (fun K hK => ?_) ?_
            · clear hHeld
              obtain ⟨x13, cx, hx1, hx2⟩ := row6 (lo := 0) (hi := 200) HR9 H11 (by decide)
              go_simp
              first | (refine hK.out _ _ ?_ (fun hHeld => ?_)) | (go_wp2_with fail; refine hK.out _ _ ?_ (fun hHeld => ?_))
              · (try dsimp only); exact HG
              clear hK K
              go_simp
              refine wpAnyH_take (i := 14) (oi := _) (v := .agg #[.string ⟨code.toArray⟩, .int .i64 x8, .int .i64 x13, .slice none 0 0, .slice none 0 0]) rfl (by kernel_rfl) (by kernel_rfl) (by kernel_rfl) (fun _ _ _ h => h) (Or.inl ⟨by kernel_rfl, ?_⟩) (by assumption) ?_
              · (intro w hSw; (try dsimp only at hSw); go_simp; first | done | with_reducible rfl)
              try go_simp
              exact LD_4_6_7_8_9_11_12_13_14_15.out _ _ _ _ _ _ _ _ _ _ (by kernel_rfl) HG HD HR4 HS4 H6 H8 HR9 HS9 H11 ⟨hx1, hx2⟩ HR15 HS15
            exact AllReadyH.nil)
          have LD_4_6_7_9_11_12_13_15 : Hid (∀ (a : Act) (w' : World) (at_ : Nat) (b4 : Nat) (i6 : Nat) (b9 : Nat) (i11 : Nat) (x13 : Int) (b15 : Nat), a = ((((((((a0.put (some 27) (.slice (some ⟨b4, 0, none⟩) 6 6)).put (some 29) (.int .i64 (i6 : Int))).put (some 30) (.pointer (some ⟨b4, i6, none⟩))).put (some 32) (.slice (some ⟨b9, 0, none⟩) 6 6)).put (some 34) (.int .i64 (i11 : Int))).put (some 35) (.pointer (some ⟨b9, i11, none⟩))).put (some 36) (.int .i64 x13)).put (some 7) (.pointer (some ⟨b15, 0, none⟩))) → (w4.grownBy w' (some P)) → (Dr w' P A n c at_) → (Row w' b4 3 #[.int .i64 5, .int .i64 6, .int .i64 3, .int .i64 10, .int .i64 5, .int .i64 20]) → (w4.heap.size ≤ b4) → (i6 < 6) → (Row w' b9 3 #[.int .i64 2, .int .i64 1, .int .i64 0, .int .i64 30, .int .i64 200, .int .i64 3]) → (w4.heap.size ≤ b9) → (i11 < 6) → (0 ≤ x13 ∧ x13 ≤ 200) → (Row w' b15 41 #[.string ⟨#[]⟩, .int .i64 0, .int .i64 0, .slice none 0 0, .slice none 0 0]) → (w4.heap.size ≤ b15) → wpAnyH Tryz.prog .any ops Q (fun W => w4.grownBy W (some P)) 3 #[true, true, true, true, true, true, true, true, false, true, true, true, true, true, false, true, false] a w') := Lib.hid (by
            rintro a w' at_ b4 i6 b9 i11 x13 b15 rfl HG HD HR4 HS4 H6 HR9 HS9 H11 H13 HR15 HS15
            subst hops hQ ha
            have hHeld := HG
            go_simp
            have q6 : ((i6 : Nat) : Int) < 6 := by omega
            have p6 : (0 : Int) ≤ ((i6 : Nat) : Int) := by omega
            have q11 : ((i11 : Nat) : Int) < 6 := by omega
            have p11 : (0 : Int) ≤ ((i11 : Nat) : Int) := by omega
            refine wpAnyH_ready (rs := [8]) (by kernel_rfl) (by simp) ?_
            refine AllReadyH.cons (o := _) rfl (fun K hK => ?_) ?_
            · clear hHeld
              obtain ⟨x8, cx, hx1, hx2⟩ := row6 (lo := 1) (hi := 60) HR4 H6 (by decide)
              go_simp
              first | (refine hK.out _ _ ?_ (fun hHeld => ?_)) | (go_wp2_with fail; refine hK.out _ _ ?_ (fun hHeld => ?_))
              · (try dsimp only); exact HG
              clear hK K
              go_simp
              refine wpAnyH_take (i := 14) (oi := _) (v := .agg #[.string ⟨code.toArray⟩, .int .i64 x8, .int .i64 x13, .slice none 0 0, .slice none 0 0]) rfl (by kernel_rfl) (by kernel_rfl) (by kernel_rfl) (fun _ _ _ h => h) (Or.inl ⟨by kernel_rfl, ?_⟩) (by assumption) ?_
              · (intro w hSw; (try dsimp only at hSw); go_simp; first | done | with_reducible rfl)
              try go_simp
              exact LD_4_6_7_8_9_11_12_13_14_15.out _ _ _ _ _ _ _ _ _ _ (by kernel_rfl) HG HD HR4 HS4 H6 ⟨hx1, hx2⟩ HR9 HS9 H11 H13 HR15 HS15
            exact AllReadyH.nil)
          have LD_4_6_7_8_9_11_12 : Hid (∀ (a : Act) (w' : World) (at_ : Nat) (b4 : Nat) (i6 : Nat) (x8 : Int) (b9 : Nat) (i11 : Nat), a = (((((((a0.put (some 27) (.slice (some ⟨b4, 0, none⟩) 6 6)).put (some 29) (.int .i64 (i6 : Int))).put (some 30) (.pointer (some ⟨b4, i6, none⟩))).put (some 31) (.int .i64 x8)).put (some 32) (.slice (some ⟨b9, 0, none⟩) 6 6)).put (some 34) (.int .i64 (i11 : Int))).put (some 35) (.pointer (some ⟨b9, i11, none⟩))) → (w4.grownBy w' (some P)) → (Dr w' P A n c at_) → (Row w' b4 3 #[.int .i64 5, .int .i64 6, .int .i64 3, .int .i64 10, .int .i64 5, .int .i64 20]) → (w4.heap.size ≤ b4) → (i6 < 6) → (1 ≤ x8 ∧ x8 ≤ 60) → (Row w' b9 3 #[.int .i64 2, .int .i64 1, .int .i64 0, .int .i64 30, .int .i64 200, .int .i64 3]) → (w4.heap.size ≤ b9) → (i11 < 6) → wpAnyH Tryz.prog .any ops Q (fun W => w4.grownBy W (some P)) 4 #[true, true, true, true, true, true, true, true, true, true, true, true, true, false, false, false, false] a w') := Lib.hid (by
            rintro a w' at_ b4 i6 x8 b9 i11 rfl HG HD HR4 HS4 H6 H8 HR9 HS9 H11
            subst hops hQ ha
            have hHeld := HG
            go_simp
            have q6 : ((i6 : Nat) : Int) < 6 := by omega
            have p6 : (0 : Int) ≤ ((i6 : Nat) : Int) := by omega
            have q11 : ((i11 : Nat) : Int) < 6 := by omega
            have p11 : (0 : Int) ≤ ((i11 : Nat) : Int) := by omega
            refine wpAnyH_ready (rs := [13, 15]) (by kernel_rfl) (by simp) ?_
            refine AllReadyH.cons (o := _) rfl (fun K hK => ?_) ?_
            · clear hHeld
              obtain ⟨x13, cx, hx1, hx2⟩ := row6 (lo := 0) (hi := 200) HR9 H11 (by decide)
              go_simp
              first | (refine hK.out _ _ ?_ (fun hHeld => ?_)) | (go_wp2_with fail; refine hK.out _ _ ?_ (fun hHeld => ?_))
              · (try dsimp only); exact HG
              clear hK K
              go_simp
              refine wpAnyH_take (i := 14) (oi := _) (v := .agg #[.string ⟨code.toArray⟩, .int .i64 x8, .int .i64 x13, .slice none 0 0, .slice none 0 0]) rfl (by kernel_rfl) (by kernel_rfl) (by kernel_rfl) (fun _ _ _ h => h) (Or.inl ⟨by kernel_rfl, ?_⟩) (by assumption) ?_
              · (intro w hSw; (try dsimp only at hSw); go_simp; first | done | with_reducible rfl)
              try go_simp
              exact LD_4_6_7_8_9_11_12_13_14.out _ _ _ _ _ _ _ _ _ (by kernel_rfl) HG HD HR4 HS4 H6 H8 HR9 HS9 H11 ⟨hx1, hx2⟩
            refine AllReadyH.cons (o := _) rfl (fun K hK => ?_) ?_
            · clear hHeld
              go_simp
              first | (refine hK.out _ _ ?_ (fun hHeld => ?_)) | (go_wp2_with fail; refine hK.out _ _ ?_ (fun hHeld => ?_))
              · (try dsimp only); exact grow_p HG (World.grownBy_alloc _ _ none)
              clear hK K
              go_simp
              obtain ⟨b15, hb15⟩ : ∃ b, b = w'.heap.size := ⟨_, rfl⟩
              have HR15 : Row (w'.alloc (.cells #[.string ⟨#[]⟩, .int .i64 0, .int .i64 0, .slice none 0 0, .slice none 0 0] 41)) b15 41 #[.string ⟨#[]⟩, .int .i64 0, .int .i64 0, .slice none 0 0, .slice none 0 0] := by rw [hb15]; exact Row.new _ _ _
              have HS15 : w4.heap.size ≤ b15 := by rw [hb15]; exact HG.size
              rw [← hb15]
              clear hb15
              exact LD_4_6_7_8_9_11_12_15.out _ _ _ _ _ _ _ _ _ (by kernel_rfl) (grow_p HG (World.grownBy_alloc _ _ none)) (HD.kept (World.grownBy_alloc _ _ none) (by simp)) (HR4.kept (World.grownBy_alloc _ _ none)) HS4 H6 H8 (HR9.kept (World.grownBy_alloc _ _ none)) HS9 H11 HR15 HS15
            exact AllReadyH.nil)
          have LD_4_6_7_9_11_12_13 : Hid (∀ (a : Act) (w' : World) (at_ : Nat) (b4 : Nat) (i6 : Nat) (b9 : Nat) (i11 : Nat) (x13 : Int), a = (((((((a0.put (some 27) (.slice (some ⟨b4, 0, none⟩) 6 6)).put (some 29) (.int .i64 (i6 : Int))).put (some 30) (.pointer (some ⟨b4, i6, none⟩))).put (some 32) (.slice (some ⟨b9, 0, none⟩) 6 6)).put (some 34) (.int .i64 (i11 : Int))).put (some 35) (.pointer (some ⟨b9, i11, none⟩))).put (some 36) (.int .i64 x13)) → (w4.grownBy w' (some P)) → (Dr w' P A n c at_) → (Row w' b4 3 #[.int .i64 5, .int .i64 6, .int .i64 3, .int .i64 10, .int .i64 5, .int .i64 20]) → (w4.heap.size ≤ b4) → (i6 < 6) → (Row w' b9 3 #[.int .i64 2, .int .i64 1, .int .i64 0, .int .i64 30, .int .i64 200, .int .i64 3]) → (w4.heap.size ≤ b9) → (i11 < 6) → (0 ≤ x13 ∧ x13 ≤ 200) → wpAnyH Tryz.prog .any ops Q (fun W => w4.grownBy W (some P)) 4 #[true, true, true, true, true, true, true, true, false, true, true, true, true, true, false, false, false] a w') := Lib.hid (by
            rintro a w' at_ b4 i6 b9 i11 x13 rfl HG HD HR4 HS4 H6 HR9 HS9 H11 H13
            subst hops hQ ha
            have hHeld := HG
            go_simp
            have q6 : ((i6 : Nat) : Int) < 6 := by omega
            have p6 : (0 : Int) ≤ ((i6 : Nat) : Int) := by omega
            have q11 : ((i11 : Nat) : Int) < 6 := by omega
            have p11 : (0 : Int) ≤ ((i11 : Nat) : Int) := by omega
            refine wpAnyH_ready (rs := [8, 15]) (by kernel_rfl) (by simp) ?_
            refine AllReadyH.cons (o := _) rfl (fun K hK => ?_) ?_
            · clear hHeld
              obtain ⟨x8, cx, hx1, hx2⟩ := row6 (lo := 1) (hi := 60) HR4 H6 (by decide)
              go_simp
              first | (refine hK.out _ _ ?_ (fun hHeld => ?_)) | (go_wp2_with fail; refine hK.out _ _ ?_ (fun hHeld => ?_))
              · (try dsimp only); exact HG
              clear hK K
              go_simp
              refine wpAnyH_take (i := 14) (oi := _) (v := .agg #[.string ⟨code.toArray⟩, .int .i64 x8, .int .i64 x13, .slice none 0 0, .slice none 0 0]) rfl (by kernel_rfl) (by kernel_rfl) (by kernel_rfl) (fun _ _ _ h => h) (Or.inl ⟨by kernel_rfl, ?_⟩) (by assumption) ?_
              · (intro w hSw; (try dsimp only at hSw); go_simp; first | done | with_reducible rfl)
              try go_simp
              exact LD_4_6_7_8_9_11_12_13_14.out _ _ _ _ _ _ _ _ _ (by kernel_rfl) HG HD HR4 HS4 H6 ⟨hx1, hx2⟩ HR9 HS9 H11 H13
            refine AllReadyH.cons (o := _) rfl (fun K hK => ?_) ?_
            · clear hHeld
              go_simp
              first | (refine hK.out _ _ ?_ (fun hHeld => ?_)) | (go_wp2_with fail; refine hK.out _ _ ?_ (fun hHeld => ?_))
              · (try dsimp only); exact grow_p HG (World.grownBy_alloc _ _ none)
              clear hK K
              go_simp
              obtain ⟨b15, hb15⟩ : ∃ b, b = w'.heap.size := ⟨_, rfl⟩
              have HR15 : Row (w'.alloc (.cells #[.string ⟨#[]⟩, .int .i64 0, .int .i64 0, .slice none 0 0, .slice none 0 0] 41)) b15 41 #[.string ⟨#[]⟩, .int .i64 0, .int .i64 0, .slice none 0 0, .slice none 0 0] := by rw [hb15]; exact Row.new _ _ _
              have HS15 : w4.heap.size ≤ b15 := by rw [hb15]; exact HG.size
              rw [← hb15]
              clear hb15
              exact LD_4_6_7_9_11_12_13_15.out _ _ _ _ _ _ _ _ _ (by kernel_rfl) (grow_p HG (World.grownBy_alloc _ _ none)) (HD.kept (World.grownBy_alloc _ _ none) (by simp)) (HR4.kept (World.grownBy_alloc _ _ none)) HS4 H6 (HR9.kept (World.grownBy_alloc _ _ none)) HS9 H11 H13 HR15 HS15
            exact AllReadyH.nil)
          have LD_4_6_7_9_11_12_15 : Hid (∀ (a : Act) (w' : World) (at_ : Nat) (b4 : Nat) (i6 : Nat) (b9 : Nat) (i11 : Nat) (b15 : Nat), a = (((((((a0.put (some 27) (.slice (some ⟨b4, 0, none⟩) 6 6)).put (some 29) (.int .i64 (i6 : Int))).put (some 30) (.pointer (some ⟨b4, i6, none⟩))).put (some 32) (.slice (some ⟨b9, 0, none⟩) 6 6)).put (some 34) (.int .i64 (i11 : Int))).put (some 35) (.pointer (some ⟨b9, i11, none⟩))).put (some 7) (.pointer (some ⟨b15, 0, none⟩))) → (w4.grownBy w' (some P)) → (Dr w' P A n c at_) → (Row w' b4 3 #[.int .i64 5, .int .i64 6, .int .i64 3, .int .i64 10, .int .i64 5, .int .i64 20]) → (w4.heap.size ≤ b4) → (i6 < 6) → (Row w' b9 3 #[.int .i64 2, .int .i64 1, .int .i64 0, .int .i64 30, .int .i64 200, .int .i64 3]) → (w4.heap.size ≤ b9) → (i11 < 6) → (Row w' b15 41 #[.string ⟨#[]⟩, .int .i64 0, .int .i64 0, .slice none 0 0, .slice none 0 0]) → (w4.heap.size ≤ b15) → wpAnyH Tryz.prog .any ops Q (fun W => w4.grownBy W (some P)) 4 #[true, true, true, true, true, true, true, true, false, true, true, true, true, false, false, true, false] a w') := Lib.hid (by
            rintro a w' at_ b4 i6 b9 i11 b15 rfl HG HD HR4 HS4 H6 HR9 HS9 H11 HR15 HS15
            subst hops hQ ha
            have hHeld := HG
            go_simp
            have q6 : ((i6 : Nat) : Int) < 6 := by omega
            have p6 : (0 : Int) ≤ ((i6 : Nat) : Int) := by omega
            have q11 : ((i11 : Nat) : Int) < 6 := by omega
            have p11 : (0 : Int) ≤ ((i11 : Nat) : Int) := by omega
            refine wpAnyH_ready (rs := [8, 13]) (by kernel_rfl) (by simp) ?_
            refine AllReadyH.cons (o := _) rfl (fun K hK => ?_) ?_
            · clear hHeld
              obtain ⟨x8, cx, hx1, hx2⟩ := row6 (lo := 1) (hi := 60) HR4 H6 (by decide)
              go_simp
              first | (refine hK.out _ _ ?_ (fun hHeld => ?_)) | (go_wp2_with fail; refine hK.out _ _ ?_ (fun hHeld => ?_))
              · (try dsimp only); exact HG
              clear hK K
              go_simp
              exact LD_4_6_7_8_9_11_12_15.out _ _ _ _ _ _ _ _ _ (by kernel_rfl) HG HD HR4 HS4 H6 ⟨hx1, hx2⟩ HR9 HS9 H11 HR15 HS15
            refine AllReadyH.cons (o := _) rfl (fun K hK => ?_) ?_
            · clear hHeld
              obtain ⟨x13, cx, hx1, hx2⟩ := row6 (lo := 0) (hi := 200) HR9 H11 (by decide)
              go_simp
              first | (refine hK.out _ _ ?_ (fun hHeld => ?_)) | (go_wp2_with fail; refine hK.out _ _ ?_ (fun hHeld => ?_))
              · (try dsimp only); exact HG
              clear hK K
              go_simp
              exact LD_4_6_7_9_11_12_13_15.out _ _ _ _ _ _ _ _ _ (by kernel_rfl) HG HD HR4 HS4 H6 HR9 HS9 H11 ⟨hx1, hx2⟩ HR15 HS15
            exact AllReadyH.nil)
          have LD_4_6_7_8_9_15 : Hid (∀ (a : Act) (w' : World) (at_ : Nat) (b4 : Nat) (i6 : Nat) (x8 : Int) (b9 : Nat) (b15 : Nat), a = ((((((a0.put (some 27) (.slice (some ⟨b4, 0, none⟩) 6 6)).put (some 29) (.int .i64 (i6 : Int))).put (some 30) (.pointer (some ⟨b4, i6, none⟩))).put (some 31) (.int .i64 x8)).put (some 32) (.slice (some ⟨b9, 0, none⟩) 6 6)).put (some 7) (.pointer (some ⟨b15, 0, none⟩))) → (w4.grownBy w' (some P)) → (Dr w' P A n c at_) → (Row w' b4 3 #[.int .i64 5, .int .i64 6, .int .i64 3, .int .i64 10, .int .i64 5, .int .i64 20]) → (w4.heap.size ≤ b4) → (i6 < 6) → (1 ≤ x8 ∧ x8 ≤ 60) → (Row w' b9 3 #[.int .i64 2, .int .i64 1, .int .i64 0, .int .i64 30, .int .i64 200, .int .i64 3]) → (w4.heap.size ≤ b9) → (Row w' b15 41 #[.string ⟨#[]⟩, .int .i64 0, .int .i64 0, .slice none 0 0, .slice none 0 0]) → (w4.heap.size ≤ b15) → wpAnyH Tryz.prog .any ops Q (fun W => w4.grownBy W (some P)) 5 #[true, true, true, true, true, true, true, true, true, true, true, false, false, false, false, true, false] a w') := Lib.hid (by
            rintro a w' at_ b4 i6 x8 b9 b15 rfl HG HD HR4 HS4 H6 H8 HR9 HS9 HR15 HS15
            subst hops hQ ha
            have hHeld := HG
            go_simp
            have q6 : ((i6 : Nat) : Int) < 6 := by omega
            have p6 : (0 : Int) ≤ ((i6 : Nat) : Int) := by omega
            refine wpAnyH_ready (rs := [11]) (by kernel_rfl) (by simp) ?_
            refine AllReadyH.cons (o := _) rfl (fun K hK => ?_) ?_
            · clear hHeld
              go_simp
              refine (draw_n P A n c l at_ 6 (by omega) (by omega) _ HD.row HD.le (HAI.out _ HG) HNE.out).mono ?_
              rintro e w2 ⟨i11, at2, rfl, hi, ha2, hd2, g⟩
              first | (refine hK.out _ _ ?_ (fun hHeld => ?_)) | (go_wp2_with fail; refine hK.out _ _ ?_ (fun hHeld => ?_))
              · (try dsimp only); exact HG.trans g
              clear hK K
              go_simp
              have q11 : ((i11 : Nat) : Int) < 6 := by omega
              have p11 : (0 : Int) ≤ ((i11 : Nat) : Int) := by omega
              refine wpAnyH_take (i := 12) (oi := _) (v := .pointer (some ⟨b9, i11, none⟩)) rfl (by kernel_rfl) (by kernel_rfl) (by kernel_rfl) (fun _ _ _ h => h) (Or.inl ⟨by kernel_rfl, ?_⟩) (by assumption) ?_
              · (intro w hSw; (try dsimp only at hSw); go_simp; first | done | with_reducible rfl)
              try go_simp
              exact LD_4_6_7_8_9_11_12_15.out _ _ _ _ _ _ _ _ _ (by kernel_rfl) (HG.trans g) ⟨hd2, ha2⟩ (HR4.keptR g (HNP.out _ HS4)) HS4 H6 H8 (HR9.keptR g (HNP.out _ HS9)) HS9 hi (HR15.keptR g (HNP.out _ HS15)) HS15
            exact AllReadyH.nil)
          have LD_4_6_7_8_11_15 : Hid (∀ (a : Act) (w' : World) (at_ : Nat) (b4 : Nat) (i6 : Nat) (x8 : Int) (i11 : Nat) (b15 : Nat), a = ((((((a0.put (some 27) (.slice (some ⟨b4, 0, none⟩) 6 6)).put (some 29) (.int .i64 (i6 : Int))).put (some 30) (.pointer (some ⟨b4, i6, none⟩))).put (some 31) (.int .i64 x8)).put (some 34) (.int .i64 (i11 : Int))).put (some 7) (.pointer (some ⟨b15, 0, none⟩))) → (w4.grownBy w' (some P)) → (Dr w' P A n c at_) → (Row w' b4 3 #[.int .i64 5, .int .i64 6, .int .i64 3, .int .i64 10, .int .i64 5, .int .i64 20]) → (w4.heap.size ≤ b4) → (i6 < 6) → (1 ≤ x8 ∧ x8 ≤ 60) → (i11 < 6) → (Row w' b15 41 #[.string ⟨#[]⟩, .int .i64 0, .int .i64 0, .slice none 0 0, .slice none 0 0]) → (w4.heap.size ≤ b15) → wpAnyH Tryz.prog .any ops Q (fun W => w4.grownBy W (some P)) 5 #[true, true, true, true, true, true, true, true, true, false, true, true, false, false, false, true, false] a w') := Lib.hid (by
            rintro a w' at_ b4 i6 x8 i11 b15 rfl HG HD HR4 HS4 H6 H8 H11 HR15 HS15
            subst hops hQ ha
            have hHeld := HG
            go_simp
            have q6 : ((i6 : Nat) : Int) < 6 := by omega
            have p6 : (0 : Int) ≤ ((i6 : Nat) : Int) := by omega
            have q11 : ((i11 : Nat) : Int) < 6 := by omega
            have p11 : (0 : Int) ≤ ((i11 : Nat) : Int) := by omega
            refine wpAnyH_ready (rs := [9]) (by kernel_rfl) (by simp) ?_
            refine AllReadyH.cons (o := _) rfl (fun K hK => ?_) ?_
            · clear hHeld
              go_simp
              first | (refine hK.out _ _ ?_ (fun hHeld => ?_)) | (go_wp2_with fail; refine hK.out _ _ ?_ (fun hHeld => ?_))
              · (try dsimp only); exact grow_p HG (World.grownBy_alloc _ _ none)
              clear hK K
              go_simp
              obtain ⟨b9, hb9⟩ : ∃ b, b = w'.heap.size := ⟨_, rfl⟩
              have HR9 : Row (w'.alloc (.cells #[.int .i64 2, .int .i64 1, .int .i64 0, .int .i64 30, .int .i64 200, .int .i64 3] 3)) b9 3 #[.int .i64 2, .int .i64 1, .int .i64 0, .int .i64 30, .int .i64 200, .int .i64 3] := by rw [hb9]; exact Row.new _ _ _
              have HS9 : w4.heap.size ≤ b9 := by rw [hb9]; exact HG.size
              rw [← hb9]
              clear hb9
              refine wpAnyH_take (i := 12) (oi := _) (v := .pointer (some ⟨b9, i11, none⟩)) rfl (by kernel_rfl) (by kernel_rfl) (by kernel_rfl) (fun _ _ _ h => h) (Or.inl ⟨by kernel_rfl, ?_⟩) (by assumption) ?_
              · (intro w hSw; (try dsimp only at hSw); go_simp; first | done | with_reducible rfl)
              try go_simp
              exact LD_4_6_7_8_9_11_12_15.out _ _ _ _ _ _ _ _ _ (by kernel_rfl) (grow_p HG (World.grownBy_alloc _ _ none)) (HD.kept (World.grownBy_alloc _ _ none) (by simp)) (HR4.kept (World.grownBy_alloc _ _ none)) HS4 H6 H8 HR9 HS9 H11 (HR15.kept (World.grownBy_alloc _ _ none)) HS15
            exact AllReadyH.nil)
          have LD_4_6_7_9_11_12 : Hid (∀ (a : Act) (w' : World) (at_ : Nat) (b4 : Nat) (i6 : Nat) (b9 : Nat) (i11 : Nat), a = ((((((a0.put (some 27) (.slice (some ⟨b4, 0, none⟩) 6 6)).put (some 29) (.int .i64 (i6 : Int))).put (some 30) (.pointer (some ⟨b4, i6, none⟩))).put (some 32) (.slice (some ⟨b9, 0, none⟩) 6 6)).put (some 34) (.int .i64 (i11 : Int))).put (some 35) (.pointer (some ⟨b9, i11, none⟩))) → (w4.grownBy w' (some P)) → (Dr w' P A n c at_) → (Row w' b4 3 #[.int .i64 5, .int .i64 6, .int .i64 3, .int .i64 10, .int .i64 5, .int .i64 20]) → (w4.heap.size ≤ b4) → (i6 < 6) → (Row w' b9 3 #[.int .i64 2, .int .i64 1, .int .i64 0, .int .i64 30, .int .i64 200, .int .i64 3]) → (w4.heap.size ≤ b9) → (i11 < 6) → wpAnyH Tryz.prog .any ops Q (fun W => w4.grownBy W (some P)) 5 #[true, true, true, true, true, true, true, true, false, true, true, true, true, false, false, false, false] a w') := Lib.hid (by
            rintro a w' at_ b4 i6 b9 i11 rfl HG HD HR4 HS4 H6 HR9 HS9 H11
            subst hops hQ ha
            have hHeld := HG
            go_simp
            have q6 : ((i6 : Nat) : Int) < 6 := by omega
            have p6 : (0 : Int) ≤ ((i6 : Nat) : Int) := by omega
            have q11 : ((i11 : Nat) : Int) < 6 := by omega
            have p11 : (0 : Int) ≤ ((i11 : Nat) : Int) := by omega
            refine wpAnyH_ready (rs := [8, 13, 15]) (by kernel_rfl) (by simp) ?_
            refine AllReadyH.cons (o := _) rfl (fun K hK => ?_) ?_
            · clear hHeld
              obtain ⟨x8, cx, hx1, hx2⟩ := row6 (lo := 1) (hi := 60) HR4 H6 (by decide)
              go_simp
              first | (refine hK.out _ _ ?_ (fun hHeld => ?_)) | (go_wp2_with fail; refine hK.out _ _ ?_ (fun hHeld => ?_))
              · (try dsimp only); exact HG
              clear hK K
              go_simp
              exact LD_4_6_7_8_9_11_12.out _ _ _ _ _ _ _ _ (by kernel_rfl) HG HD HR4 HS4 H6 ⟨hx1, hx2⟩ HR9 HS9 H11
            refine AllReadyH.cons (o := _) rfl (fun K hK => ?_) ?_
            · clear hHeld
              obtain ⟨x13, cx, hx1, hx2⟩ := row6 (lo := 0) (hi := 200) HR9 H11 (by decide)
              go_simp
              first | (refine hK.out _ _ ?_ (fun hHeld => ?_)) | (go_wp2_with fail; refine hK.out _ _ ?_ (fun hHeld => ?_))
              · (try dsimp only); exact HG
              clear hK K
              go_simp
              exact LD_4_6_7_9_11_12_13.out _ _ _ _ _ _ _ _ (by kernel_rfl) HG HD HR4 HS4 H6 HR9 HS9 H11 ⟨hx1, hx2⟩
            refine AllReadyH.cons (o := _) rfl (fun K hK => ?_) ?_
            · clear hHeld
              go_simp
              first | (refine hK.out _ _ ?_ (fun hHeld => ?_)) | (go_wp2_with fail; refine hK.out _ _ ?_ (fun hHeld => ?_))
              · (try dsimp only); exact grow_p HG (World.grownBy_alloc _ _ none)
              clear hK K
              go_simp
              obtain ⟨b15, hb15⟩ : ∃ b, b = w'.heap.size := ⟨_, rfl⟩
              have HR15 : Row (w'.alloc (.cells #[.string ⟨#[]⟩, .int .i64 0, .int .i64 0, .slice none 0 0, .slice none 0 0] 41)) b15 41 #[.string ⟨#[]⟩, .int .i64 0, .int .i64 0, .slice none 0 0, .slice none 0 0] := by rw [hb15]; exact Row.new _ _ _
              have HS15 : w4.heap.size ≤ b15 := by rw [hb15]; exact HG.size
              rw [← hb15]
              clear hb15
              exact LD_4_6_7_9_11_12_15.out _ _ _ _ _ _ _ _ (by kernel_rfl) (grow_p HG (World.grownBy_alloc _ _ none)) (HD.kept (World.grownBy_alloc _ _ none) (by simp)) (HR4.kept (World.grownBy_alloc _ _ none)) HS4 H6 (HR9.kept (World.grownBy_alloc _ _ none)) HS9 H11 HR15 HS15
            exact AllReadyH.nil)
          have LD_6_9_11_12_13_15 : Hid (∀ (a : Act) (w' : World) (at_ : Nat) (i6 : Nat) (b9 : Nat) (i11 : Nat) (x13 : Int) (b15 : Nat), a = ((((((a0.put (some 29) (.int .i64 (i6 : Int))).put (some 32) (.slice (some ⟨b9, 0, none⟩) 6 6)).put (some 34) (.int .i64 (i11 : Int))).put (some 35) (.pointer (some ⟨b9, i11, none⟩))).put (some 36) (.int .i64 x13)).put (some 7) (.pointer (some ⟨b15, 0, none⟩))) → (w4.grownBy w' (some P)) → (Dr w' P A n c at_) → (i6 < 6) → (Row w' b9 3 #[.int .i64 2, .int .i64 1, .int .i64 0, .int .i64 30, .int .i64 200, .int .i64 3]) → (w4.heap.size ≤ b9) → (i11 < 6) → (0 ≤ x13 ∧ x13 ≤ 200) → (Row w' b15 41 #[.string ⟨#[]⟩, .int .i64 0, .int .i64 0, .slice none 0 0, .slice none 0 0]) → (w4.heap.size ≤ b15) → wpAnyH Tryz.prog .any ops Q (fun W => w4.grownBy W (some P)) 5 #[true, true, true, true, false, true, true, false, false, true, true, true, true, true, false, true, false] a w') := Lib.hid (by
            rintro a w' at_ i6 b9 i11 x13 b15 rfl HG HD H6 HR9 HS9 H11 H13 HR15 HS15
            subst hops hQ ha
            have hHeld := HG
            go_simp
            have q6 : ((i6 : Nat) : Int) < 6 := by omega
            have p6 : (0 : Int) ≤ ((i6 : Nat) : Int) := by omega
            have q11 : ((i11 : Nat) : Int) < 6 := by omega
            have p11 : (0 : Int) ≤ ((i11 : Nat) : Int) := by omega
            refine wpAnyH_ready (rs := [4]) (by kernel_rfl) (by simp) ?_
            refine AllReadyH.cons (o := _) rfl (fun K hK => ?_) ?_
            · clear hHeld
              go_simp
              first | (refine hK.out _ _ ?_ (fun hHeld => ?_)) | (go_wp2_with fail; refine hK.out _ _ ?_ (fun hHeld => ?_))
              · (try dsimp only); exact grow_p HG (World.grownBy_alloc _ _ none)
              clear hK K
              go_simp
              obtain ⟨b4, hb4⟩ : ∃ b, b = w'.heap.size := ⟨_, rfl⟩
              have HR4 : Row (w'.alloc (.cells #[.int .i64 5, .int .i64 6, .int .i64 3, .int .i64 10, .int .i64 5, .int .i64 20] 3)) b4 3 #[.int .i64 5, .int .i64 6, .int .i64 3, .int .i64 10, .int .i64 5, .int .i64 20] := by rw [hb4]; exact Row.new _ _ _
              have HS4 : w4.heap.size ≤ b4 := by rw [hb4]; exact HG.size
              rw [← hb4]
              clear hb4
              refine wpAnyH_take (i := 7) (oi := _) (v := .pointer (some ⟨b4, i6, none⟩)) rfl (by kernel_rfl) (by kernel_rfl) (by kernel_rfl) (fun _ _ _ h => h) (Or.inl ⟨by kernel_rfl, ?_⟩) (by assumption) ?_
              · (intro w hSw; (try dsimp only at hSw); go_simp; first | done | with_reducible rfl)
              try go_simp
              exact LD_4_6_7_9_11_12_13_15.out _ _ _ _ _ _ _ _ _ (by kernel_rfl) (grow_p HG (World.grownBy_alloc _ _ none)) (HD.kept (World.grownBy_alloc _ _ none) (by simp)) HR4 HS4 H6 (HR9.kept (World.grownBy_alloc _ _ none)) HS9 H11 H13 (HR15.kept (World.grownBy_alloc _ _ none)) HS15
            exact AllReadyH.nil)
          have LD_4_6_7_8_9 : Hid (∀ (a : Act) (w' : World) (at_ : Nat) (b4 : Nat) (i6 : Nat) (x8 : Int) (b9 : Nat), a = (((((a0.put (some 27) (.slice (some ⟨b4, 0, none⟩) 6 6)).put (some 29) (.int .i64 (i6 : Int))).put (some 30) (.pointer (some ⟨b4, i6, none⟩))).put (some 31) (.int .i64 x8)).put (some 32) (.slice (some ⟨b9, 0, none⟩) 6 6)) → (w4.grownBy w' (some P)) → (Dr w' P A n c at_) → (Row w' b4 3 #[.int .i64 5, .int .i64 6, .int .i64 3, .int .i64 10, .int .i64 5, .int .i64 20]) → (w4.heap.size ≤ b4) → (i6 < 6) → (1 ≤ x8 ∧ x8 ≤ 60) → (Row w' b9 3 #[.int .i64 2, .int .i64 1, .int .i64 0, .int .i64 30, .int .i64 200, .int .i64 3]) → (w4.heap.size ≤ b9) → wpAnyH Tryz.prog .any ops Q (fun W => w4.grownBy W (some P)) 6 #[true, true, true, true, true, true, true, true, true, true, true, false, false, false, false, false, false] a w') := Lib.hid (by
            rintro a w' at_ b4 i6 x8 b9 rfl HG HD HR4 HS4 H6 H8 HR9 HS9
            subst hops hQ ha
            have hHeld := HG
            go_simp
            have q6 : ((i6 : Nat) : Int) < 6 := by omega
            have p6 : (0 : Int) ≤ ((i6 : Nat) : Int) := by omega
            refine wpAnyH_ready (rs := [11, 15]) (by kernel_rfl) (by simp) ?_
            refine AllReadyH.cons (o := _) rfl (fun K hK => ?_) ?_
            · clear hHeld
              go_simp
              refine (draw_n P A n c l at_ 6 (by omega) (by omega) _ HD.row HD.le (HAI.out _ HG) HNE.out).mono ?_
              rintro e w2 ⟨i11, at2, rfl, hi, ha2, hd2, g⟩
              first | (refine hK.out _ _ ?_ (fun hHeld => ?_)) | (go_wp2_with fail; refine hK.out _ _ ?_ (fun hHeld => ?_))
              · (try dsimp only); exact HG.trans g
              clear hK K
              go_simp
              have q11 : ((i11 : Nat) : Int) < 6 := by omega
              have p11 : (0 : Int) ≤ ((i11 : Nat) : Int) := by omega
              refine wpAnyH_take (i := 12) (oi := _) (v := .pointer (some ⟨b9, i11, none⟩)) rfl (by kernel_rfl) (by kernel_rfl) (by kernel_rfl) (fun _ _ _ h => h) (Or.inl ⟨by kernel_rfl, ?_⟩) (by assumption) ?_
              · (intro w hSw; (try dsimp only at hSw); go_simp; first | done | with_reducible rfl)
              try go_simp
              exact LD_4_6_7_8_9_11_12.out _ _ _ _ _ _ _ _ (by kernel_rfl) (HG.trans g) ⟨hd2, ha2⟩ (HR4.keptR g (HNP.out _ HS4)) HS4 H6 H8 (HR9.keptR g (HNP.out _ HS9)) HS9 hi
            refine AllReadyH.cons (o := _) rfl (fun K hK => ?_) ?_
            · clear hHeld
              go_simp
              first | (refine hK.out _ _ ?_ (fun hHeld => ?_)) | (go_wp2_with fail; refine hK.out _ _ ?_ (fun hHeld => ?_))
              · (try dsimp only); exact grow_p HG (World.grownBy_alloc _ _ none)
              clear hK K
              go_simp
              obtain ⟨b15, hb15⟩ : ∃ b, b = w'.heap.size := ⟨_, rfl⟩
              have HR15 : Row (w'.alloc (.cells #[.string ⟨#[]⟩, .int .i64 0, .int .i64 0, .slice none 0 0, .slice none 0 0] 41)) b15 41 #[.string ⟨#[]⟩, .int .i64 0, .int .i64 0, .slice none 0 0, .slice none 0 0] := by rw [hb15]; exact Row.new _ _ _
              have HS15 : w4.heap.size ≤ b15 := by rw [hb15]; exact HG.size
              rw [← hb15]
              clear hb15
              exact LD_4_6_7_8_9_15.out _ _ _ _ _ _ _ _ (by kernel_rfl) (grow_p HG (World.grownBy_alloc _ _ none)) (HD.kept (World.grownBy_alloc _ _ none) (by simp)) (HR4.kept (World.grownBy_alloc _ _ none)) HS4 H6 H8 (HR9.kept (World.grownBy_alloc _ _ none)) HS9 HR15 HS15
            exact AllReadyH.nil)
          have LD_4_6_7_8_11 : Hid (∀ (a : Act) (w' : World) (at_ : Nat) (b4 : Nat) (i6 : Nat) (x8 : Int) (i11 : Nat), a = (((((a0.put (some 27) (.slice (some ⟨b4, 0, none⟩) 6 6)).put (some 29) (.int .i64 (i6 : Int))).put (some 30) (.pointer (some ⟨b4, i6, none⟩))).put (some 31) (.int .i64 x8)).put (some 34) (.int .i64 (i11 : Int))) → (w4.grownBy w' (some P)) → (Dr w' P A n c at_) → (Row w' b4 3 #[.int .i64 5, .int .i64 6, .int .i64 3, .int .i64 10, .int .i64 5, .int .i64 20]) → (w4.heap.size ≤ b4) → (i6 < 6) → (1 ≤ x8 ∧ x8 ≤ 60) → (i11 < 6) → wpAnyH Tryz.prog .any ops Q (fun W => w4.grownBy W (some P)) 6 #[true, true, true, true, true, true, true, true, true, false, true, true, false, false, false, false, false] a w') := Lib.hid (by
            rintro a w' at_ b4 i6 x8 i11 rfl HG HD HR4 HS4 H6 H8 H11
            subst hops hQ ha
            have hHeld := HG
            go_simp
            have q6 : ((i6 : Nat) : Int) < 6 := by omega
            have p6 : (0 : Int) ≤ ((i6 : Nat) : Int) := by omega
            have q11 : ((i11 : Nat) : Int) < 6 := by omega
            have p11 : (0 : Int) ≤ ((i11 : Nat) : Int) := by omega
            refine wpAnyH_ready (rs := [9, 15]) (by kernel_rfl) (by simp) ?_
            refine AllReadyH.cons (o := _) rfl (fun K hK => ?_) ?_
            · clear hHeld
              go_simp
              first | (refine hK.out _ _ ?_ (fun hHeld => ?_)) | (go_wp2_with fail; refine hK.out _ _ ?_ (fun hHeld => ?_))
              · (try dsimp only); exact grow_p HG (World.grownBy_alloc _ _ none)
              clear hK K
              go_simp
              obtain ⟨b9, hb9⟩ : ∃ b, b = w'.heap.size := ⟨_, rfl⟩
              have HR9 : Row (w'.alloc (.cells #[.int .i64 2, .int .i64 1, .int .i64 0, .int .i64 30, .int .i64 200, .int .i64 3] 3)) b9 3 #[.int .i64 2, .int .i64 1, .int .i64 0, .int .i64 30, .int .i64 200, .int .i64 3] := by rw [hb9]; exact Row.new _ _ _
              have HS9 : w4.heap.size ≤ b9 := by rw [hb9]; exact HG.size
              rw [← hb9]
              clear hb9
              refine wpAnyH_take (i := 12) (oi := _) (v := .pointer (some ⟨b9, i11, none⟩)) rfl (by kernel_rfl) (by kernel_rfl) (by kernel_rfl) (fun _ _ _ h => h) (Or.inl ⟨by kernel_rfl, ?_⟩) (by assumption) ?_
              · (intro w hSw; (try dsimp only at hSw); go_simp; first | done | with_reducible rfl)
              try go_simp
              exact LD_4_6_7_8_9_11_12.out _ _ _ _ _ _ _ _ (by kernel_rfl) (grow_p HG (World.grownBy_alloc _ _ none)) (HD.kept (World.grownBy_alloc _ _ none) (by simp)) (HR4.kept (World.grownBy_alloc _ _ none)) HS4 H6 H8 HR9 HS9 H11
            refine AllReadyH.cons (o := _) rfl (fun K hK => ?_) ?_
            · clear hHeld
              go_simp
              first | (refine hK.out _ _ ?_ (fun hHeld => ?_)) | (go_wp2_with fail; refine hK.out _ _ ?_ (fun hHeld => ?_))
              · (try dsimp only); exact grow_p HG (World.grownBy_alloc _ _ none)
              clear hK K
              go_simp
              obtain ⟨b15, hb15⟩ : ∃ b, b = w'.heap.size := ⟨_, rfl⟩
              have HR15 : Row (w'.alloc (.cells #[.string ⟨#[]⟩, .int .i64 0, .int .i64 0, .slice none 0 0, .slice none 0 0] 41)) b15 41 #[.string ⟨#[]⟩, .int .i64 0, .int .i64 0, .slice none 0 0, .slice none 0 0] := by rw [hb15]; exact Row.new _ _ _
              have HS15 : w4.heap.size ≤ b15 := by rw [hb15]; exact HG.size
              rw [← hb15]
              clear hb15
              exact LD_4_6_7_8_11_15.out _ _ _ _ _ _ _ _ (by kernel_rfl) (grow_p HG (World.grownBy_alloc _ _ none)) (HD.kept (World.grownBy_alloc _ _ none) (by simp)) (HR4.kept (World.grownBy_alloc _ _ none)) HS4 H6 H8 H11 HR15 HS15
            exact AllReadyH.nil)
          have LD_4_6_7_8_15 : Hid (∀ (a : Act) (w' : World) (at_ : Nat) (b4 : Nat) (i6 : Nat) (x8 : Int) (b15 : Nat), a = (((((a0.put (some 27) (.slice (some ⟨b4, 0, none⟩) 6 6)).put (some 29) (.int .i64 (i6 : Int))).put (some 30) (.pointer (some ⟨b4, i6, none⟩))).put (some 31) (.int .i64 x8)).put (some 7) (.pointer (some ⟨b15, 0, none⟩))) → (w4.grownBy w' (some P)) → (Dr w' P A n c at_) → (Row w' b4 3 #[.int .i64 5, .int .i64 6, .int .i64 3, .int .i64 10, .int .i64 5, .int .i64 20]) → (w4.heap.size ≤ b4) → (i6 < 6) → (1 ≤ x8 ∧ x8 ≤ 60) → (Row w' b15 41 #[.string ⟨#[]⟩, .int .i64 0, .int .i64 0, .slice none 0 0, .slice none 0 0]) → (w4.heap.size ≤ b15) → wpAnyH Tryz.prog .any ops Q (fun W => w4.grownBy W (some P)) 6 #[true, true, true, true, true, true, true, true, true, false, true, false, false, false, false, true, false] a w') := Lib.hid (by
            rintro a w' at_ b4 i6 x8 b15 rfl HG HD HR4 HS4 H6 H8 HR15 HS15
            subst hops hQ ha
            have hHeld := HG
            go_simp
            have q6 : ((i6 : Nat) : Int) < 6 := by omega
            have p6 : (0 : Int) ≤ ((i6 : Nat) : Int) := by omega
            refine wpAnyH_ready (rs := [9, 11]) (by kernel_rfl) (by simp) ?_
            refine AllReadyH.cons (o := _) rfl (fun K hK => ?_) ?_
            · clear hHeld
              go_simp
              first | (refine hK.out _ _ ?_ (fun hHeld => ?_)) | (go_wp2_with fail; refine hK.out _ _ ?_ (fun hHeld => ?_))
              · (try dsimp only); exact grow_p HG (World.grownBy_alloc _ _ none)
              clear hK K
              go_simp
              obtain ⟨b9, hb9⟩ : ∃ b, b = w'.heap.size := ⟨_, rfl⟩
              have HR9 : Row (w'.alloc (.cells #[.int .i64 2, .int .i64 1, .int .i64 0, .int .i64 30, .int .i64 200, .int .i64 3] 3)) b9 3 #[.int .i64 2, .int .i64 1, .int .i64 0, .int .i64 30, .int .i64 200, .int .i64 3] := by rw [hb9]; exact Row.new _ _ _
              have HS9 : w4.heap.size ≤ b9 := by rw [hb9]; exact HG.size
              rw [← hb9]
              clear hb9
              exact LD_4_6_7_8_9_15.out _ _ _ _ _ _ _ _ (by kernel_rfl) (grow_p HG (World.grownBy_alloc _ _ none)) (HD.kept (World.grownBy_alloc _ _ none) (by simp)) (HR4.kept (World.grownBy_alloc _ _ none)) HS4 H6 H8 HR9 HS9 (HR15.kept (World.grownBy_alloc _ _ none)) HS15
            refine AllReadyH.cons (o := _) rfl (fun K hK => ?_) ?_
            · clear hHeld
              go_simp
              refine (draw_n P A n c l at_ 6 (by omega) (by omega) _ HD.row HD.le (HAI.out _ HG) HNE.out).mono ?_
              rintro e w2 ⟨i11, at2, rfl, hi, ha2, hd2, g⟩
              first | (refine hK.out _ _ ?_ (fun hHeld => ?_)) | (go_wp2_with fail; refine hK.out _ _ ?_ (fun hHeld => ?_))
              · (try dsimp only); exact HG.trans g
              clear hK K
              go_simp
              have q11 : ((i11 : Nat) : Int) < 6 := by omega
              have p11 : (0 : Int) ≤ ((i11 : Nat) : Int) := by omega
              exact LD_4_6_7_8_11_15.out _ _ _ _ _ _ _ _ (by kernel_rfl) (HG.trans g) ⟨hd2, ha2⟩ (HR4.keptR g (HNP.out _ HS4)) HS4 H6 H8 hi (HR15.keptR g (HNP.out _ HS15)) HS15
            exact AllReadyH.nil)
          have LD_4_6_7_9_15 : Hid (∀ (a : Act) (w' : World) (at_ : Nat) (b4 : Nat) (i6 : Nat) (b9 : Nat) (b15 : Nat), a = (((((a0.put (some 27) (.slice (some ⟨b4, 0, none⟩) 6 6)).put (some 29) (.int .i64 (i6 : Int))).put (some 30) (.pointer (some ⟨b4, i6, none⟩))).put (some 32) (.slice (some ⟨b9, 0, none⟩) 6 6)).put (some 7) (.pointer (some ⟨b15, 0, none⟩))) → (w4.grownBy w' (some P)) → (Dr w' P A n c at_) → (Row w' b4 3 #[.int .i64 5, .int .i64 6, .int .i64 3, .int .i64 10, .int .i64 5, .int .i64 20]) → (w4.heap.size ≤ b4) → (i6 < 6) → (Row w' b9 3 #[.int .i64 2, .int .i64 1, .int .i64 0, .int .i64 30, .int .i64 200, .int .i64 3]) → (w4.heap.size ≤ b9) → (Row w' b15 41 #[.string ⟨#[]⟩, .int .i64 0, .int .i64 0, .slice none 0 0, .slice none 0 0]) → (w4.heap.size ≤ b15) → wpAnyH Tryz.prog .any ops Q (fun W => w4.grownBy W (some P)) 6 #[true, true, true, true, true, true, true, true, false, true, true, false, false, false, false, true, false] a w') := Lib.hid (by
            rintro a w' at_ b4 i6 b9 b15 rfl HG HD HR4 HS4 H6 HR9 HS9 HR15 HS15
            subst hops hQ ha
            have hHeld := HG
            go_simp
            have q6 : ((i6 : Nat) : Int) < 6 := by omega
            have p6 : (0 : Int) ≤ ((i6 : Nat) : Int) := by omega
            refine wpAnyH_ready (rs := [8, 11]) (by kernel_rfl) (by simp) ?_
            refine AllReadyH.cons (o := _) rfl (fun K hK => ?_) ?_
            · clear hHeld
              obtain ⟨x8, cx, hx1, hx2⟩ := row6 (lo := 1) (hi := 60) HR4 H6 (by decide)
              go_simp
              first | (refine hK.out _ _ ?_ (fun hHeld => ?_)) | (go_wp2_with fail; refine hK.out _ _ ?_ (fun hHeld => ?_))
              · (try dsimp only); exact HG
              clear hK K
              go_simp
              exact LD_4_6_7_8_9_15.out _ _ _ _ _ _ _ _ (by kernel_rfl) HG HD HR4 HS4 H6 ⟨hx1, hx2⟩ HR9 HS9 HR15 HS15
            refine AllReadyH.cons (o := _) rfl (fun K hK => ?_) ?_
            · clear hHeld
              go_simp
              refine (draw_n P A n c l at_ 6 (by omega) (by omega) _ HD.row HD.le (HAI.out _ HG) HNE.out).mono ?_
              rintro e w2 ⟨i11, at2, rfl, hi, ha2, hd2, g⟩
              first | (refine hK.out _ _ ?_ (fun hHeld => ?_)) | (go_wp2_with fail; refine hK.out _ _ ?_ (fun hHeld => ?_))
              · (try dsimp only); exact HG.trans g
              clear hK K
              go_simp
              have q11 : ((i11 : Nat) : Int) < 6 := by omega
              have p11 : (0 : Int) ≤ ((i11 : Nat) : Int) := by omega
              refine wpAnyH_take (i := 12) (oi := _) (v := .pointer (some ⟨b9, i11, none⟩)) rfl (by kernel_rfl) (by kernel_rfl) (by kernel_rfl) (fun _ _ _ h => h) (Or.inl ⟨by kernel_rfl, ?_⟩) (by assumption) ?_
              · (intro w hSw; (try dsimp only at hSw); go_simp; first | done | with_reducible rfl)
              try go_simp
              exact LD_4_6_7_9_11_12_15.out _ _ _ _ _ _ _ _ (by kernel_rfl) (HG.trans g) ⟨hd2, ha2⟩ (HR4.keptR g (HNP.out _ HS4)) HS4 H6 (HR9.keptR g (HNP.out _ HS9)) HS9 hi (HR15.keptR g (HNP.out _ HS15)) HS15
            exact AllReadyH.nil)
          have LD_4_6_7_11_15 : Hid (∀ (a : Act) (w' : World) (at_ : Nat) (b4 : Nat) (i6 : Nat) (i11 : Nat) (b15 : Nat), a = (((((a0.put (some 27) (.slice (some ⟨b4, 0, none⟩) 6 6)).put (some 29) (.int .i64 (i6 : Int))).put (some 30) (.pointer (some ⟨b4, i6, none⟩))).put (some 34) (.int .i64 (i11 : Int))).put (some 7) (.pointer (some ⟨b15, 0, none⟩))) → (w4.grownBy w' (some P)) → (Dr w' P A n c at_) → (Row w' b4 3 #[.int .i64 5, .int .i64 6, .int .i64 3, .int .i64 10, .int .i64 5, .int .i64 20]) → (w4.heap.size ≤ b4) → (i6 < 6) → (i11 < 6) → (Row w' b15 41 #[.string ⟨#[]⟩, .int .i64 0, .int .i64 0, .slice none 0 0, .slice none 0 0]) → (w4.heap.size ≤ b15) → wpAnyH Tryz.prog .any ops Q (fun W => w4.grownBy W (some P)) 6 #[true, true, true, true, true, true, true, true, false, false, true, true, false, false, false, true, false] a w') := Lib.hid (by
            rintro a w' at_ b4 i6 i11 b15 rfl HG HD HR4 HS4 H6 H11 HR15 HS15
            subst hops hQ ha
            have hHeld := HG
            go_simp
            have q6 : ((i6 : Nat) : Int) < 6 := by omega
            have p6 : (0 : Int) ≤ ((i6 : Nat) : Int) := by omega
            have q11 : ((i11 : Nat) : Int) < 6 := by omega
            have p11 : (0 : Int) ≤ ((i11 : Nat) : Int) := by omega
            refine wpAnyH_ready (rs := [8, 9]) (by kernel_rfl) (by simp) ?_
            refine AllReadyH.cons (o := _) rfl (fun K hK => ?_) ?_
            · clear hHeld
              obtain ⟨x8, cx, hx1, hx2⟩ := row6 (lo := 1) (hi := 60) HR4 H6 (by decide)
              go_simp
              first | (refine hK.out _ _ ?_ (fun hHeld => ?_)) | (go_wp2_with fail; refine hK.out _ _ ?_ (fun hHeld => ?_))
              · (try dsimp only); exact HG
              clear hK K
              go_simp
              exact LD_4_6_7_8_11_15.out _ _ _ _ _ _ _ _ (by kernel_rfl) HG HD HR4 HS4 H6 ⟨hx1, hx2⟩ H11 HR15 HS15
            refine AllReadyH.cons (o := _) rfl (fun K hK => ?_) ?_
            · clear hHeld
              go_simp
              first | (refine hK.out _ _ ?_ (fun hHeld => ?_)) | (go_wp2_with fail; refine hK.out _ _ ?_ (fun hHeld => ?_))
              · (try dsimp only); exact grow_p HG (World.grownBy_alloc _ _ none)
              clear hK K
              go_simp
              obtain ⟨b9, hb9⟩ : ∃ b, b = w'.heap.size := ⟨_, rfl⟩
              have HR9 : Row (w'.alloc (.cells #[.int .i64 2, .int .i64 1, .int .i64 0, .int .i64 30, .int .i64 200, .int .i64 3] 3)) b9 3 #[.int .i64 2, .int .i64 1, .int .i64 0, .int .i64 30, .int .i64 200, .int .i64 3] := by rw [hb9]; exact Row.new _ _ _
              have HS9 : w4.heap.size ≤ b9 := by rw [hb9]; exact HG.size
              rw [← hb9]
              clear hb9
              refine wpAnyH_take (i := 12) (oi := _) (v := .pointer (some ⟨b9, i11, none⟩)) rfl (by kernel_rfl) (by kernel_rfl) (by kernel_rfl) (fun _ _ _ h => h) (Or.inl ⟨by kernel_rfl, ?_⟩) (by assumption) ?_
              · (intro w hSw; (try dsimp only at hSw); go_simp; first | done | with_reducible rfl)
              try go_simp
              exact LD_4_6_7_9_11_12_15.out _ _ _ _ _ _ _ _ (by kernel_rfl) (grow_p HG (World.grownBy_alloc _ _ none)) (HD.kept (World.grownBy_alloc _ _ none) (by simp)) (HR4.kept (World.grownBy_alloc _ _ none)) HS4 H6 HR9 HS9 H11 (HR15.kept (World.grownBy_alloc _ _ none)) HS15
            exact AllReadyH.nil)
          have LD_6_9_11_12_13 : Hid (∀ (a : Act) (w' : World) (at_ : Nat) (i6 : Nat) (b9 : Nat) (i11 : Nat) (x13 : Int), a = (((((a0.put (some 29) (.int .i64 (i6 : Int))).put (some 32) (.slice (some ⟨b9, 0, none⟩) 6 6)).put (some 34) (.int .i64 (i11 : Int))).put (some 35) (.pointer (some ⟨b9, i11, none⟩))).put (some 36) (.int .i64 x13)) → (w4.grownBy w' (some P)) → (Dr w' P A n c at_) → (i6 < 6) → (Row w' b9 3 #[.int .i64 2, .int .i64 1, .int .i64 0, .int .i64 30, .int .i64 200, .int .i64 3]) → (w4.heap.size ≤ b9) → (i11 < 6) → (0 ≤ x13 ∧ x13 ≤ 200) → wpAnyH Tryz.prog .any ops Q (fun W => w4.grownBy W (some P)) 6 #[true, true, true, true, false, true, true, false, false, true, true, true, true, true, false, false, false] a w') := Lib.hid (by
            rintro a w' at_ i6 b9 i11 x13 rfl HG HD H6 HR9 HS9 H11 H13
            subst hops hQ ha
            have hHeld := HG
            go_simp
            have q6 : ((i6 : Nat) : Int) < 6 := by omega
            have p6 : (0 : Int) ≤ ((i6 : Nat) : Int) := by omega
            have q11 : ((i11 : Nat) : Int) < 6 := by omega
            have p11 : (0 : Int) ≤ ((i11 : Nat) : Int) := by omega
            refine wpAnyH_ready (rs := [4, 15]) (by kernel_rfl) (by simp) ?_
            refine AllReadyH.cons (o := _) rfl (fun K hK => ?_) ?_
            · clear hHeld
              go_simp
              first | (refine hK.out _ _ ?_ (fun hHeld => ?_)) | (go_wp2_with fail; refine hK.out _ _ ?_ (fun hHeld => ?_))
              · (try dsimp only); exact grow_p HG (World.grownBy_alloc _ _ none)
              clear hK K
              go_simp
              obtain ⟨b4, hb4⟩ : ∃ b, b = w'.heap.size := ⟨_, rfl⟩
              have HR4 : Row (w'.alloc (.cells #[.int .i64 5, .int .i64 6, .int .i64 3, .int .i64 10, .int .i64 5, .int .i64 20] 3)) b4 3 #[.int .i64 5, .int .i64 6, .int .i64 3, .int .i64 10, .int .i64 5, .int .i64 20] := by rw [hb4]; exact Row.new _ _ _
              have HS4 : w4.heap.size ≤ b4 := by rw [hb4]; exact HG.size
              rw [← hb4]
              clear hb4
              refine wpAnyH_take (i := 7) (oi := _) (v := .pointer (some ⟨b4, i6, none⟩)) rfl (by kernel_rfl) (by kernel_rfl) (by kernel_rfl) (fun _ _ _ h => h) (Or.inl ⟨by kernel_rfl, ?_⟩) (by assumption) ?_
              · (intro w hSw; (try dsimp only at hSw); go_simp; first | done | with_reducible rfl)
              try go_simp
              exact LD_4_6_7_9_11_12_13.out _ _ _ _ _ _ _ _ (by kernel_rfl) (grow_p HG (World.grownBy_alloc _ _ none)) (HD.kept (World.grownBy_alloc _ _ none) (by simp)) HR4 HS4 H6 (HR9.kept (World.grownBy_alloc _ _ none)) HS9 H11 H13
            refine AllReadyH.cons (o := _) rfl (fun K hK => ?_) ?_
            · clear hHeld
              go_simp
              first | (refine hK.out _ _ ?_ (fun hHeld => ?_)) | (go_wp2_with fail; refine hK.out _ _ ?_ (fun hHeld => ?_))
              · (try dsimp only); exact grow_p HG (World.grownBy_alloc _ _ none)
              clear hK K
              go_simp
              obtain ⟨b15, hb15⟩ : ∃ b, b = w'.heap.size := ⟨_, rfl⟩
              have HR15 : Row (w'.alloc (.cells #[.string ⟨#[]⟩, .int .i64 0, .int .i64 0, .slice none 0 0, .slice none 0 0] 41)) b15 41 #[.string ⟨#[]⟩, .int .i64 0, .int .i64 0, .slice none 0 0, .slice none 0 0] := by rw [hb15]; exact Row.new _ _ _
              have HS15 : w4.heap.size ≤ b15 := by rw [hb15]; exact HG.size
              rw [← hb15]
              clear hb15
              exact LD_6_9_11_12_13_15.out _ _ _ _ _ _ _ _ (by kernel_rfl) (grow_p HG (World.grownBy_alloc _ _ none)) (HD.kept (World.grownBy_alloc _ _ none) (by simp)) H6 (HR9.kept (World.grownBy_alloc _ _ none)) HS9 H11 H13 HR15 HS15
            exact AllReadyH.nil)
          have LD_6_9_11_12_15 : Hid (∀ (a : Act) (w' : World) (at_ : Nat) (i6 : Nat) (b9 : Nat) (i11 : Nat) (b15 : Nat), a = (((((a0.put (some 29) (.int .i64 (i6 : Int))).put (some 32) (.slice (some ⟨b9, 0, none⟩) 6 6)).put (some 34) (.int .i64 (i11 : Int))).put (some 35) (.pointer (some ⟨b9, i11, none⟩))).put (some 7) (.pointer (some ⟨b15, 0, none⟩))) → (w4.grownBy w' (some P)) → (Dr w' P A n c at_) → (i6 < 6) → (Row w' b9 3 #[.int .i64 2, .int .i64 1, .int .i64 0, .int .i64 30, .int .i64 200, .int .i64 3]) → (w4.heap.size ≤ b9) → (i11 < 6) → (Row w' b15 41 #[.string ⟨#[]⟩, .int .i64 0, .int .i64 0, .slice none 0 0, .slice none 0 0]) → (w4.heap.size ≤ b15) → wpAnyH Tryz.prog .any ops Q (fun W => w4.grownBy W (some P)) 6 #[true, true, true, true, false, true, true, false, false, true, true, true, true, false, false, true, false] a w') := Lib.hid (by
            rintro a w' at_ i6 b9 i11 b15 rfl HG HD H6 HR9 HS9 H11 HR15 HS15
            subst hops hQ ha
            have hHeld := HG
            go_simp
            have q6 : ((i6 : Nat) : Int) < 6 := by omega
            have p6 : (0 : Int) ≤ ((i6 : Nat) : Int) := by omega
            have q11 : ((i11 : Nat) : Int) < 6 := by omega
            have p11 : (0 : Int) ≤ ((i11 : Nat) : Int) := by omega
            refine wpAnyH_ready (rs := [4, 13]) (by kernel_rfl) (by simp) ?_
            refine AllReadyH.cons (o := _) rfl (fun K hK => ?_) ?_
            · clear hHeld
              go_simp
              first | (refine hK.out _ _ ?_ (fun hHeld => ?_)) | (go_wp2_with fail; refine hK.out _ _ ?_ (fun hHeld => ?_))
              · (try dsimp only); exact grow_p HG (World.grownBy_alloc _ _ none)
              clear hK K
              go_simp
              obtain ⟨b4, hb4⟩ : ∃ b, b = w'.heap.size := ⟨_, rfl⟩
              have HR4 : Row (w'.alloc (.cells #[.int .i64 5, .int .i64 6, .int .i64 3, .int .i64 10, .int .i64 5, .int .i64 20] 3)) b4 3 #[.int .i64 5, .int .i64 6, .int .i64 3, .int .i64 10, .int .i64 5, .int .i64 20] := by rw [hb4]; exact Row.new _ _ _
              have HS4 : w4.heap.size ≤ b4 := by rw [hb4]; exact HG.size
              rw [← hb4]
              clear hb4
              refine wpAnyH_take (i := 7) (oi := _) (v := .pointer (some ⟨b4, i6, none⟩)) rfl (by kernel_rfl) (by kernel_rfl) (by kernel_rfl) (fun _ _ _ h => h) (Or.inl ⟨by kernel_rfl, ?_⟩) (by assumption) ?_
              · (intro w hSw; (try dsimp only at hSw); go_simp; first | done | with_reducible rfl)
              try go_simp
              exact LD_4_6_7_9_11_12_15.out _ _ _ _ _ _ _ _ (by kernel_rfl) (grow_p HG (World.grownBy_alloc _ _ none)) (HD.kept (World.grownBy_alloc _ _ none) (by simp)) HR4 HS4 H6 (HR9.kept (World.grownBy_alloc _ _ none)) HS9 H11 (HR15.kept (World.grownBy_alloc _ _ none)) HS15
            refine AllReadyH.cons (o := _) rfl (fun K hK => ?_) ?_
            · clear hHeld
              obtain ⟨x13, cx, hx1, hx2⟩ := row6 (lo := 0) (hi := 200) HR9 H11 (by decide)
              go_simp
              first | (refine hK.out _ _ ?_ (fun hHeld => ?_)) | (go_wp2_with fail; refine hK.out _ _ ?_ (fun hHeld => ?_))
              · (try dsimp only); exact HG
              clear hK K
              go_simp
              exact LD_6_9_11_12_13_15.out _ _ _ _ _ _ _ _ (by kernel_rfl) HG HD H6 HR9 HS9 H11 ⟨hx1, hx2⟩ HR15 HS15
            exact AllReadyH.nil)
          have LD_4_6_7_8 : Hid (∀ (a : Act) (w' : World) (at_ : Nat) (b4 : Nat) (i6 : Nat) (x8 : Int), a = ((((a0.put (some 27) (.slice (some ⟨b4, 0, none⟩) 6 6)).put (some 29) (.int .i64 (i6 : Int))).put (some 30) (.pointer (some ⟨b4, i6, none⟩))).put (some 31) (.int .i64 x8)) → (w4.grownBy w' (some P)) → (Dr w' P A n c at_) → (Row w' b4 3 #[.int .i64 5, .int .i64 6, .int .i64 3, .int .i64 10, .int .i64 5, .int .i64 20]) → (w4.heap.size ≤ b4) → (i6 < 6) → (1 ≤ x8 ∧ x8 ≤ 60) → wpAnyH Tryz.prog .any ops Q (fun W => w4.grownBy W (some P)) 7 #[true, true, true, true, true, true, true, true, true, false, true, false, false, false, false, false, false] a w') := Lib.hid (by
            rintro a w' at_ b4 i6 x8 rfl HG HD HR4 HS4 H6 H8
            subst hops hQ ha
            have hHeld := HG
            go_simp
            have q6 : ((i6 : Nat) : Int) < 6 := by omega
            have p6 : (0 : Int) ≤ ((i6 : Nat) : Int) := by omega
            refine wpAnyH_ready (rs := [9, 11, 15]) (by kernel_rfl) (by simp) ?_
            refine AllReadyH.cons (o := _) rfl (fun K hK => ?_) ?_
            · clear hHeld
              go_simp
              first | (refine hK.out _ _ ?_ (fun hHeld => ?_)) | (go_wp2_with fail; refine hK.out _ _ ?_ (fun hHeld => ?_))
              · (try dsimp only); exact grow_p HG (World.grownBy_alloc _ _ none)
              clear hK K
              go_simp
              obtain ⟨b9, hb9⟩ : ∃ b, b = w'.heap.size := ⟨_, rfl⟩
              have HR9 : Row (w'.alloc (.cells #[.int .i64 2, .int .i64 1, .int .i64 0, .int .i64 30, .int .i64 200, .int .i64 3] 3)) b9 3 #[.int .i64 2, .int .i64 1, .int .i64 0, .int .i64 30, .int .i64 200, .int .i64 3] := by rw [hb9]; exact Row.new _ _ _
              have HS9 : w4.heap.size ≤ b9 := by rw [hb9]; exact HG.size
              rw [← hb9]
              clear hb9
              exact LD_4_6_7_8_9.out _ _ _ _ _ _ _ (by kernel_rfl) (grow_p HG (World.grownBy_alloc _ _ none)) (HD.kept (World.grownBy_alloc _ _ none) (by simp)) (HR4.kept (World.grownBy_alloc _ _ none)) HS4 H6 H8 HR9 HS9
            refine AllReadyH.cons (o := _) rfl (fun K hK => ?_) ?_
            · clear hHeld
              go_simp
              refine (draw_n P A n c l at_ 6 (by omega) (by omega) _ HD.row HD.le (HAI.out _ HG) HNE.out).mono ?_
              rintro e w2 ⟨i11, at2, rfl, hi, ha2, hd2, g⟩
              first | (refine hK.out _ _ ?_ (fun hHeld => ?_)) | (go_wp2_with fail; refine hK.out _ _ ?_ (fun hHeld => ?_))
              · (try dsimp only); exact HG.trans g
              clear hK K
              go_simp
              have q11 : ((i11 : Nat) : Int) < 6 := by omega
              have p11 : (0 : Int) ≤ ((i11 : Nat) : Int) := by omega
              exact LD_4_6_7_8_11.out _ _ _ _ _ _ _ (by kernel_rfl) (HG.trans g) ⟨hd2, ha2⟩ (HR4.keptR g (HNP.out _ HS4)) HS4 H6 H8 hi
            refine AllReadyH.cons (o := _) rfl (fun K hK => ?_) ?_
            · clear hHeld
              go_simp
              first | (refine hK.out _ _ ?_ (fun hHeld => ?_)) | (go_wp2_with fail; refine hK.out _ _ ?_ (fun hHeld => ?_))
              · (try dsimp only); exact grow_p HG (World.grownBy_alloc _ _ none)
              clear hK K
              go_simp
              obtain ⟨b15, hb15⟩ : ∃ b, b = w'.heap.size := ⟨_, rfl⟩
              have HR15 : Row (w'.alloc (.cells #[.string ⟨#[]⟩, .int .i64 0, .int .i64 0, .slice none 0 0, .slice none 0 0] 41)) b15 41 #[.string ⟨#[]⟩, .int .i64 0, .int .i64 0, .slice none 0 0, .slice none 0 0] := by rw [hb15]; exact Row.new _ _ _
              have HS15 : w4.heap.size ≤ b15 := by rw [hb15]; exact HG.size
              rw [← hb15]
              clear hb15
              exact LD_4_6_7_8_15.out _ _ _ _ _ _ _ (by kernel_rfl) (grow_p HG (World.grownBy_alloc _ _ none)) (HD.kept (World.grownBy_alloc _ _ none) (by simp)) (HR4.kept (World.grownBy_alloc _ _ none)) HS4 H6 H8 HR15 HS15
            exact AllReadyH.nil)
          have LD_4_6_7_9 : Hid (∀ (a : Act) (w' : World) (at_ : Nat) (b4 : Nat) (i6 : Nat) (b9 : Nat), a = ((((a0.put (some 27) (.slice (some ⟨b4, 0, none⟩) 6 6)).put (some 29) (.int .i64 (i6 : Int))).put (some 30) (.pointer (some ⟨b4, i6, none⟩))).put (some 32) (.slice (some ⟨b9, 0, none⟩) 6 6)) → (w4.grownBy w' (some P)) → (Dr w' P A n c at_) → (Row w' b4 3 #[.int .i64 5, .int .i64 6, .int .i64 3, .int .i64 10, .int .i64 5, .int .i64 20]) → (w4.heap.size ≤ b4) → (i6 < 6) → (Row w' b9 3 #[.int .i64 2, .int .i64 1, .int .i64 0, .int .i64 30, .int .i64 200, .int .i64 3]) → (w4.heap.size ≤ b9) → wpAnyH Tryz.prog .any ops Q (fun W => w4.grownBy W (some P)) 7 #[true, true, true, true, true, true, true, true, false, true, true, false, false, false, false, false, false] a w') := Lib.hid (by
            rintro a w' at_ b4 i6 b9 rfl HG HD HR4 HS4 H6 HR9 HS9
            subst hops hQ ha
            have hHeld := HG
            go_simp
            have q6 : ((i6 : Nat) : Int) < 6 := by omega
            have p6 : (0 : Int) ≤ ((i6 : Nat) : Int) := by omega
            refine wpAnyH_ready (rs := [8, 11, 15]) (by kernel_rfl) (by simp) ?_
            refine AllReadyH.cons (o := _) rfl (fun K hK => ?_) ?_
            · clear hHeld
              obtain ⟨x8, cx, hx1, hx2⟩ := row6 (lo := 1) (hi := 60) HR4 H6 (by decide)
              go_simp
              first | (refine hK.out _ _ ?_ (fun hHeld => ?_)) | (go_wp2_with fail; refine hK.out _ _ ?_ (fun hHeld => ?_))
              · (try dsimp only); exact HG
              clear hK K
              go_simp
              exact LD_4_6_7_8_9.out _ _ _ _ _ _ _ (by kernel_rfl) HG HD HR4 HS4 H6 ⟨hx1, hx2⟩ HR9 HS9
            refine AllReadyH.cons (o := _) rfl (fun K hK => ?_) ?_
            · clear hHeld
              go_simp
              refine (draw_n P A n c l at_ 6 (by omega) (by omega) _ HD.row HD.le (HAI.out _ HG) HNE.out).mono ?_
              rintro e w2 ⟨i11, at2, rfl, hi, ha2, hd2, g⟩
              first | (refine hK.out _ _ ?_ (fun hHeld => ?_)) | (go_wp2_with fail; refine hK.out _ _ ?_ (fun hHeld => ?_))
              · (try dsimp only); exact HG.trans g
              clear hK K
              go_simp
              have q11 : ((i11 : Nat) : Int) < 6 := by omega
              have p11 : (0 : Int) ≤ ((i11 : Nat) : Int) := by omega
              refine wpAnyH_take (i := 12) (oi := _) (v := .pointer (some ⟨b9, i11, none⟩)) rfl (by kernel_rfl) (by kernel_rfl) (by kernel_rfl) (fun _ _ _ h => h) (Or.inl ⟨by kernel_rfl, ?_⟩) (by assumption) ?_
              · (intro w hSw; (try dsimp only at hSw); go_simp; first | done | with_reducible rfl)
              try go_simp
              exact LD_4_6_7_9_11_12.out _ _ _ _ _ _ _ (by kernel_rfl) (HG.trans g) ⟨hd2, ha2⟩ (HR4.keptR g (HNP.out _ HS4)) HS4 H6 (HR9.keptR g (HNP.out _ HS9)) HS9 hi
            refine AllReadyH.cons (o := _) rfl (fun K hK => ?_) ?_
            · clear hHeld
              go_simp
              first | (refine hK.out _ _ ?_ (fun hHeld => ?_)) | (go_wp2_with fail; refine hK.out _ _ ?_ (fun hHeld => ?_))
              · (try dsimp only); exact grow_p HG (World.grownBy_alloc _ _ none)
              clear hK K
              go_simp
              obtain ⟨b15, hb15⟩ : ∃ b, b = w'.heap.size := ⟨_, rfl⟩
              have HR15 : Row (w'.alloc (.cells #[.string ⟨#[]⟩, .int .i64 0, .int .i64 0, .slice none 0 0, .slice none 0 0] 41)) b15 41 #[.string ⟨#[]⟩, .int .i64 0, .int .i64 0, .slice none 0 0, .slice none 0 0] := by rw [hb15]; exact Row.new _ _ _
              have HS15 : w4.heap.size ≤ b15 := by rw [hb15]; exact HG.size
              rw [← hb15]
              clear hb15
              exact LD_4_6_7_9_15.out _ _ _ _ _ _ _ (by kernel_rfl) (grow_p HG (World.grownBy_alloc _ _ none)) (HD.kept (World.grownBy_alloc _ _ none) (by simp)) (HR4.kept (World.grownBy_alloc _ _ none)) HS4 H6 (HR9.kept (World.grownBy_alloc _ _ none)) HS9 HR15 HS15
            exact AllReadyH.nil)
          have LD_4_6_7_11 : Hid (∀ (a : Act) (w' : World) (at_ : Nat) (b4 : Nat) (i6 : Nat) (i11 : Nat), a = ((((a0.put (some 27) (.slice (some ⟨b4, 0, none⟩) 6 6)).put (some 29) (.int .i64 (i6 : Int))).put (some 30) (.pointer (some ⟨b4, i6, none⟩))).put (some 34) (.int .i64 (i11 : Int))) → (w4.grownBy w' (some P)) → (Dr w' P A n c at_) → (Row w' b4 3 #[.int .i64 5, .int .i64 6, .int .i64 3, .int .i64 10, .int .i64 5, .int .i64 20]) → (w4.heap.size ≤ b4) → (i6 < 6) → (i11 < 6) → wpAnyH Tryz.prog .any ops Q (fun W => w4.grownBy W (some P)) 7 #[true, true, true, true, true, true, true, true, false, false, true, true, false, false, false, false, false] a w') := Lib.hid (by
            rintro a w' at_ b4 i6 i11 rfl HG HD HR4 HS4 H6 H11
            subst hops hQ ha
            have hHeld := HG
            go_simp
            have q6 : ((i6 : Nat) : Int) < 6 := by omega
            have p6 : (0 : Int) ≤ ((i6 : Nat) : Int) := by omega
            have q11 : ((i11 : Nat) : Int) < 6 := by omega
            have p11 : (0 : Int) ≤ ((i11 : Nat) : Int) := by omega
            refine wpAnyH_ready (rs := [8, 9, 15]) (by kernel_rfl) (by simp) ?_
            refine AllReadyH.cons (o := _) rfl (fun K hK => ?_) ?_
            · clear hHeld
              obtain ⟨x8, cx, hx1, hx2⟩ := row6 (lo := 1) (hi := 60) HR4 H6 (by decide)
              go_simp
              first | (refine hK.out _ _ ?_ (fun hHeld => ?_)) | (go_wp2_with fail; refine hK.out _ _ ?_ (fun hHeld => ?_))
              · (try dsimp only); exact HG
              clear hK K
              go_simp
              exact LD_4_6_7_8_11.out _ _ _ _ _ _ _ (by kernel_rfl) HG HD HR4 HS4 H6 ⟨hx1, hx2⟩ H11
            refine AllReadyH.cons (o := _) rfl (fun K hK => ?_) ?_
            · clear hHeld
              go_simp
              first | (refine hK.out _ _ ?_ (fun hHeld => ?_)) | (go_wp2_with fail; refine hK.out _ _ ?_ (fun hHeld => ?_))
              · (try dsimp only); exact grow_p HG (World.grownBy_alloc _ _ none)
              clear hK K
              go_simp
              obtain ⟨b9, hb9⟩ : ∃ b, b = w'.heap.size := ⟨_, rfl⟩
              have HR9 : Row (w'.alloc (.cells #[.int .i64 2, .int .i64 1, .int .i64 0, .int .i64 30, .int .i64 200, .int .i64 3] 3)) b9 3 #[.int .i64 2, .int .i64 1, .int .i64 0, .int .i64 30, .int .i64 200, .int .i64 3] := by rw [hb9]; exact Row.new _ _ _
              have HS9 : w4.heap.size ≤ b9 := by rw [hb9]; exact HG.size
              rw [← hb9]
              clear hb9
              refine wpAnyH_take (i := 12) (oi := _) (v := .pointer (some ⟨b9, i11, none⟩)) rfl (by kernel_rfl) (by kernel_rfl) (by kernel_rfl) (fun _ _ _ h => h) (Or.inl ⟨by kernel_rfl, ?_⟩) (by assumption) ?_
              · (intro w hSw; (try dsimp only at hSw); go_simp; first | done | with_reducible rfl)
              try go_simp
              exact LD_4_6_7_9_11_12.out _ _ _ _ _ _ _ (by kernel_rfl) (grow_p HG (World.grownBy_alloc _ _ none)) (HD.kept (World.grownBy_alloc _ _ none) (by simp)) (HR4.kept (World.grownBy_alloc _ _ none)) HS4 H6 HR9 HS9 H11
            refine AllReadyH.cons (o := _) rfl (fun K hK => ?_) ?_
            · clear hHeld
              go_simp
              first | (refine hK.out _ _ ?_ (fun hHeld => ?_)) | (go_wp2_with fail; refine hK.out _ _ ?_ (fun hHeld => ?_))
              · (try dsimp only); exact grow_p HG (World.grownBy_alloc _ _ none)
              clear hK K
              go_simp
              obtain ⟨b15, hb15⟩ : ∃ b, b = w'.heap.size := ⟨_, rfl⟩
              have HR15 : Row (w'.alloc (.cells #[.string ⟨#[]⟩, .int .i64 0, .int .i64 0, .slice none 0 0, .slice none 0 0] 41)) b15 41 #[.string ⟨#[]⟩, .int .i64 0, .int .i64 0, .slice none 0 0, .slice none 0 0] := by rw [hb15]; exact Row.new _ _ _
              have HS15 : w4.heap.size ≤ b15 := by rw [hb15]; exact HG.size
              rw [← hb15]
              clear hb15
              exact LD_4_6_7_11_15.out _ _ _ _ _ _ _ (by kernel_rfl) (grow_p HG (World.grownBy_alloc _ _ none)) (HD.kept (World.grownBy_alloc _ _ none) (by simp)) (HR4.kept (World.grownBy_alloc _ _ none)) HS4 H6 H11 HR15 HS15
            exact AllReadyH.nil)
          have LD_4_6_7_15 : Hid (∀ (a : Act) (w' : World) (at_ : Nat) (b4 : Nat) (i6 : Nat) (b15 : Nat), a = ((((a0.put (some 27) (.slice (some ⟨b4, 0, none⟩) 6 6)).put (some 29) (.int .i64 (i6 : Int))).put (some 30) (.pointer (some ⟨b4, i6, none⟩))).put (some 7) (.pointer (some ⟨b15, 0, none⟩))) → (w4.grownBy w' (some P)) → (Dr w' P A n c at_) → (Row w' b4 3 #[.int .i64 5, .int .i64 6, .int .i64 3, .int .i64 10, .int .i64 5, .int .i64 20]) → (w4.heap.size ≤ b4) → (i6 < 6) → (Row w' b15 41 #[.string ⟨#[]⟩, .int .i64 0, .int .i64 0, .slice none 0 0, .slice none 0 0]) → (w4.heap.size ≤ b15) → wpAnyH Tryz.prog .any ops Q (fun W => w4.grownBy W (some P)) 7 #[true, true, true, true, true, true, true, true, false, false, true, false, false, false, false, true, false] a w') := Lib.hid (by
            rintro a w' at_ b4 i6 b15 rfl HG HD HR4 HS4 H6 HR15 HS15
            subst hops hQ ha
            have hHeld := HG
            go_simp
            have q6 : ((i6 : Nat) : Int) < 6 := by omega
            have p6 : (0 : Int) ≤ ((i6 : Nat) : Int) := by omega
            refine wpAnyH_ready (rs := [8, 9, 11]) (by kernel_rfl) (by simp) ?_
            refine AllReadyH.cons (o := _) rfl (fun K hK => ?_) ?_
            · clear hHeld
              obtain ⟨x8, cx, hx1, hx2⟩ := row6 (lo := 1) (hi := 60) HR4 H6 (by decide)
              go_simp
              first | (refine hK.out _ _ ?_ (fun hHeld => ?_)) | (go_wp2_with fail; refine hK.out _ _ ?_ (fun hHeld => ?_))
              · (try dsimp only); exact HG
              clear hK K
              go_simp
              exact LD_4_6_7_8_15.out _ _ _ _ _ _ _ (by kernel_rfl) HG HD HR4 HS4 H6 ⟨hx1, hx2⟩ HR15 HS15
            refine AllReadyH.cons (o := _) rfl (fun K hK => ?_) ?_
            · clear hHeld
              go_simp
              first | (refine hK.out _ _ ?_ (fun hHeld => ?_)) | (go_wp2_with fail; refine hK.out _ _ ?_ (fun hHeld => ?_))
              · (try dsimp only); exact grow_p HG (World.grownBy_alloc _ _ none)
              clear hK K
              go_simp
              obtain ⟨b9, hb9⟩ : ∃ b, b = w'.heap.size := ⟨_, rfl⟩
              have HR9 : Row (w'.alloc (.cells #[.int .i64 2, .int .i64 1, .int .i64 0, .int .i64 30, .int .i64 200, .int .i64 3] 3)) b9 3 #[.int .i64 2, .int .i64 1, .int .i64 0, .int .i64 30, .int .i64 200, .int .i64 3] := by rw [hb9]; exact Row.new _ _ _
              have HS9 : w4.heap.size ≤ b9 := by rw [hb9]; exact HG.size
              rw [← hb9]
              clear hb9
              exact LD_4_6_7_9_15.out _ _ _ _ _ _ _ (by kernel_rfl) (grow_p HG (World.grownBy_alloc _ _ none)) (HD.kept (World.grownBy_alloc _ _ none) (by simp)) (HR4.kept (World.grownBy_alloc _ _ none)) HS4 H6 HR9 HS9 (HR15.kept (World.grownBy_alloc _ _ none)) HS15
            refine AllReadyH.cons (o := _) rfl (fun K hK => ?_) ?_
            · clear hHeld
              go_simp
              refine (draw_n P A n c l at_ 6 (by omega) (by omega) _ HD.row HD.le (HAI.out _ HG) HNE.out).mono ?_
              rintro e w2 ⟨i11, at2, rfl, hi, ha2, hd2, g⟩
              first | (refine hK.out _ _ ?_ (fun hHeld => ?_)) | (go_wp2_with fail; refine hK.out _ _ ?_ (fun hHeld => ?_))
              · (try dsimp only); exact HG.trans g
              clear hK K
              go_simp
              have q11 : ((i11 : Nat) : Int) < 6 := by omega
              have p11 : (0 : Int) ≤ ((i11 : Nat) : Int) := by omega
              exact LD_4_6_7_11_15.out _ _ _ _ _ _ _ (by kernel_rfl) (HG.trans g) ⟨hd2, ha2⟩ (HR4.keptR g (HNP.out _ HS4)) HS4 H6 hi (HR15.keptR g (HNP.out _ HS15)) HS15
            exact AllReadyH.nil)
          have LD_6_9_11_12 : Hid (∀ (a : Act) (w' : World) (at_ : Nat) (i6 : Nat) (b9 : Nat) (i11 : Nat), a = ((((a0.put (some 29) (.int .i64 (i6 : Int))).put (some 32) (.slice (some ⟨b9, 0, none⟩) 6 6)).put (some 34) (.int .i64 (i11 : Int))).put (some 35) (.pointer (some ⟨b9, i11, none⟩))) → (w4.grownBy w' (some P)) → (Dr w' P A n c at_) → (i6 < 6) → (Row w' b9 3 #[.int .i64 2, .int .i64 1, .int .i64 0, .int .i64 30, .int .i64 200, .int .i64 3]) → (w4.heap.size ≤ b9) → (i11 < 6) → wpAnyH Tryz.prog .any ops Q (fun W => w4.grownBy W (some P)) 7 #[true, true, true, true, false, true, true, false, false, true, true, true, true, false, false, false, false] a w') := Lib.hid (by
            rintro a w' at_ i6 b9 i11 rfl HG HD H6 HR9 HS9 H11
            subst hops hQ ha
            have hHeld := HG
            go_simp
            have q6 : ((i6 : Nat) : Int) < 6 := by omega
            have p6 : (0 : Int) ≤ ((i6 : Nat) : Int) := by omega
            have q11 : ((i11 : Nat) : Int) < 6 := by omega
            have p11 : (0 : Int) ≤ ((i11 : Nat) : Int) := by omega
            refine wpAnyH_ready (rs := [4, 13, 15]) (by kernel_rfl) (by simp) ?_
            refine AllReadyH.cons (o := _) rfl (fun K hK => ?_) ?_
            · clear hHeld
              go_simp
              first | (refine hK.out _ _ ?_ (fun hHeld => ?_)) | (go_wp2_with fail; refine hK.out _ _ ?_ (fun hHeld => ?_))
              · (try dsimp only); exact grow_p HG (World.grownBy_alloc _ _ none)
              clear hK K
              go_simp
              obtain ⟨b4, hb4⟩ : ∃ b, b = w'.heap.size := ⟨_, rfl⟩
              have HR4 : Row (w'.alloc (.cells #[.int .i64 5, .int .i64 6, .int .i64 3, .int .i64 10, .int .i64 5, .int .i64 20] 3)) b4 3 #[.int .i64 5, .int .i64 6, .int .i64 3, .int .i64 10, .int .i64 5, .int .i64 20] := by rw [hb4]; exact Row.new _ _ _
              have HS4 : w4.heap.size ≤ b4 := by rw [hb4]; exact HG.size
              rw [← hb4]
              clear hb4
              refine wpAnyH_take (i := 7) (oi := _) (v := .pointer (some ⟨b4, i6, none⟩)) rfl (by kernel_rfl) (by kernel_rfl) (by kernel_rfl) (fun _ _ _ h => h) (Or.inl ⟨by kernel_rfl, ?_⟩) (by assumption) ?_
              · (intro w hSw; (try dsimp only at hSw); go_simp; first | done | with_reducible rfl)
              try go_simp
              exact LD_4_6_7_9_11_12.out _ _ _ _ _ _ _ (by kernel_rfl) (grow_p HG (World.grownBy_alloc _ _ none)) (HD.kept (World.grownBy_alloc _ _ none) (by simp)) HR4 HS4 H6 (HR9.kept (World.grownBy_alloc _ _ none)) HS9 H11
            refine AllReadyH.cons (o := _) rfl (fun K hK => ?_) ?_
            · clear hHeld
              obtain ⟨x13, cx, hx1, hx2⟩ := row6 (lo := 0) (hi := 200) HR9 H11 (by decide)
              go_simp
              first | (refine hK.out _ _ ?_ (fun hHeld => ?_)) | (go_wp2_with fail; refine hK.out _ _ ?_ (fun hHeld => ?_))
              · (try dsimp only); exact HG
              clear hK K
              go_simp
              exact LD_6_9_11_12_13.out _ _ _ _ _ _ _ (by kernel_rfl) HG HD H6 HR9 HS9 H11 ⟨hx1, hx2⟩
            refine AllReadyH.cons (o := _) rfl (fun K hK => ?_) ?_
            · clear hHeld
              go_simp
              first | (refine hK.out _ _ ?_ (fun hHeld => ?_)) | (go_wp2_with fail; refine hK.out _ _ ?_ (fun hHeld => ?_))
              · (try dsimp only); exact grow_p HG (World.grownBy_alloc _ _ none)
              clear hK K
              go_simp
              obtain ⟨b15, hb15⟩ : ∃ b, b = w'.heap.size := ⟨_, rfl⟩
              have HR15 : Row (w'.alloc (.cells #[.string ⟨#[]⟩, .int .i64 0, .int .i64 0, .slice none 0 0, .slice none 0 0] 41)) b15 41 #[.string ⟨#[]⟩, .int .i64 0, .int .i64 0, .slice none 0 0, .slice none 0 0] := by rw [hb15]; exact Row.new _ _ _
              have HS15 : w4.heap.size ≤ b15 := by rw [hb15]; exact HG.size
              rw [← hb15]
              clear hb15
              exact LD_6_9_11_12_15.out _ _ _ _ _ _ _ (by kernel_rfl) (grow_p HG (World.grownBy_alloc _ _ none)) (HD.kept (World.grownBy_alloc _ _ none) (by simp)) H6 (HR9.kept (World.grownBy_alloc _ _ none)) HS9 H11 HR15 HS15
            exact AllReadyH.nil)
          have LD_4_6_7 : Hid (∀ (a : Act) (w' : World) (at_ : Nat) (b4 : Nat) (i6 : Nat), a = (((a0.put (some 27) (.slice (some ⟨b4, 0, none⟩) 6 6)).put (some 29) (.int .i64 (i6 : Int))).put (some 30) (.pointer (some ⟨b4, i6, none⟩))) → (w4.grownBy w' (some P)) → (Dr w' P A n c at_) → (Row w' b4 3 #[.int .i64 5, .int .i64 6, .int .i64 3, .int .i64 10, .int .i64 5, .int .i64 20]) → (w4.heap.size ≤ b4) → (i6 < 6) → wpAnyH Tryz.prog .any ops Q (fun W => w4.grownBy W (some P)) 8 #[true, true, true, true, true, true, true, true, false, false, true, false, false, false, false, false, false] a w') := Lib.hid (by
            rintro a w' at_ b4 i6 rfl HG HD HR4 HS4 H6
            subst hops hQ ha
            have hHeld := HG
            go_simp
            have q6 : ((i6 : Nat) : Int) < 6 := by omega
            have p6 : (0 : Int) ≤ ((i6 : Nat) : Int) := by omega
            refine wpAnyH_ready (rs := [8, 9, 11, 15]) (by kernel_rfl) (by simp) ?_
            refine AllReadyH.cons (o := _) rfl (fun K hK => ?_) ?_
            · clear hHeld
              obtain ⟨x8, cx, hx1, hx2⟩ := row6 (lo := 1) (hi := 60) HR4 H6 (by decide)
              go_simp
              first | (refine hK.out _ _ ?_ (fun hHeld => ?_)) | (go_wp2_with fail; refine hK.out _ _ ?_ (fun hHeld => ?_))
              · (try dsimp only); exact HG
              clear hK K
              go_simp
              exact LD_4_6_7_8.out _ _ _ _ _ _ (by kernel_rfl) HG HD HR4 HS4 H6 ⟨hx1, hx2⟩
            refine AllReadyH.cons (o := _) rfl (fun K hK => ?_) ?_
            · clear hHeld
              go_simp
              first | (refine hK.out _ _ ?_ (fun hHeld => ?_)) | (go_wp2_with fail; refine hK.out _ _ ?_ (fun hHeld => ?_))
              · (try dsimp only); exact grow_p HG (World.grownBy_alloc _ _ none)
              clear hK K
              go_simp
              obtain ⟨b9, hb9⟩ : ∃ b, b = w'.heap.size := ⟨_, rfl⟩
              have HR9 : Row (w'.alloc (.cells #[.int .i64 2, .int .i64 1, .int .i64 0, .int .i64 30, .int .i64 200, .int .i64 3] 3)) b9 3 #[.int .i64 2, .int .i64 1, .int .i64 0, .int .i64 30, .int .i64 200, .int .i64 3] := by rw [hb9]; exact Row.new _ _ _
              have HS9 : w4.heap.size ≤ b9 := by rw [hb9]; exact HG.size
              rw [← hb9]
              clear hb9
              exact LD_4_6_7_9.out _ _ _ _ _ _ (by kernel_rfl) (grow_p HG (World.grownBy_alloc _ _ none)) (HD.kept (World.grownBy_alloc _ _ none) (by simp)) (HR4.kept (World.grownBy_alloc _ _ none)) HS4 H6 HR9 HS9
            refine AllReadyH.cons (o := _) rfl (fun K hK => ?_) ?_
            · clear hHeld
              go_simp
              refine (draw_n P A n c l at_ 6 (by omega) (by omega) _ HD.row HD.le (HAI.out _ HG) HNE.out).mono ?_
              rintro e w2 ⟨i11, at2, rfl, hi, ha2, hd2, g⟩
              first | (refine hK.out _ _ ?_ (fun hHeld => ?_)) | (go_wp2_with fail; refine hK.out _ _ ?_ (fun hHeld => ?_))
              · (try dsimp only); exact HG.trans g
              clear hK K
              go_simp
              have q11 : ((i11 : Nat) : Int) < 6 := by omega
              have p11 : (0 : Int) ≤ ((i11 : Nat) : Int) := by omega
              exact LD_4_6_7_11.out _ _ _ _ _ _ (by kernel_rfl) (HG.trans g) ⟨hd2, ha2⟩ (HR4.keptR g (HNP.out _ HS4)) HS4 H6 hi
            refine AllReadyH.cons (o := _) rfl (fun K hK => ?_) ?_
            · clear hHeld
              go_simp
              first | (refine hK.out _ _ ?_ (fun hHeld => ?_)) | (go_wp2_with fail; refine hK.out _ _ ?_ (fun hHeld => ?_))
              · (try dsimp only); exact grow_p HG (World.grownBy_alloc _ _ none)
              clear hK K
              go_simp
              obtain ⟨b15, hb15⟩ : ∃ b, b = w'.heap.size := ⟨_, rfl⟩
              have HR15 : Row (w'.alloc (.cells #[.string ⟨#[]⟩, .int .i64 0, .int .i64 0, .slice none 0 0, .slice none 0 0] 41)) b15 41 #[.string ⟨#[]⟩, .int .i64 0, .int .i64 0, .slice none 0 0, .slice none 0 0] := by rw [hb15]; exact Row.new _ _ _
              have HS15 : w4.heap.size ≤ b15 := by rw [hb15]; exact HG.size
              rw [← hb15]
              clear hb15
              exact LD_4_6_7_15.out _ _ _ _ _ _ (by kernel_rfl) (grow_p HG (World.grownBy_alloc _ _ none)) (HD.kept (World.grownBy_alloc _ _ none) (by simp)) (HR4.kept (World.grownBy_alloc _ _ none)) HS4 H6 HR15 HS15
            exact AllReadyH.nil)
          have LD_4_9_15 : Hid (∀ (a : Act) (w' : World) (at_ : Nat) (b4 : Nat) (b9 : Nat) (b15 : Nat), a = (((a0.put (some 27) (.slice (some ⟨b4, 0, none⟩) 6 6)).put (some 32) (.slice (some ⟨b9, 0, none⟩) 6 6)).put (some 7) (.pointer (some ⟨b15, 0, none⟩))) → (w4.grownBy w' (some P)) → (Dr w' P A n c at_) → (Row w' b4 3 #[.int .i64 5, .int .i64 6, .int .i64 3, .int .i64 10, .int .i64 5, .int .i64 20]) → (w4.heap.size ≤ b4) → (Row w' b9 3 #[.int .i64 2, .int .i64 1, .int .i64 0, .int .i64 30, .int .i64 200, .int .i64 3]) → (w4.heap.size ≤ b9) → (Row w' b15 41 #[.string ⟨#[]⟩, .int .i64 0, .int .i64 0, .slice none 0 0, .slice none 0 0]) → (w4.heap.size ≤ b15) → wpAnyH Tryz.prog .any ops Q (fun W => w4.grownBy W (some P)) 8 #[true, true, true, true, true, true, false, false, false, true, true, false, false, false, false, true, false] a w') := Lib.hid (by
            rintro a w' at_ b4 b9 b15 rfl HG HD HR4 HS4 HR9 HS9 HR15 HS15
            subst hops hQ ha
            have hHeld := HG
            go_simp
            refine wpAnyH_ready (rs := [6]) (by kernel_rfl) (by simp) ?_
            refine AllReadyH.cons (o := _) rfl (fun K hK => ?_) ?_
            · clear hHeld
              go_simp
              refine (draw_n P A n c l at_ 6 (by omega) (by omega) _ HD.row HD.le (HAI.out _ HG) HNE.out).mono ?_
              rintro e w2 ⟨i6, at2, rfl, hi, ha2, hd2, g⟩
              first | (refine hK.out _ _ ?_ (fun hHeld => ?_)) | (go_wp2_with fail; refine hK.out _ _ ?_ (fun hHeld => ?_))
              · (try dsimp only); exact HG.trans g
              clear hK K
              go_simp
              have q6 : ((i6 : Nat) : Int) < 6 := by omega
              have p6 : (0 : Int) ≤ ((i6 : Nat) : Int) := by omega
              refine wpAnyH_take (i := 7) (oi := _) (v := .pointer (some ⟨b4, i6, none⟩)) rfl (by kernel_rfl) (by kernel_rfl) (by kernel_rfl) (fun _ _ _ h => h) (Or.inl ⟨by kernel_rfl, ?_⟩) (by assumption) ?_
              · (intro w hSw; (try dsimp only at hSw); go_simp; first | done | with_reducible rfl)
              try go_simp
              exact LD_4_6_7_9_15.out _ _ _ _ _ _ _ (by kernel_rfl) (HG.trans g) ⟨hd2, ha2⟩ (HR4.keptR g (HNP.out _ HS4)) HS4 hi (HR9.keptR g (HNP.out _ HS9)) HS9 (HR15.keptR g (HNP.out _ HS15)) HS15
            exact AllReadyH.nil)
          have LD_6_9_15 : Hid (∀ (a : Act) (w' : World) (at_ : Nat) (i6 : Nat) (b9 : Nat) (b15 : Nat), a = (((a0.put (some 29) (.int .i64 (i6 : Int))).put (some 32) (.slice (some ⟨b9, 0, none⟩) 6 6)).put (some 7) (.pointer (some ⟨b15, 0, none⟩))) → (w4.grownBy w' (some P)) → (Dr w' P A n c at_) → (i6 < 6) → (Row w' b9 3 #[.int .i64 2, .int .i64 1, .int .i64 0, .int .i64 30, .int .i64 200, .int .i64 3]) → (w4.heap.size ≤ b9) → (Row w' b15 41 #[.string ⟨#[]⟩, .int .i64 0, .int .i64 0, .slice none 0 0, .slice none 0 0]) → (w4.heap.size ≤ b15) → wpAnyH Tryz.prog .any ops Q (fun W => w4.grownBy W (some P)) 8 #[true, true, true, true, false, true, true, false, false, true, true, false, false, false, false, true, false] a w') := Lib.hid (by
            rintro a w' at_ i6 b9 b15 rfl HG HD H6 HR9 HS9 HR15 HS15
            subst hops hQ ha
            have hHeld := HG
            go_simp
            have q6 : ((i6 : Nat) : Int) < 6 := by omega
            have p6 : (0 : Int) ≤ ((i6 : Nat) : Int) := by omega
            refine wpAnyH_ready (rs := [4, 11]) (by kernel_rfl) (by simp) ?_
            refine AllReadyH.cons (o := _) rfl (fun K hK => ?_) ?_
            · clear hHeld
              go_simp
              first | (refine hK.out _ _ ?_ (fun hHeld => ?_)) | (go_wp2_with fail; refine hK.out _ _ ?_ (fun hHeld => ?_))
              · (try dsimp only); exact grow_p HG (World.grownBy_alloc _ _ none)
              clear hK K
              go_simp
              obtain ⟨b4, hb4⟩ : ∃ b, b = w'.heap.size := ⟨_, rfl⟩
              have HR4 : Row (w'.alloc (.cells #[.int .i64 5, .int .i64 6, .int .i64 3, .int .i64 10, .int .i64 5, .int .i64 20] 3)) b4 3 #[.int .i64 5, .int .i64 6, .int .i64 3, .int .i64 10, .int .i64 5, .int .i64 20] := by rw [hb4]; exact Row.new _ _ _
              have HS4 : w4.heap.size ≤ b4 := by rw [hb4]; exact HG.size
              rw [← hb4]
              clear hb4
              refine wpAnyH_take (i := 7) (oi := _) (v := .pointer (some ⟨b4, i6, none⟩)) rfl (by kernel_rfl) (by kernel_rfl) (by kernel_rfl) (fun _ _ _ h => h) (Or.inl ⟨by kernel_rfl, ?_⟩) (by assumption) ?_
              · (intro w hSw; (try dsimp only at hSw); go_simp; first | done | with_reducible rfl)
              try go_simp
              exact LD_4_6_7_9_15.out _ _ _ _ _ _ _ (by kernel_rfl) (grow_p HG (World.grownBy_alloc _ _ none)) (HD.kept (World.grownBy_alloc _ _ none) (by simp)) HR4 HS4 H6 (HR9.kept (World.grownBy_alloc _ _ none)) HS9 (HR15.kept (World.grownBy_alloc _ _ none)) HS15
            refine AllReadyH.cons (o := _) rfl (fun K hK => ?_) ?_
            · clear hHeld
              go_simp
              refine (draw_n P A n c l at_ 6 (by omega) (by omega) _ HD.row HD.le (HAI.out _ HG) HNE.out).mono ?_
              rintro e w2 ⟨i11, at2, rfl, hi, ha2, hd2, g⟩
              first | (refine hK.out _ _ ?_ (fun hHeld => ?_)) | (go_wp2_with fail; refine hK.out _ _ ?_ (fun hHeld => ?_))
              · (try dsimp only); exact HG.trans g
              clear hK K
              go_simp
              have q11 : ((i11 : Nat) : Int) < 6 := by omega
              have p11 : (0 : Int) ≤ ((i11 : Nat) : Int) := by omega
              refine wpAnyH_take (i := 12) (oi := _) (v := .pointer (some ⟨b9, i11, none⟩)) rfl (by kernel_rfl) (by kernel_rfl) (by kernel_rfl) (fun _ _ _ h => h) (Or.inl ⟨by kernel_rfl, ?_⟩) (by assumption) ?_
              · (intro w hSw; (try dsimp only at hSw); go_simp; first | done | with_reducible rfl)
              try go_simp
              exact LD_6_9_11_12_15.out _ _ _ _ _ _ _ (by kernel_rfl) (HG.trans g) ⟨hd2, ha2⟩ H6 (HR9.keptR g (HNP.out _ HS9)) HS9 hi (HR15.keptR g (HNP.out _ HS15)) HS15
            exact AllReadyH.nil)
          have LD_6_11_15 : Hid (∀ (a : Act) (w' : World) (at_ : Nat) (i6 : Nat) (i11 : Nat) (b15 : Nat), a = (((a0.put (some 29) (.int .i64 (i6 : Int))).put (some 34) (.int .i64 (i11 : Int))).put (some 7) (.pointer (some ⟨b15, 0, none⟩))) → (w4.grownBy w' (some P)) → (Dr w' P A n c at_) → (i6 < 6) → (i11 < 6) → (Row w' b15 41 #[.string ⟨#[]⟩, .int .i64 0, .int .i64 0, .slice none 0 0, .slice none 0 0]) → (w4.heap.size ≤ b15) → wpAnyH Tryz.prog .any ops Q (fun W => w4.grownBy W (some P)) 8 #[true, true, true, true, false, true, true, false, false, false, true, true, false, false, false, true, false] a w') := Lib.hid (by
            rintro a w' at_ i6 i11 b15 rfl HG HD H6 H11 HR15 HS15
            subst hops hQ ha
            have hHeld := HG
            go_simp
            have q6 : ((i6 : Nat) : Int) < 6 := by omega
            have p6 : (0 : Int) ≤ ((i6 : Nat) : Int) := by omega
            have q11 : ((i11 : Nat) : Int) < 6 := by omega
            have p11 : (0 : Int) ≤ ((i11 : Nat) : Int) := by omega
            refine wpAnyH_ready (rs := [4, 9]) (by kernel_rfl) (by simp) ?_
            refine AllReadyH.cons (o := _) rfl (fun K hK => ?_) ?_
            · clear hHeld
              go_simp
              first | (refine hK.out _ _ ?_ (fun hHeld => ?_)) | (go_wp2_with fail; refine hK.out _ _ ?_ (fun hHeld => ?_))
              · (try dsimp only); exact grow_p HG (World.grownBy_alloc _ _ none)
              clear hK K
              go_simp
              obtain ⟨b4, hb4⟩ : ∃ b, b = w'.heap.size := ⟨_, rfl⟩
              have HR4 : Row (w'.alloc (.cells #[.int .i64 5, .int .i64 6, .int .i64 3, .int .i64 10, .int .i64 5, .int .i64 20] 3)) b4 3 #[.int .i64 5, .int .i64 6, .int .i64 3, .int .i64 10, .int .i64 5, .int .i64 20] := by rw [hb4]; exact Row.new _ _ _
              have HS4 : w4.heap.size ≤ b4 := by rw [hb4]; exact HG.size
              rw [← hb4]
              clear hb4
              refine wpAnyH_take (i := 7) (oi := _) (v := .pointer (some ⟨b4, i6, none⟩)) rfl (by kernel_rfl) (by kernel_rfl) (by kernel_rfl) (fun _ _ _ h => h) (Or.inl ⟨by kernel_rfl, ?_⟩) (by assumption) ?_
              · (intro w hSw; (try dsimp only at hSw); go_simp; first | done | with_reducible rfl)
              try go_simp
              exact LD_4_6_7_11_15.out _ _ _ _ _ _ _ (by kernel_rfl) (grow_p HG (World.grownBy_alloc _ _ none)) (HD.kept (World.grownBy_alloc _ _ none) (by simp)) HR4 HS4 H6 H11 (HR15.kept (World.grownBy_alloc _ _ none)) HS15
            refine AllReadyH.cons (o := _) rfl (fun K hK => ?_) ?_
            · clear hHeld
              go_simp
              first | (refine hK.out _ _ ?_ (fun hHeld => ?_)) | (go_wp2_with fail; refine hK.out _ _ ?_ (fun hHeld => ?_))
              · (try dsimp only); exact grow_p HG (World.grownBy_alloc _ _ none)
              clear hK K
              go_simp
              obtain ⟨b9, hb9⟩ : ∃ b, b = w'.heap.size := ⟨_, rfl⟩
              have HR9 : Row (w'.alloc (.cells #[.int .i64 2, .int .i64 1, .int .i64 0, .int .i64 30, .int .i64 200, .int .i64 3] 3)) b9 3 #[.int .i64 2, .int .i64 1, .int .i64 0, .int .i64 30, .int .i64 200, .int .i64 3] := by rw [hb9]; exact Row.new _ _ _
              have HS9 : w4.heap.size ≤ b9 := by rw [hb9]; exact HG.size
              rw [← hb9]
              clear hb9
              refine wpAnyH_take (i := 12) (oi := _) (v := .pointer (some ⟨b9, i11, none⟩)) rfl (by kernel_rfl) (by kernel_rfl) (by kernel_rfl) (fun _ _ _ h => h) (Or.inl ⟨by kernel_rfl, ?_⟩) (by assumption) ?_
              · (intro w hSw; (try dsimp only at hSw); go_simp; first | done | with_reducible rfl)
              try go_simp
              exact LD_6_9_11_12_15.out _ _ _ _ _ _ _ (by kernel_rfl) (grow_p HG (World.grownBy_alloc _ _ none)) (HD.kept (World.grownBy_alloc _ _ none) (by simp)) H6 HR9 HS9 H11 (HR15.kept (World.grownBy_alloc _ _ none)) HS15
            exact AllReadyH.nil)
          have LD_4_9 : Hid (∀ (a : Act) (w' : World) (at_ : Nat) (b4 : Nat) (b9 : Nat), a = ((a0.put (some 27) (.slice (some ⟨b4, 0, none⟩) 6 6)).put (some 32) (.slice (some ⟨b9, 0, none⟩) 6 6)) → (w4.grownBy w' (some P)) → (Dr w' P A n c at_) → (Row w' b4 3 #[.int .i64 5, .int .i64 6, .int .i64 3, .int .i64 10, .int .i64 5, .int .i64 20]) → (w4.heap.size ≤ b4) → (Row w' b9 3 #[.int .i64 2, .int .i64 1, .int .i64 0, .int .i64 30, .int .i64 200, .int .i64 3]) → (w4.heap.size ≤ b9) → wpAnyH Tryz.prog .any ops Q (fun W => w4.grownBy W (some P)) 9 #[true, true, true, true, true, true, false, false, false, true, true, false, false, false, false, false, false] a w') := Lib.hid (by
            rintro a w' at_ b4 b9 rfl HG HD HR4 HS4 HR9 HS9
            subst hops hQ ha
            have hHeld := HG
            go_simp
            refine wpAnyH_ready (rs := [6, 15]) (by kernel_rfl) (by simp) ?_
            refine AllReadyH.cons (o := _) rfl (fun K hK => ?_) ?_
            · clear hHeld
              go_simp
              refine (draw_n P A n c l at_ 6 (by omega) (by omega) _ HD.row HD.le (HAI.out _ HG) HNE.out).mono ?_
              rintro e w2 ⟨i6, at2, rfl, hi, ha2, hd2, g⟩
              first | (refine hK.out _ _ ?_ (fun hHeld => ?_)) | (go_wp2_with fail; refine hK.out _ _ ?_ (fun hHeld => ?_))
              · (try dsimp only); exact HG.trans g
              clear hK K
              go_simp
              have q6 : ((i6 : Nat) : Int) < 6 := by omega
              have p6 : (0 : Int) ≤ ((i6 : Nat) : Int) := by omega
              refine wpAnyH_take (i := 7) (oi := _) (v := .pointer (some ⟨b4, i6, none⟩)) rfl (by kernel_rfl) (by kernel_rfl) (by kernel_rfl) (fun _ _ _ h => h) (Or.inl ⟨by kernel_rfl, ?_⟩) (by assumption) ?_
              · (intro w hSw; (try dsimp only at hSw); go_simp; first | done | with_reducible rfl)
              try go_simp
              exact LD_4_6_7_9.out _ _ _ _ _ _ (by kernel_rfl) (HG.trans g) ⟨hd2, ha2⟩ (HR4.keptR g (HNP.out _ HS4)) HS4 hi (HR9.keptR g (HNP.out _ HS9)) HS9
            refine AllReadyH.cons (o := _) rfl (fun K hK => ?_) ?_
            · clear hHeld
              go_simp
              first | (refine hK.out _ _ ?_ (fun hHeld => ?_)) | (go_wp2_with fail; refine hK.out _ _ ?_ (fun hHeld => ?_))
              · (try dsimp only); exact grow_p HG (World.grownBy_alloc _ _ none)
              clear hK K
              go_simp
              obtain ⟨b15, hb15⟩ : ∃ b, b = w'.heap.size := ⟨_, rfl⟩
              have HR15 : Row (w'.alloc (.cells #[.string ⟨#[]⟩, .int .i64 0, .int .i64 0, .slice none 0 0, .slice none 0 0] 41)) b15 41 #[.string ⟨#[]⟩, .int .i64 0, .int .i64 0, .slice none 0 0, .slice none 0 0] := by rw [hb15]; exact Row.new _ _ _
              have HS15 : w4.heap.size ≤ b15 := by rw [hb15]; exact HG.size
              rw [← hb15]
              clear hb15
              exact LD_4_9_15.out _ _ _ _ _ _ (by kernel_rfl) (grow_p HG (World.grownBy_alloc _ _ none)) (HD.kept (World.grownBy_alloc _ _ none) (by simp)) (HR4.kept (World.grownBy_alloc _ _ none)) HS4 (HR9.kept (World.grownBy_alloc _ _ none)) HS9 HR15 HS15
            exact AllReadyH.nil)
          have LD_4_15 : Hid (∀ (a : Act) (w' : World) (at_ : Nat) (b4 : Nat) (b15 : Nat), a = ((a0.put (some 27) (.slice (some ⟨b4, 0, none⟩) 6 6)).put (some 7) (.pointer (some ⟨b15, 0, none⟩))) → (w4.grownBy w' (some P)) → (Dr w' P A n c at_) → (Row w' b4 3 #[.int .i64 5, .int .i64 6, .int .i64 3, .int .i64 10, .int .i64 5, .int .i64 20]) → (w4.heap.size ≤ b4) → (Row w' b15 41 #[.string ⟨#[]⟩, .int .i64 0, .int .i64 0, .slice none 0 0, .slice none 0 0]) → (w4.heap.size ≤ b15) → wpAnyH Tryz.prog .any ops Q (fun W => w4.grownBy W (some P)) 9 #[true, true, true, true, true, true, false, false, false, false, true, false, false, false, false, true, false] a w') := Lib.hid (by
            rintro a w' at_ b4 b15 rfl HG HD HR4 HS4 HR15 HS15
            subst hops hQ ha
            have hHeld := HG
            go_simp
            refine wpAnyH_ready (rs := [6, 9]) (by kernel_rfl) (by simp) ?_
            refine AllReadyH.cons (o := _) rfl (fun K hK => ?_) ?_
            · clear hHeld
              go_simp
              refine (draw_n P A n c l at_ 6 (by omega) (by omega) _ HD.row HD.le (HAI.out _ HG) HNE.out).mono ?_
              rintro e w2 ⟨i6, at2, rfl, hi, ha2, hd2, g⟩
              first | (refine hK.out _ _ ?_ (fun hHeld => ?_)) | (go_wp2_with fail; refine hK.out _ _ ?_ (fun hHeld => ?_))
              · (try dsimp only); exact HG.trans g
              clear hK K
              go_simp
              have q6 : ((i6 : Nat) : Int) < 6 := by omega
              have p6 : (0 : Int) ≤ ((i6 : Nat) : Int) := by omega
              refine wpAnyH_take (i := 7) (oi := _) (v := .pointer (some ⟨b4, i6, none⟩)) rfl (by kernel_rfl) (by kernel_rfl) (by kernel_rfl) (fun _ _ _ h => h) (Or.inl ⟨by kernel_rfl, ?_⟩) (by assumption) ?_
              · (intro w hSw; (try dsimp only at hSw); go_simp; first | done | with_reducible rfl)
              try go_simp
              exact LD_4_6_7_15.out _ _ _ _ _ _ (by kernel_rfl) (HG.trans g) ⟨hd2, ha2⟩ (HR4.keptR g (HNP.out _ HS4)) HS4 hi (HR15.keptR g (HNP.out _ HS15)) HS15
            refine AllReadyH.cons (o := _) rfl (fun K hK => ?_) ?_
            · clear hHeld
              go_simp
              first | (refine hK.out _ _ ?_ (fun hHeld => ?_)) | (go_wp2_with fail; refine hK.out _ _ ?_ (fun hHeld => ?_))
              · (try dsimp only); exact grow_p HG (World.grownBy_alloc _ _ none)
              clear hK K
              go_simp
              obtain ⟨b9, hb9⟩ : ∃ b, b = w'.heap.size := ⟨_, rfl⟩
              have HR9 : Row (w'.alloc (.cells #[.int .i64 2, .int .i64 1, .int .i64 0, .int .i64 30, .int .i64 200, .int .i64 3] 3)) b9 3 #[.int .i64 2, .int .i64 1, .int .i64 0, .int .i64 30, .int .i64 200, .int .i64 3] := by rw [hb9]; exact Row.new _ _ _
              have HS9 : w4.heap.size ≤ b9 := by rw [hb9]; exact HG.size
              rw [← hb9]
              clear hb9
              exact LD_4_9_15.out _ _ _ _ _ _ (by kernel_rfl) (grow_p HG (World.grownBy_alloc _ _ none)) (HD.kept (World.grownBy_alloc _ _ none) (by simp)) (HR4.kept (World.grownBy_alloc _ _ none)) HS4 HR9 HS9 (HR15.kept (World.grownBy_alloc _ _ none)) HS15
            exact AllReadyH.nil)
          have LD_6_9 : Hid (∀ (a : Act) (w' : World) (at_ : Nat) (i6 : Nat) (b9 : Nat), a = ((a0.put (some 29) (.int .i64 (i6 : Int))).put (some 32) (.slice (some ⟨b9, 0, none⟩) 6 6)) → (w4.grownBy w' (some P)) → (Dr w' P A n c at_) → (i6 < 6) → (Row w' b9 3 #[.int .i64 2, .int .i64 1, .int .i64 0, .int .i64 30, .int .i64 200, .int .i64 3]) → (w4.heap.size ≤ b9) → wpAnyH Tryz.prog .any ops Q (fun W => w4.grownBy W (some P)) 9 #[true, true, true, true, false, true, true, false, false, true, true, false, false, false, false, false, false] a w') := Lib.hid (by
            rintro a w' at_ i6 b9 rfl HG HD H6 HR9 HS9
            subst hops hQ ha
            have hHeld := HG
            go_simp
            have q6 : ((i6 : Nat) : Int) < 6 := by omega
            have p6 : (0 : Int) ≤ ((i6 : Nat) : Int) := by omega
            refine wpAnyH_ready (rs := [4, 11, 15]) (by kernel_rfl) (by simp) ?_
            refine AllReadyH.cons (o := _) rfl (fun K hK => ?_) ?_
            · clear hHeld
              go_simp
              first | (refine hK.out _ _ ?_ (fun hHeld => ?_)) | (go_wp2_with fail; refine hK.out _ _ ?_ (fun hHeld => ?_))
              · (try dsimp only); exact grow_p HG (World.grownBy_alloc _ _ none)
              clear hK K
              go_simp
              obtain ⟨b4, hb4⟩ : ∃ b, b = w'.heap.size := ⟨_, rfl⟩
              have HR4 : Row (w'.alloc (.cells #[.int .i64 5, .int .i64 6, .int .i64 3, .int .i64 10, .int .i64 5, .int .i64 20] 3)) b4 3 #[.int .i64 5, .int .i64 6, .int .i64 3, .int .i64 10, .int .i64 5, .int .i64 20] := by rw [hb4]; exact Row.new _ _ _
              have HS4 : w4.heap.size ≤ b4 := by rw [hb4]; exact HG.size
              rw [← hb4]
              clear hb4
              refine wpAnyH_take (i := 7) (oi := _) (v := .pointer (some ⟨b4, i6, none⟩)) rfl (by kernel_rfl) (by kernel_rfl) (by kernel_rfl) (fun _ _ _ h => h) (Or.inl ⟨by kernel_rfl, ?_⟩) (by assumption) ?_
              · (intro w hSw; (try dsimp only at hSw); go_simp; first | done | with_reducible rfl)
              try go_simp
              exact LD_4_6_7_9.out _ _ _ _ _ _ (by kernel_rfl) (grow_p HG (World.grownBy_alloc _ _ none)) (HD.kept (World.grownBy_alloc _ _ none) (by simp)) HR4 HS4 H6 (HR9.kept (World.grownBy_alloc _ _ none)) HS9
            refine AllReadyH.cons (o := _) rfl (fun K hK => ?_) ?_
            · clear hHeld
              go_simp
              refine (draw_n P A n c l at_ 6 (by omega) (by omega) _ HD.row HD.le (HAI.out _ HG) HNE.out).mono ?_
              rintro e w2 ⟨i11, at2, rfl, hi, ha2, hd2, g⟩
              first | (refine hK.out _ _ ?_ (fun hHeld => ?_)) | (go_wp2_with fail; refine hK.out _ _ ?_ (fun hHeld => ?_))
              · (try dsimp only); exact HG.trans g
              clear hK K
              go_simp
              have q11 : ((i11 : Nat) : Int) < 6 := by omega
              have p11 : (0 : Int) ≤ ((i11 : Nat) : Int) := by omega
              refine wpAnyH_take (i := 12) (oi := _) (v := .pointer (some ⟨b9, i11, none⟩)) rfl (by kernel_rfl) (by kernel_rfl) (by kernel_rfl) (fun _ _ _ h => h) (Or.inl ⟨by kernel_rfl, ?_⟩) (by assumption) ?_
              · (intro w hSw; (try dsimp only at hSw); go_simp; first | done | with_reducible rfl)
              try go_simp
              exact LD_6_9_11_12.out _ _ _ _ _ _ (by kernel_rfl) (HG.trans g) ⟨hd2, ha2⟩ H6 (HR9.keptR g (HNP.out _ HS9)) HS9 hi
            refine AllReadyH.cons (o := _) rfl (fun K hK => ?_) ?_
            · clear hHeld
              go_simp
              first | (refine hK.out _ _ ?_ (fun hHeld => ?_)) | (go_wp2_with fail; refine hK.out _ _ ?_ (fun hHeld => ?_))
              · (try dsimp only); exact grow_p HG (World.grownBy_alloc _ _ none)
              clear hK K
              go_simp
              obtain ⟨b15, hb15⟩ : ∃ b, b = w'.heap.size := ⟨_, rfl⟩
              have HR15 : Row (w'.alloc (.cells #[.string ⟨#[]⟩, .int .i64 0, .int .i64 0, .slice none 0 0, .slice none 0 0] 41)) b15 41 #[.string ⟨#[]⟩, .int .i64 0, .int .i64 0, .slice none 0 0, .slice none 0 0] := by rw [hb15]; exact Row.new _ _ _
              have HS15 : w4.heap.size ≤ b15 := by rw [hb15]; exact HG.size
              rw [← hb15]
              clear hb15
              exact LD_6_9_15.out _ _ _ _ _ _ (by kernel_rfl) (grow_p HG (World.grownBy_alloc _ _ none)) (HD.kept (World.grownBy_alloc _ _ none) (by simp)) H6 (HR9.kept (World.grownBy_alloc _ _ none)) HS9 HR15 HS15
            exact AllReadyH.nil)
          have LD_6_11 : Hid (∀ (a : Act) (w' : World) (at_ : Nat) (i6 : Nat) (i11 : Nat), a = ((a0.put (some 29) (.int .i64 (i6 : Int))).put (some 34) (.int .i64 (i11 : Int))) → (w4.grownBy w' (some P)) → (Dr w' P A n c at_) → (i6 < 6) → (i11 < 6) → wpAnyH Tryz.prog .any ops Q (fun W => w4.grownBy W (some P)) 9 #[true, true, true, true, false, true, true, false, false, false, true, true, false, false, false, false, false] a w') := Lib.hid (by
            rintro a w' at_ i6 i11 rfl HG HD H6 H11
            subst hops hQ ha
            have hHeld := HG
            go_simp
            have q6 : ((i6 : Nat) : Int) < 6 := by omega
            have p6 : (0 : Int) ≤ ((i6 : Nat) : Int) := by omega
            have q11 : ((i11 : Nat) : Int) < 6 := by omega
            have p11 : (0 : Int) ≤ ((i11 : Nat) : Int) := by omega
            refine wpAnyH_ready (rs := [4, 9, 15]) (by kernel_rfl) (by simp) ?_
            refine AllReadyH.cons (o := _) rfl (fun K hK => ?_) ?_
            · clear hHeld
              go_simp
              first | (refine hK.out _ _ ?_ (fun hHeld => ?_)) | (go_wp2_with fail; refine hK.out _ _ ?_ (fun hHeld => ?_))
              · (try dsimp only); exact grow_p HG (World.grownBy_alloc _ _ none)
              clear hK K
              go_simp
              obtain ⟨b4, hb4⟩ : ∃ b, b = w'.heap.size := ⟨_, rfl⟩
              have HR4 : Row (w'.alloc (.cells #[.int .i64 5, .int .i64 6, .int .i64 3, .int .i64 10, .int .i64 5, .int .i64 20] 3)) b4 3 #[.int .i64 5, .int .i64 6, .int .i64 3, .int .i64 10, .int .i64 5, .int .i64 20] := by rw [hb4]; exact Row.new _ _ _
              have HS4 : w4.heap.size ≤ b4 := by rw [hb4]; exact HG.size
              rw [← hb4]
              clear hb4
              refine wpAnyH_take (i := 7) (oi := _) (v := .pointer (some ⟨b4, i6, none⟩)) rfl (by kernel_rfl) (by kernel_rfl) (by kernel_rfl) (fun _ _ _ h => h) (Or.inl ⟨by kernel_rfl, ?_⟩) (by assumption) ?_
              · (intro w hSw; (try dsimp only at hSw); go_simp; first | done | with_reducible rfl)
              try go_simp
              exact LD_4_6_7_11.out _ _ _ _ _ _ (by kernel_rfl) (grow_p HG (World.grownBy_alloc _ _ none)) (HD.kept (World.grownBy_alloc _ _ none) (by simp)) HR4 HS4 H6 H11
            refine AllReadyH.cons (o := _) rfl (fun K hK => ?_) ?_
            · clear hHeld
              go_simp
              first | (refine hK.out _ _ ?_ (fun hHeld => ?_)) | (go_wp2_with fail; refine hK.out _ _ ?_ (fun hHeld => ?_))
              · (try dsimp only); exact grow_p HG (World.grownBy_alloc _ _ none)
              clear hK K
              go_simp
              obtain ⟨b9, hb9⟩ : ∃ b, b = w'.heap.size := ⟨_, rfl⟩
              have HR9 : Row (w'.alloc (.cells #[.int .i64 2, .int .i64 1, .int .i64 0, .int .i64 30, .int .i64 200, .int .i64 3] 3)) b9 3 #[.int .i64 2, .int .i64 1, .int .i64 0, .int .i64 30, .int .i64 200, .int .i64 3] := by rw [hb9]; exact Row.new _ _ _
              have HS9 : w4.heap.size ≤ b9 := by rw [hb9]; exact HG.size
              rw [← hb9]
              clear hb9
              refine wpAnyH_take (i := 12) (oi := _) (v := .pointer (some ⟨b9, i11, none⟩)) rfl (by kernel_rfl) (by kernel_rfl) (by kernel_rfl) (fun _ _ _ h => h) (Or.inl ⟨by kernel_rfl, ?_⟩) (by assumption) ?_
              · (intro w hSw; (try dsimp only at hSw); go_simp; first | done | with_reducible rfl)
              try go_simp
              exact LD_6_9_11_12.out _ _ _ _ _ _ (by kernel_rfl) (grow_p HG (World.grownBy_alloc _ _ none)) (HD.kept (World.grownBy_alloc _ _ none) (by simp)) H6 HR9 HS9 H11
            refine AllReadyH.cons (o := _) rfl (fun K hK => ?_) ?_
            · clear hHeld
              go_simp
              first | (refine hK.out _ _ ?_ (fun hHeld => ?_)) | (go_wp2_with fail; refine hK.out _ _ ?_ (fun hHeld => ?_))
              · (try dsimp only); exact grow_p HG (World.grownBy_alloc _ _ none)
              clear hK K
              go_simp
              obtain ⟨b15, hb15⟩ : ∃ b, b = w'.heap.size := ⟨_, rfl⟩
              have HR15 : Row (w'.alloc (.cells #[.string ⟨#[]⟩, .int .i64 0, .int .i64 0, .slice none 0 0, .slice none 0 0] 41)) b15 41 #[.string ⟨#[]⟩, .int .i64 0, .int .i64 0, .slice none 0 0, .slice none 0 0] := by rw [hb15]; exact Row.new _ _ _
              have HS15 : w4.heap.size ≤ b15 := by rw [hb15]; exact HG.size
              rw [← hb15]
              clear hb15
              exact LD_6_11_15.out _ _ _ _ _ _ (by kernel_rfl) (grow_p HG (World.grownBy_alloc _ _ none)) (HD.kept (World.grownBy_alloc _ _ none) (by simp)) H6 H11 HR15 HS15
            exact AllReadyH.nil)
          have LD_6_15 : Hid (∀ (a : Act) (w' : World) (at_ : Nat) (i6 : Nat) (b15 : Nat), a = ((a0.put (some 29) (.int .i64 (i6 : Int))).put (some 7) (.pointer (some ⟨b15, 0, none⟩))) → (w4.grownBy w' (some P)) → (Dr w' P A n c at_) → (i6 < 6) → (Row w' b15 41 #[.string ⟨#[]⟩, .int .i64 0, .int .i64 0, .slice none 0 0, .slice none 0 0]) → (w4.heap.size ≤ b15) → wpAnyH Tryz.prog .any ops Q (fun W => w4.grownBy W (some P)) 9 #[true, true, true, true, false, true, true, false, false, false, true, false, false, false, false, true, false] a w') := Lib.hid (by
            rintro a w' at_ i6 b15 rfl HG HD H6 HR15 HS15
            subst hops hQ ha
            have hHeld := HG
            go_simp
            have q6 : ((i6 : Nat) : Int) < 6 := by omega
            have p6 : (0 : Int) ≤ ((i6 : Nat) : Int) := by omega
            refine wpAnyH_ready (rs := [4, 9, 11]) (by kernel_rfl) (by simp) ?_
            refine AllReadyH.cons (o := _) rfl (fun K hK => ?_) ?_
            · clear hHeld
              go_simp
              first | (refine hK.out _ _ ?_ (fun hHeld => ?_)) | (go_wp2_with fail; refine hK.out _ _ ?_ (fun hHeld => ?_))
              · (try dsimp only); exact grow_p HG (World.grownBy_alloc _ _ none)
              clear hK K
              go_simp
              obtain ⟨b4, hb4⟩ : ∃ b, b = w'.heap.size := ⟨_, rfl⟩
              have HR4 : Row (w'.alloc (.cells #[.int .i64 5, .int .i64 6, .int .i64 3, .int .i64 10, .int .i64 5, .int .i64 20] 3)) b4 3 #[.int .i64 5, .int .i64 6, .int .i64 3, .int .i64 10, .int .i64 5, .int .i64 20] := by rw [hb4]; exact Row.new _ _ _
              have HS4 : w4.heap.size ≤ b4 := by rw [hb4]; exact HG.size
              rw [← hb4]
              clear hb4
              refine wpAnyH_take (i := 7) (oi := _) (v := .pointer (some ⟨b4, i6, none⟩)) rfl (by kernel_rfl) (by kernel_rfl) (by kernel_rfl) (fun _ _ _ h => h) (Or.inl ⟨by kernel_rfl, ?_⟩) (by assumption) ?_
              · (intro w hSw; (try dsimp only at hSw); go_simp; first | done | with_reducible rfl)
              try go_simp
              exact LD_4_6_7_15.out _ _ _ _ _ _ (by kernel_rfl) (grow_p HG (World.grownBy_alloc _ _ none)) (HD.kept (World.grownBy_alloc _ _ none) (by simp)) HR4 HS4 H6 (HR15.kept (World.grownBy_alloc _ _ none)) HS15
            refine AllReadyH.cons (o := _) rfl (fun K hK => ?_) ?_
            · clear hHeld
              go_simp
              first | (refine hK.out _ _ ?_ (fun hHeld => ?_)) | (go_wp2_with fail; refine hK.out _ _ ?_ (fun hHeld => ?_))
              · (try dsimp only); exact grow_p HG (World.grownBy_alloc _ _ none)
              clear hK K
              go_simp
              obtain ⟨b9, hb9⟩ : ∃ b, b = w'.heap.size := ⟨_, rfl⟩
              have HR9 : Row (w'.alloc (.cells #[.int .i64 2, .int .i64 1, .int .i64 0, .int .i64 30, .int .i64 200, .int .i64 3] 3)) b9 3 #[.int .i64 2, .int .i64 1, .int .i64 0, .int .i64 30, .int .i64 200, .int .i64 3] := by rw [hb9]; exact Row.new _ _ _
              have HS9 : w4.heap.size ≤ b9 := by rw [hb9]; exact HG.size
              rw [← hb9]
              clear hb9
              exact LD_6_9_15.out _ _ _ _ _ _ (by kernel_rfl) (grow_p HG (World.grownBy_alloc _ _ none)) (HD.kept (World.grownBy_alloc _ _ none) (by simp)) H6 HR9 HS9 (HR15.kept (World.grownBy_alloc _ _ none)) HS15
            refine AllReadyH.cons (o := _) rfl (fun K hK => ?_) ?_
            · clear hHeld
              go_simp
              refine (draw_n P A n c l at_ 6 (by omega) (by omega) _ HD.row HD.le (HAI.out _ HG) HNE.out).mono ?_
              rintro e w2 ⟨i11, at2, rfl, hi, ha2, hd2, g⟩
              first | (refine hK.out _ _ ?_ (fun hHeld => ?_)) | (go_wp2_with fail; refine hK.out _ _ ?_ (fun hHeld => ?_))
              · (try dsimp only); exact HG.trans g
              clear hK K
              go_simp
              have q11 : ((i11 : Nat) : Int) < 6 := by omega
              have p11 : (0 : Int) ≤ ((i11 : Nat) : Int) := by omega
              exact LD_6_11_15.out _ _ _ _ _ _ (by kernel_rfl) (HG.trans g) ⟨hd2, ha2⟩ H6 hi (HR15.keptR g (HNP.out _ HS15)) HS15
            exact AllReadyH.nil)
          have LD_9_15 : Hid (∀ (a : Act) (w' : World) (at_ : Nat) (b9 : Nat) (b15 : Nat), a = ((a0.put (some 32) (.slice (some ⟨b9, 0, none⟩) 6 6)).put (some 7) (.pointer (some ⟨b15, 0, none⟩))) → (w4.grownBy w' (some P)) → (Dr w' P A n c at_) → (Row w' b9 3 #[.int .i64 2, .int .i64 1, .int .i64 0, .int .i64 30, .int .i64 200, .int .i64 3]) → (w4.heap.size ≤ b9) → (Row w' b15 41 #[.string ⟨#[]⟩, .int .i64 0, .int .i64 0, .slice none 0 0, .slice none 0 0]) → (w4.heap.size ≤ b15) → wpAnyH Tryz.prog .any ops Q (fun W => w4.grownBy W (some P)) 9 #[true, true, true, true, false, true, false, false, false, true, true, false, false, false, false, true, false] a w') := Lib.hid (by
            rintro a w' at_ b9 b15 rfl HG HD HR9 HS9 HR15 HS15
            subst hops hQ ha
            have hHeld := HG
            go_simp
            refine wpAnyH_ready (rs := [4, 6]) (by kernel_rfl) (by simp) ?_
            refine AllReadyH.cons (o := _) rfl (fun K hK => ?_) ?_
            · clear hHeld
              go_simp
              first | (refine hK.out _ _ ?_ (fun hHeld => ?_)) | (go_wp2_with fail; refine hK.out _ _ ?_ (fun hHeld => ?_))
              · (try dsimp only); exact grow_p HG (World.grownBy_alloc _ _ none)
              clear hK K
              go_simp
              obtain ⟨b4, hb4⟩ : ∃ b, b = w'.heap.size := ⟨_, rfl⟩
              have HR4 : Row (w'.alloc (.cells #[.int .i64 5, .int .i64 6, .int .i64 3, .int .i64 10, .int .i64 5, .int .i64 20] 3)) b4 3 #[.int .i64 5, .int .i64 6, .int .i64 3, .int .i64 10, .int .i64 5, .int .i64 20] := by rw [hb4]; exact Row.new _ _ _
              have HS4 : w4.heap.size ≤ b4 := by rw [hb4]; exact HG.size
              rw [← hb4]
              clear hb4
              exact LD_4_9_15.out _ _ _ _ _ _ (by kernel_rfl) (grow_p HG (World.grownBy_alloc _ _ none)) (HD.kept (World.grownBy_alloc _ _ none) (by simp)) HR4 HS4 (HR9.kept (World.grownBy_alloc _ _ none)) HS9 (HR15.kept (World.grownBy_alloc _ _ none)) HS15
            refine AllReadyH.cons (o := _) rfl (fun K hK => ?_) ?_
            · clear hHeld
              go_simp
              refine (draw_n P A n c l at_ 6 (by omega) (by omega) _ HD.row HD.le (HAI.out _ HG) HNE.out).mono ?_
              rintro e w2 ⟨i6, at2, rfl, hi, ha2, hd2, g⟩
              first | (refine hK.out _ _ ?_ (fun hHeld => ?_)) | (go_wp2_with fail; refine hK.out _ _ ?_ (fun hHeld => ?_))
              · (try dsimp only); exact HG.trans g
              clear hK K
              go_simp
              have q6 : ((i6 : Nat) : Int) < 6 := by omega
              have p6 : (0 : Int) ≤ ((i6 : Nat) : Int) := by omega
              exact LD_6_9_15.out _ _ _ _ _ _ (by kernel_rfl) (HG.trans g) ⟨hd2, ha2⟩ hi (HR9.keptR g (HNP.out _ HS9)) HS9 (HR15.keptR g (HNP.out _ HS15)) HS15
            exact AllReadyH.nil)
          have LD_4 : Hid (∀ (a : Act) (w' : World) (at_ : Nat) (b4 : Nat), a = (a0.put (some 27) (.slice (some ⟨b4, 0, none⟩) 6 6)) → (w4.grownBy w' (some P)) → (Dr w' P A n c at_) → (Row w' b4 3 #[.int .i64 5, .int .i64 6, .int .i64 3, .int .i64 10, .int .i64 5, .int .i64 20]) → (w4.heap.size ≤ b4) → wpAnyH Tryz.prog .any ops Q (fun W => w4.grownBy W (some P)) 10 #[true, true, true, true, true, true, false, false, false, false, true, false, false, false, false, false, false] a w') := Lib.hid (by
            rintro a w' at_ b4 rfl HG HD HR4 HS4
            subst hops hQ ha
            have hHeld := HG
            go_simp
            refine wpAnyH_ready (rs := [6, 9, 15]) (by kernel_rfl) (by simp) ?_
            refine AllReadyH.cons (o := _) rfl (fun K hK => ?_) ?_
            · clear hHeld
              go_simp
              refine (draw_n P A n c l at_ 6 (by omega) (by omega) _ HD.row HD.le (HAI.out _ HG) HNE.out).mono ?_
              rintro e w2 ⟨i6, at2, rfl, hi, ha2, hd2, g⟩
              first | (refine hK.out _ _ ?_ (fun hHeld => ?_)) | (go_wp2_with fail; refine hK.out _ _ ?_ (fun hHeld => ?_))
              · (try dsimp only); exact HG.trans g
              clear hK K
              go_simp
              have q6 : ((i6 : Nat) : Int) < 6 := by omega
              have p6 : (0 : Int) ≤ ((i6 : Nat) : Int) := by omega
              refine wpAnyH_take (i := 7) (oi := _) (v := .pointer (some ⟨b4, i6, none⟩)) rfl (by kernel_rfl) (by kernel_rfl) (by kernel_rfl) (fun _ _ _ h => h) (Or.inl ⟨by kernel_rfl, ?_⟩) (by assumption) ?_
              · (intro w hSw; (try dsimp only at hSw); go_simp; first | done | with_reducible rfl)
              try go_simp
              exact LD_4_6_7.out _ _ _ _ _ (by kernel_rfl) (HG.trans g) ⟨hd2, ha2⟩ (HR4.keptR g (HNP.out _ HS4)) HS4 hi
            refine AllReadyH.cons (o := _) rfl (fun K hK => ?_) ?_
            · clear hHeld
              go_simp
              first | (refine hK.out _ _ ?_ (fun hHeld => ?_)) | (go_wp2_with fail; refine hK.out _ _ ?_ (fun hHeld => ?_))
              · (try dsimp only); exact grow_p HG (World.grownBy_alloc _ _ none)
              clear hK K
              go_simp
              obtain ⟨b9, hb9⟩ : ∃ b, b = w'.heap.size := ⟨_, rfl⟩
              have HR9 : Row (w'.alloc (.cells #[.int .i64 2, .int .i64 1, .int .i64 0, .int .i64 30, .int .i64 200, .int .i64 3] 3)) b9 3 #[.int .i64 2, .int .i64 1, .int .i64 0, .int .i64 30, .int .i64 200, .int .i64 3] := by rw [hb9]; exact Row.new _ _ _
              have HS9 : w4.heap.size ≤ b9 := by rw [hb9]; exact HG.size
              rw [← hb9]
              clear hb9
              exact LD_4_9.out _ _ _ _ _ (by kernel_rfl) (grow_p HG (World.grownBy_alloc _ _ none)) (HD.kept (World.grownBy_alloc _ _ none) (by simp)) (HR4.kept (World.grownBy_alloc _ _ none)) HS4 HR9 HS9
            refine AllReadyH.cons (o := _) rfl (fun K hK => ?_) ?_
            · clear hHeld
              go_simp
              first | (refine hK.out _ _ ?_ (fun hHeld => ?_)) | (go_wp2_with fail; refine hK.out _ _ ?_ (fun hHeld => ?_))
              · (try dsimp only); exact grow_p HG (World.grownBy_alloc _ _ none)
              clear hK K
              go_simp
              obtain ⟨b15, hb15⟩ : ∃ b, b = w'.heap.size := ⟨_, rfl⟩
              have HR15 : Row (w'.alloc (.cells #[.string ⟨#[]⟩, .int .i64 0, .int .i64 0, .slice none 0 0, .slice none 0 0] 41)) b15 41 #[.string ⟨#[]⟩, .int .i64 0, .int .i64 0, .slice none 0 0, .slice none 0 0] := by rw [hb15]; exact Row.new _ _ _
              have HS15 : w4.heap.size ≤ b15 := by rw [hb15]; exact HG.size
              rw [← hb15]
              clear hb15
              exact LD_4_15.out _ _ _ _ _ (by kernel_rfl) (grow_p HG (World.grownBy_alloc _ _ none)) (HD.kept (World.grownBy_alloc _ _ none) (by simp)) (HR4.kept (World.grownBy_alloc _ _ none)) HS4 HR15 HS15
            exact AllReadyH.nil)
          have LD_6 : Hid (∀ (a : Act) (w' : World) (at_ : Nat) (i6 : Nat), a = (a0.put (some 29) (.int .i64 (i6 : Int))) → (w4.grownBy w' (some P)) → (Dr w' P A n c at_) → (i6 < 6) → wpAnyH Tryz.prog .any ops Q (fun W => w4.grownBy W (some P)) 10 #[true, true, true, true, false, true, true, false, false, false, true, false, false, false, false, false, false] a w') := Lib.hid (by
            rintro a w' at_ i6 rfl HG HD H6
            subst hops hQ ha
            have hHeld := HG
            go_simp
            have q6 : ((i6 : Nat) : Int) < 6 := by omega
            have p6 : (0 : Int) ≤ ((i6 : Nat) : Int) := by omega
            refine wpAnyH_ready (rs := [4, 9, 11, 15]) (by kernel_rfl) (by simp) ?_
            refine AllReadyH.cons (o := _) rfl (fun K hK => ?_) ?_
            · clear hHeld
              go_simp
              first | (refine hK.out _ _ ?_ (fun hHeld => ?_)) | (go_wp2_with fail; refine hK.out _ _ ?_ (fun hHeld => ?_))
              · (try dsimp only); exact grow_p HG (World.grownBy_alloc _ _ none)
              clear hK K
              go_simp
              obtain ⟨b4, hb4⟩ : ∃ b, b = w'.heap.size := ⟨_, rfl⟩
              have HR4 : Row (w'.alloc (.cells #[.int .i64 5, .int .i64 6, .int .i64 3, .int .i64 10, .int .i64 5, .int .i64 20] 3)) b4 3 #[.int .i64 5, .int .i64 6, .int .i64 3, .int .i64 10, .int .i64 5, .int .i64 20] := by rw [hb4]; exact Row.new _ _ _
              have HS4 : w4.heap.size ≤ b4 := by rw [hb4]; exact HG.size
              rw [← hb4]
              clear hb4
              refine wpAnyH_take (i := 7) (oi := _) (v := .pointer (some ⟨b4, i6, none⟩)) rfl (by kernel_rfl) (by kernel_rfl) (by kernel_rfl) (fun _ _ _ h => h) (Or.inl ⟨by kernel_rfl, ?_⟩) (by assumption) ?_
              · (intro w hSw; (try dsimp only at hSw); go_simp; first | done | with_reducible rfl)
              try go_simp
              exact LD_4_6_7.out _ _ _ _ _ (by kernel_rfl) (grow_p HG (World.grownBy_alloc _ _ none)) (HD.kept (World.grownBy_alloc _ _ none) (by simp)) HR4 HS4 H6
            refine AllReadyH.cons (o := _) rfl (fun K hK => ?_) ?_
            · clear hHeld
              go_simp
              first | (refine hK.out _ _ ?_ (fun hHeld => ?_)) | (go_wp2_with fail; refine hK.out _ _ ?_ (fun hHeld => ?_))
              · (try dsimp only); exact grow_p HG (World.grownBy_alloc _ _ none)
              clear hK K
              go_simp
              obtain ⟨b9, hb9⟩ : ∃ b, b = w'.heap.size := ⟨_, rfl⟩
              have HR9 : Row (w'.alloc (.cells #[.int .i64 2, .int .i64 1, .int .i64 0, .int .i64 30, .int .i64 200, .int .i64 3] 3)) b9 3 #[.int .i64 2, .int .i64 1, .int .i64 0, .int .i64 30, .int .i64 200, .int .i64 3] := by rw [hb9]; exact Row.new _ _ _
              have HS9 : w4.heap.size ≤ b9 := by rw [hb9]; exact HG.size
              rw [← hb9]
              clear hb9
              exact LD_6_9.out _ _ _ _ _ (by kernel_rfl) (grow_p HG (World.grownBy_alloc _ _ none)) (HD.kept (World.grownBy_alloc _ _ none) (by simp)) H6 HR9 HS9
            refine AllReadyH.cons (o := _) rfl (fun K hK => ?_) ?_
            · clear hHeld
              go_simp
              refine (draw_n P A n c l at_ 6 (by omega) (by omega) _ HD.row HD.le (HAI.out _ HG) HNE.out).mono ?_
              rintro e w2 ⟨i11, at2, rfl, hi, ha2, hd2, g⟩
              first | (refine hK.out _ _ ?_ (fun hHeld => ?_)) | (go_wp2_with fail; refine hK.out _ _ ?_ (fun hHeld => ?_))
              · (try dsimp only); exact HG.trans g
              clear hK K
              go_simp
              have q11 : ((i11 : Nat) : Int) < 6 := by omega
              have p11 : (0 : Int) ≤ ((i11 : Nat) : Int) := by omega
              exact LD_6_11.out _ _ _ _ _ (by kernel_rfl) (HG.trans g) ⟨hd2, ha2⟩ H6 hi
            refine AllReadyH.cons (o := _) rfl (fun K hK => ?_) ?_
            · clear hHeld
              go_simp
              first | (refine hK.out _ _ ?_ (fun hHeld => ?_)) | (go_wp2_with fail; refine hK.out _ _ ?_ (fun hHeld => ?_))
              · (try dsimp only); exact grow_p HG (World.grownBy_alloc _ _ none)
              clear hK K
              go_simp
              obtain ⟨b15, hb15⟩ : ∃ b, b = w'.heap.size := ⟨_, rfl⟩
              have HR15 : Row (w'.alloc (.cells #[.string ⟨#[]⟩, .int .i64 0, .int .i64 0, .slice none 0 0, .slice none 0 0] 41)) b15 41 #[.string ⟨#[]⟩, .int .i64 0, .int .i64 0, .slice none 0 0, .slice none 0 0] := by rw [hb15]; exact Row.new _ _ _
              have HS15 : w4.heap.size ≤ b15 := by rw [hb15]; exact HG.size
              rw [← hb15]
              clear hb15
              exact LD_6_15.out _ _ _ _ _ (by kernel_rfl) (grow_p HG (World.grownBy_alloc _ _ none)) (HD.kept (World.grownBy_alloc _ _ none) (by simp)) H6 HR15 HS15
            exact AllReadyH.nil)
          have LD_9 : Hid (∀ (a : Act) (w' : World) (at_ : Nat) (b9 : Nat), a = (a0.put (some 32) (.slice (some ⟨b9, 0, none⟩) 6 6)) → (w4.grownBy w' (some P)) → (Dr w' P A n c at_) → (Row w' b9 3 #[.int .i64 2, .int .i64 1, .int .i64 0, .int .i64 30, .int .i64 200, .int .i64 3]) → (w4.heap.size ≤ b9) → wpAnyH Tryz.prog .any ops Q (fun W => w4.grownBy W (some P)) 10 #[true, true, true, true, false, true, false, false, false, true, true, false, false, false, false, false, false] a w') := Lib.hid (by
            rintro a w' at_ b9 rfl HG HD HR9 HS9
            subst hops hQ ha
            have hHeld := HG
            go_simp
            refine wpAnyH_ready (rs := [4, 6, 15]) (by kernel_rfl) (by simp) ?_
            refine AllReadyH.cons (o := _) rfl (fun K hK => ?_) ?_
            · clear hHeld
              go_simp
              first | (refine hK.out _ _ ?_ (fun hHeld => ?_)) | (go_wp2_with fail; refine hK.out _ _ ?_ (fun hHeld => ?_))
              · (try dsimp only); exact grow_p HG (World.grownBy_alloc _ _ none)
              clear hK K
              go_simp
              obtain ⟨b4, hb4⟩ : ∃ b, b = w'.heap.size := ⟨_, rfl⟩
              have HR4 : Row (w'.alloc (.cells #[.int .i64 5, .int .i64 6, .int .i64 3, .int .i64 10, .int .i64 5, .int .i64 20] 3)) b4 3 #[.int .i64 5, .int .i64 6, .int .i64 3, .int .i64 10, .int .i64 5, .int .i64 20] := by rw [hb4]; exact Row.new _ _ _
              have HS4 : w4.heap.size ≤ b4 := by rw [hb4]; exact HG.size
              rw [← hb4]
              clear hb4
              exact LD_4_9.out _ _ _ _ _ (by kernel_rfl) (grow_p HG (World.grownBy_alloc _ _ none)) (HD.kept (World.grownBy_alloc _ _ none) (by simp)) HR4 HS4 (HR9.kept (World.grownBy_alloc _ _ none)) HS9
            refine AllReadyH.cons (o := _) rfl (fun K hK => ?_) ?_
            · clear hHeld
              go_simp
              refine (draw_n P A n c l at_ 6 (by omega) (by omega) _ HD.row HD.le (HAI.out _ HG) HNE.out).mono ?_
              rintro e w2 ⟨i6, at2, rfl, hi, ha2, hd2, g⟩
              first | (refine hK.out _ _ ?_ (fun hHeld => ?_)) | (go_wp2_with fail; refine hK.out _ _ ?_ (fun hHeld => ?_))
              · (try dsimp only); exact HG.trans g
              clear hK K
              go_simp
              have q6 : ((i6 : Nat) : Int) < 6 := by omega
              have p6 : (0 : Int) ≤ ((i6 : Nat) : Int) := by omega
              exact LD_6_9.out _ _ _ _ _ (by kernel_rfl) (HG.trans g) ⟨hd2, ha2⟩ hi (HR9.keptR g (HNP.out _ HS9)) HS9
            refine AllReadyH.cons (o := _) rfl (fun K hK => ?_) ?_
            · clear hHeld
              go_simp
              first | (refine hK.out _ _ ?_ (fun hHeld => ?_)) | (go_wp2_with fail; refine hK.out _ _ ?_ (fun hHeld => ?_))
              · (try dsimp only); exact grow_p HG (World.grownBy_alloc _ _ none)
              clear hK K
              go_simp
              obtain ⟨b15, hb15⟩ : ∃ b, b = w'.heap.size := ⟨_, rfl⟩
              have HR15 : Row (w'.alloc (.cells #[.string ⟨#[]⟩, .int .i64 0, .int .i64 0, .slice none 0 0, .slice none 0 0] 41)) b15 41 #[.string ⟨#[]⟩, .int .i64 0, .int .i64 0, .slice none 0 0, .slice none 0 0] := by rw [hb15]; exact Row.new _ _ _
              have HS15 : w4.heap.size ≤ b15 := by rw [hb15]; exact HG.size
              rw [← hb15]
              clear hb15
              exact LD_9_15.out _ _ _ _ _ (by kernel_rfl) (grow_p HG (World.grownBy_alloc _ _ none)) (HD.kept (World.grownBy_alloc _ _ none) (by simp)) (HR9.kept (World.grownBy_alloc _ _ none)) HS9 HR15 HS15
            exact AllReadyH.nil)
          have LD_15 : Hid (∀ (a : Act) (w' : World) (at_ : Nat) (b15 : Nat), a = (a0.put (some 7) (.pointer (some ⟨b15, 0, none⟩))) → (w4.grownBy w' (some P)) → (Dr w' P A n c at_) → (Row w' b15 41 #[.string ⟨#[]⟩, .int .i64 0, .int .i64 0, .slice none 0 0, .slice none 0 0]) → (w4.heap.size ≤ b15) → wpAnyH Tryz.prog .any ops Q (fun W => w4.grownBy W (some P)) 10 #[true, true, true, true, false, true, false, false, false, false, true, false, false, false, false, true, false] a w') := Lib.hid (by
            rintro a w' at_ b15 rfl HG HD HR15 HS15
            subst hops hQ ha
            have hHeld := HG
            go_simp
            refine wpAnyH_ready (rs := [4, 6, 9]) (by kernel_rfl) (by simp) ?_
            refine AllReadyH.cons (o := _) rfl (fun K hK => ?_) ?_
            · clear hHeld
              go_simp
              first | (refine hK.out _ _ ?_ (fun hHeld => ?_)) | (go_wp2_with fail; refine hK.out _ _ ?_ (fun hHeld => ?_))
              · (try dsimp only); exact grow_p HG (World.grownBy_alloc _ _ none)
              clear hK K
              go_simp
              obtain ⟨b4, hb4⟩ : ∃ b, b = w'.heap.size := ⟨_, rfl⟩
              have HR4 : Row (w'.alloc (.cells #[.int .i64 5, .int .i64 6, .int .i64 3, .int .i64 10, .int .i64 5, .int .i64 20] 3)) b4 3 #[.int .i64 5, .int .i64 6, .int .i64 3, .int .i64 10, .int .i64 5, .int .i64 20] := by rw [hb4]; exact Row.new _ _ _
              have HS4 : w4.heap.size ≤ b4 := by rw [hb4]; exact HG.size
              rw [← hb4]
              clear hb4
              exact LD_4_15.out _ _ _ _ _ (by kernel_rfl) (grow_p HG (World.grownBy_alloc _ _ none)) (HD.kept (World.grownBy_alloc _ _ none) (by simp)) HR4 HS4 (HR15.kept (World.grownBy_alloc _ _ none)) HS15
            refine AllReadyH.cons (o := _) rfl (fun K hK => ?_) ?_
            · clear hHeld
              go_simp
              refine (draw_n P A n c l at_ 6 (by omega) (by omega) _ HD.row HD.le (HAI.out _ HG) HNE.out).mono ?_
              rintro e w2 ⟨i6, at2, rfl, hi, ha2, hd2, g⟩
              first | (refine hK.out _ _ ?_ (fun hHeld => ?_)) | (go_wp2_with fail; refine hK.out _ _ ?_ (fun hHeld => ?_))
              · (try dsimp only); exact HG.trans g
              clear hK K
              go_simp
              have q6 : ((i6 : Nat) : Int) < 6 := by omega
              have p6 : (0 : Int) ≤ ((i6 : Nat) : Int) := by omega
              exact LD_6_15.out _ _ _ _ _ (by kernel_rfl) (HG.trans g) ⟨hd2, ha2⟩ hi (HR15.keptR g (HNP.out _ HS15)) HS15
            refine AllReadyH.cons (o := _) rfl (fun K hK => ?_) ?_
            · clear hHeld
              go_simp
              first | (refine hK.out _ _ ?_ (fun hHeld => ?_)) | (go_wp2_with fail; refine hK.out _ _ ?_ (fun hHeld => ?_))
              · (try dsimp only); exact grow_p HG (World.grownBy_alloc _ _ none)
              clear hK K
              go_simp
              obtain ⟨b9, hb9⟩ : ∃ b, b = w'.heap.size := ⟨_, rfl⟩
              have HR9 : Row (w'.alloc (.cells #[.int .i64 2, .int .i64 1, .int .i64 0, .int .i64 30, .int .i64 200, .int .i64 3] 3)) b9 3 #[.int .i64 2, .int .i64 1, .int .i64 0, .int .i64 30, .int .i64 200, .int .i64 3] := by rw [hb9]; exact Row.new _ _ _
              have HS9 : w4.heap.size ≤ b9 := by rw [hb9]; exact HG.size
              rw [← hb9]
              clear hb9
              exact LD_9_15.out _ _ _ _ _ (by kernel_rfl) (grow_p HG (World.grownBy_alloc _ _ none)) (HD.kept (World.grownBy_alloc _ _ none) (by simp)) HR9 HS9 (HR15.kept (World.grownBy_alloc _ _ none)) HS15
            exact AllReadyH.nil)
          have LD : Hid (∀ (a : Act) (w' : World) (at_ : Nat), a = a0 → (w4.grownBy w' (some P)) → (Dr w' P A n c at_) → wpAnyH Tryz.prog .any ops Q (fun W => w4.grownBy W (some P)) 11 #[true, true, true, true, false, true, false, false, false, false, true, false, false, false, false, false, false] a w') := Lib.hid (by
            rintro a w' at_ rfl HG HD
            subst hops hQ ha
            have hHeld := HG
            go_simp
            refine wpAnyH_ready (rs := [4, 6, 9, 15]) (by kernel_rfl) (by simp) ?_
            refine AllReadyH.cons (o := _) rfl (fun K hK => ?_) ?_
            · clear hHeld
              go_simp
              first | (refine hK.out _ _ ?_ (fun hHeld => ?_)) | (go_wp2_with fail; refine hK.out _ _ ?_ (fun hHeld => ?_))
              · (try dsimp only); exact grow_p HG (World.grownBy_alloc _ _ none)
              clear hK K
              go_simp
              obtain ⟨b4, hb4⟩ : ∃ b, b = w'.heap.size := ⟨_, rfl⟩
              have HR4 : Row (w'.alloc (.cells #[.int .i64 5, .int .i64 6, .int .i64 3, .int .i64 10, .int .i64 5, .int .i64 20] 3)) b4 3 #[.int .i64 5, .int .i64 6, .int .i64 3, .int .i64 10, .int .i64 5, .int .i64 20] := by rw [hb4]; exact Row.new _ _ _
              have HS4 : w4.heap.size ≤ b4 := by rw [hb4]; exact HG.size
              rw [← hb4]
              clear hb4
              exact LD_4.out _ _ _ _ (by kernel_rfl) (grow_p HG (World.grownBy_alloc _ _ none)) (HD.kept (World.grownBy_alloc _ _ none) (by simp)) HR4 HS4
            refine AllReadyH.cons (o := _) rfl (fun K hK => ?_) ?_
            · clear hHeld
              go_simp
              refine (draw_n P A n c l at_ 6 (by omega) (by omega) _ HD.row HD.le (HAI.out _ HG) HNE.out).mono ?_
              rintro e w2 ⟨i6, at2, rfl, hi, ha2, hd2, g⟩
              first | (refine hK.out _ _ ?_ (fun hHeld => ?_)) | (go_wp2_with fail; refine hK.out _ _ ?_ (fun hHeld => ?_))
              · (try dsimp only); exact HG.trans g
              clear hK K
              go_simp
              have q6 : ((i6 : Nat) : Int) < 6 := by omega
              have p6 : (0 : Int) ≤ ((i6 : Nat) : Int) := by omega
              exact LD_6.out _ _ _ _ (by kernel_rfl) (HG.trans g) ⟨hd2, ha2⟩ hi
            refine AllReadyH.cons (o := _) rfl (fun K hK => ?_) ?_
            · clear hHeld
              go_simp
              first | (refine hK.out _ _ ?_ (fun hHeld => ?_)) | (go_wp2_with fail; refine hK.out _ _ ?_ (fun hHeld => ?_))
              · (try dsimp only); exact grow_p HG (World.grownBy_alloc _ _ none)
              clear hK K
              go_simp
              obtain ⟨b9, hb9⟩ : ∃ b, b = w'.heap.size := ⟨_, rfl⟩
              have HR9 : Row (w'.alloc (.cells #[.int .i64 2, .int .i64 1, .int .i64 0, .int .i64 30, .int .i64 200, .int .i64 3] 3)) b9 3 #[.int .i64 2, .int .i64 1, .int .i64 0, .int .i64 30, .int .i64 200, .int .i64 3] := by rw [hb9]; exact Row.new _ _ _
              have HS9 : w4.heap.size ≤ b9 := by rw [hb9]; exact HG.size
              rw [← hb9]
              clear hb9
              exact LD_9.out _ _ _ _ (by kernel_rfl) (grow_p HG (World.grownBy_alloc _ _ none)) (HD.kept (World.grownBy_alloc _ _ none) (by simp)) HR9 HS9
            refine AllReadyH.cons (o := _) rfl (fun K hK => ?_) ?_
            · clear hHeld
              go_simp
              first | (refine hK.out _ _ ?_ (fun hHeld => ?_)) | (go_wp2_with fail; refine hK.out _ _ ?_ (fun hHeld => ?_))
              · (try dsimp only); exact grow_p HG (World.grownBy_alloc _ _ none)
              clear hK K
              go_simp
              obtain ⟨b15, hb15⟩ : ∃ b, b = w'.heap.size := ⟨_, rfl⟩
              have HR15 : Row (w'.alloc (.cells #[.string ⟨#[]⟩, .int .i64 0, .int .i64 0, .slice none 0 0, .slice none 0 0] 41)) b15 41 #[.string ⟨#[]⟩, .int .i64 0, .int .i64 0, .slice none 0 0, .slice none 0 0] := by rw [hb15]; exact Row.new _ _ _
              have HS15 : w4.heap.size ≤ b15 := by rw [hb15]; exact HG.size
              rw [← hb15]
              clear hb15
              exact LD_15.out _ _ _ _ (by kernel_rfl) (grow_p HG (World.grownBy_alloc _ _ none)) (HD.kept (World.grownBy_alloc _ _ none) (by simp)) HR15 HS15
            exact AllReadyH.nil)
          exact LD.out _ _ _ rfl (grow_some P (grown_dr (grown_refl _))) (hd4.kept (grown_dr (grown_refl _)) (by simp))
        obtain ⟨ob, at3, cr, pl, w5, rfl, hcr, hpl, HO5, hob, hd5, g5, rfl⟩ := hcut
        have HCR := Lib.hid hcr
        have HPL := Lib.hid hpl
        have HOB := Lib.hid hob
        have G5 := Lib.hid g5
        have HO5h := Lib.hid HO5
        have HDH := Lib.hid hd5
        have HOBP : Hid (ob ≠ P) := Lib.hid (by have := HSZ4.out.2; omega)
        have HGW := Lib.hid (fun W (g : w4.grownBy W (some P)) => HG4.out.andThen g (by rintro j ⟨⟩; exact .inl (by rw [HPE.out]; exact Nat.le_refl _)))
        clear hcr hpl hob g5 HO5 hd5 q4 HD4
        go_wp2_with fail
        refine (draw_n P A n c l at3 4 (by omega) (by omega) _ HDH.out.row HDH.out.le (HAI.out _ G5.out) HNE.out).mono ?_
        rintro e w6 ⟨x0, at6, rfl, hx0, ha6, hd6, g6⟩
        have G6 := Lib.hid (G5.out.trans g6)
        have HD6 : Hid (Dr w6 P A n c at6) := Lib.hid ⟨hd6, ha6⟩
        have HO6 := Lib.hid (HO5h.out.keptR g6 (by intro e; injection e with e; exact HOBP.out e))
        have HX0 := Lib.hid hx0
        clear hd6 ha6 g6 hx0 HDH HO5h G5
        go_wp2_with fail
        go_loopw [8] (fun z wr => ∃ (x at_ : Nat) (S : List Int) (s : Value), x ≤ 4 ∧ z = .int .i64 (x : Int) ∧ Hid (Row wr ob 41 #[.string ⟨code.toArray⟩, .int .i64 cr, .int .i64 pl, s, .slice none 0 0] ∧ OwnI wr (ob + 1) s S ∧ Dr wr P A n c at_) ∧ Hid (SlotOk x S) ∧ Hid (w4.grownBy wr (some P))) (fun z _ => mS z)
        case atStart => exact ⟨x0, at6, [], .slice none 0 0, by have := HX0.out; omega, rfl, Lib.hid ⟨HO6.out, World.ownsRow_nil _ _ 3 1, HD6.out⟩, Lib.hid ⟨List.Pairwise.nil, (fun _ h => by cases h), .inr (fun _ h => by cases h), by simp⟩, G6⟩
        case round =>
          clear HO6 HD6 G6
          obtain ⟨x, at_, S, s, hx4, rfl, HR, HS, HG7⟩ := hrel
          obtain ⟨sA, sc, rfl, hsi, hsb⟩ := OwnI.ints HR.out.2.1 (fun y hy => by have := HS.out.rng y hy; exact ⟨by omega, by omega⟩)
          clear hsb
          by_cases hx : 0 < x
          · have j1 : decide ((0 : Int) < (x : Int)) = true := decide_eq_true (by omega)
            have HXP := Lib.hid hx
            have ga := World.grownBy_alloc wr (.cells #[.int .i64 (x : Int)] 3) none
            have HPR := (HR.out.1.kept ga)
            have c3 := HPR.c 3 rfl
            have c3' := HR.out.1.c 3 rfl
            have HRa := Lib.hid HPR
            have HOa : Hid (OwnI _ (ob + 1) (.slice sA S.length sc) S) := Lib.hid (own_keep HR.out.2.1 ga (fun _ e => by cases e))
            have HDa := Lib.hid (HR.out.2.2.kept ga (by simp))
            have HV := Lib.hid (new_vals wr 3 [.int .i64 (x : Int)] 1 rfl (by omega) (fun u hu => by rw [List.mem_singleton.1 hu]; rfl))
            have Ga := Lib.hid (grow_p HG7.out ga)
            have HSB : Hid (S.length + 1 ≤ 1000000 ∧ ob + 1 ≤ (wr.alloc (.cells #[.int .i64 (x : Int)] 3)).heap.size) := Lib.hid ⟨by have := HS.out.few; omega, HPR.lt⟩
            clear ga HPR hsi HR
            go_upto_region 12 with (at_builtin; first
              | (refine wpList_append_vals elt3 rfl (.tmp 43) (.tmp 45) rfl (ob + 1) _ S.length _ rfl HOa.out _ 1 1 _ rfl HV.out HSB.out.1 HSB.out.2 ?_
                 intro v2 w8 ho hg hb hv
                 have hpp : some ob ≠ (Value.slice sA S.length sc).ownBlock := fun e => by have := (World.ownsRow.lt HOa.out ob e.symm).1; omega
                 have hqq : some P ≠ (Value.slice sA S.length sc).ownBlock := fun e => by have := (World.ownsRow.lt HOa.out P e.symm).1; have := HOB.out; have := HSZ4.out.2; omega
                 have HRb := HRa.out.keptR hg hpp
                 have HDb := Lib.hid (HDa.out.kept hg hqq)
                 have Gb := Lib.hid (Ga.out.andThen hg (fun r e => .inl (by have := (World.ownsRow.lt HOa.out r e).1; have := HOB.out; omega)))
                 obtain ⟨A2, n2, c2, hn2, rfl⟩ : ∃ A n c, n = S.length + 1 ∧ v2 = .slice A n c := by
                   obtain ⟨A, c, h, _⟩ := own_vals ho (fun u hu => by
                     rcases List.mem_append.1 hu with hu | hu
                     · obtain ⟨z, _, rfl⟩ := List.mem_map.1 hu; rfl
                     · rw [List.mem_singleton.1 hu]; rfl)
                   exact ⟨A, _, c, rfl, h⟩
                 have HN2 := Lib.hid hn2
                 clear hn2
                 have c3b := HRb.c 3 rfl
                 have f3b := HRb.fz 3
                 have hszb := HRb.lt
                 replace HRb := Lib.hid HRb
                 replace ho := Lib.hid ho
                 clear hg hb hv hpp hqq))
            have gl := grown_setCell w8 ob 3 (.slice A2 n2 c2)
            have HR9 : Hid (Row _ ob 41 #[.string ⟨code.toArray⟩, .int .i64 cr, .int .i64 pl, .slice A2 n2 c2, .slice none 0 0]) := Lib.hid (HRb.out.set 3 (.slice A2 n2 c2))
            have HO9 : Hid (OwnI (w8.setCell ⟨ob, 3, none⟩ (.slice A2 n2 c2)) (ob + 1) (.slice A2 n2 c2) (S ++ [(x : Int)])) := Lib.hid (by
              unfold OwnI
              rw [List.length_append, List.map_append]
              exact World.ownsRow.kept ho.out gl (.inr (fun e => by have := (World.ownsRow.lt ho.out ob e).1; omega)))
            have HD9 := Lib.hid (HDb.out.kept gl (by intro e; injection e with e; exact HOBP.out e.symm))
            have G9 := Lib.hid (Gb.out.andThen gl (by rintro j ⟨⟩; exact .inl HOB.out))
            clear gl HRa HOa HDa HV Ga HSB HRb ho HDb Gb c3 c3' c3b f3b hszb HG7
            generalize w8.setCell ⟨ob, 3, none⟩ (.slice A2 n2 c2) = w9 at *
            go_wp2_with fail
            refine (draw_n P A n c l at_ 2 (by omega) (by omega) _ HD9.out.row HD9.out.le (HAI.out _ G9.out) HNE.out).mono ?_
            rintro e w10 ⟨i9, at10, rfl, hi9, ha10, hd10, g10⟩
            have HR10 := Lib.hid (HR9.out.keptR g10 (by intro e; injection e with e; exact HOBP.out e))
            have HO10 : Hid (OwnI w10 (ob + 1) (.slice A2 n2 c2) (S ++ [(x : Int)])) := Lib.hid (own_keep HO9.out g10 (by rintro j ⟨⟩; have := HOB.out; have := HSZ4.out.2; omega))
            have HD10 : Hid (Dr w10 P A n c at10) := Lib.hid ⟨hd10, ha10⟩
            have G10 := Lib.hid (G9.out.trans g10)
            clear hd10 ha10 g10 HR9 HO9 HD9 G9
            have HREL := fun z (hz : z = 0 ∨ z = x + 1) => slots_more HS.out HXP.out hx4 z hz
            rcases (show i9 = 0 ∨ i9 = 1 by omega) with rfl | rfl
            · have HR0 := Lib.hid (HREL 0 (.inl rfl))
              clear HREL hi9 HS
              go_wp2_with fail
              go_roundw
              case rel => exact ⟨0, at10, _, _, by omega, rfl, Lib.hid ⟨HR10.out, HO10.out, HD10.out⟩, HR0, G10⟩
              case measure => exact mS_zero HXP.out hx4
            · obtain ⟨A3, c3, e3, hsi3, hx3⟩ := OwnI.ints HO10.out (fun y hy => by have := (HREL 0 (.inl rfl)).rng y hy; exact ⟨by omega, by omega⟩)
              have hn2' := HN2.out
              injection e3 with e31 e32 e33
              rw [← e31, ← e32, ← e33] at hsi3
              clear hx3 e31 e32 e33 A3 c3
              obtain ⟨ad2, y, hy, _, rfl, hb2, cy⟩ := hsi3.at S.length (by omega)
              rw [List.getElem?_append_right (Nat.le_refl _), Nat.sub_self] at hy
              simp only [List.getElem?_cons_zero, Option.some.injEq] at hy
              subst hy
              have c3 := HR10.out.c 3 rfl
              obtain ⟨q, hq⟩ : ∃ q, q = S.length := ⟨_, rfl⟩
              rw [← hq] at cy hn2'
              have m1 : (0 : Int) ≤ (q : Int) := by omega
              have m2 : (q : Int) < (n2 : Int) := by omega
              have m3 : IntKind.i64.wrap ((n2 : Int) - 1) = (q : Int) := by
                have := hsi3.v.le
                have := hsi3.v.cap
                rw [IntKind.wrap_i64]; omega
              have m5 : IntKind.i64.wrap ((x : Int) + 1) = (x : Int) + 1 := by rw [IntKind.wrap_i64]; omega
              have h2le := hsi3.v.le
              have h2cap := hsi3.v.cap
              clear hsi3 hn2' hq hi9 hb2
              by_cases hx4' : x < 4
              · have m4 : decide ((x : Int) < 4) = true := decide_eq_true (by omega)
                have HR0 := Lib.hid (HREL (x + 1) (.inr rfl))
                clear HREL HS
                go_wp2_with fail
                go_roundw
                case rel => exact ⟨x + 1, at10, _, _, by omega, by go_num, Lib.hid ⟨HR10.out, HO10.out, HD10.out⟩, HR0, G10⟩
                case measure => exact mS_next HXP.out hx4'
              · have m4 : decide ((x : Int) < 4) = false := decide_eq_false (by omega)
                have HR0 := Lib.hid (HREL 0 (.inl rfl))
                clear HREL HS
                go_wp2_with fail
                go_roundw
                case rel => exact ⟨0, at10, _, _, by omega, rfl, Lib.hid ⟨HR10.out, HO10.out, HD10.out⟩, HR0, G10⟩
                case measure => exact mS_zero HXP.out hx4
          · obtain rfl : x = 0 := by omega
            have HRs := Lib.hid HR.out.1
            have HOs := Lib.hid HR.out.2.1
            have HDs := Lib.hid HR.out.2.2
            have HSI := Lib.hid hsi.ok
            clear HR hsi hx hx4
            go_upto_region 15 with fail
            rw [show ((0 : Nat) : Int) = 0 from rfl]
            generalize wr = w11 at *
            generalize at_ = at11 at *
            have HSZ : Hid (∀ j, (Value.slice sA S.length sc).ownBlock = some j → j < w11.heap.size) := Lib.hid (fun j e => (World.ownsRow.lt HOs.out j e).2)
            have HOBS : Hid (ob + 1 ≤ w11.heap.size) := Lib.hid HRs.out.lt
            have HOF : Hid (∀ W, w4.grownBy W (some P) → Offs W B m d vs L) := Lib.hid (fun W g => by
              obtain ⟨A', c', e, h1, _⟩ := (HOU4.out.kept g (by rintro j ⟨⟩; omega)).offs
              injection e with e1 e2 e3
              rw [HM.out, e1, e3]
              exact h1)
            obtain ⟨q, hq⟩ : ∃ q, q = S.length := ⟨_, rfl⟩
            rw [← hq] at HRs HOs HSZ
            have HQ := Lib.hid hq
            clear hq
            go_wp2_with fail
            go_loopw [9] (fun z wr => ∃ (i at_ : Nat) (N : List Str) (nv : Value), i ≤ m ∧ z = .int .i64 (i : Int) ∧ Hid (Row wr ob 41 #[.string ⟨code.toArray⟩, .int .i64 cr, .int .i64 pl, .slice sA q sc, nv] ∧ OwnI wr (ob + 1) (.slice sA q sc) S ∧ OwnS wr w11.heap.size nv N ∧ Dr wr P A n c at_ ∧ w11.heap.size ≤ wr.heap.size) ∧ Hid (N.Sublist ((L.map (·.code)).take i) ∧ N.length ≤ 2) ∧ Hid (w4.grownBy wr (some P))) (fun z _ => m - (intOf z).toNat)
            case atStart => exact ⟨0, at11, [], .slice none 0 0, Nat.zero_le _, rfl, Lib.hid ⟨HRs.out, HOs.out, World.ownsRow_nil _ _ 9 1, HDs.out, Nat.le_refl _⟩, Lib.hid ⟨List.nil_sublist _, by simp⟩, HG7⟩
            case round =>
              clear HRs HOs HDs HG7
              obtain ⟨i, at_, N, nv, hi, rfl, HR, HNN, HG8⟩ := hrel
              have HNOK : Hid (∀ x ∈ N, x.length ≤ 1152921504606846976) := Lib.hid (fun x hx => by
                obtain ⟨o, ho, rfl⟩ := List.mem_map.1 (List.mem_of_mem_take (HNN.out.1.subset hx))
                obtain ⟨j, hj⟩ := List.getElem?_of_mem ho
                obtain ⟨v, hv⟩ : ∃ v, vs[j]? = some v := ⟨_, List.getElem?_eq_getElem (by rw [HOU4.out.vlen]; exact (List.getElem?_eq_some_iff.1 hj).1)⟩
                exact (HOU4.out.is j v o hv hj).1.ok.1)
              obtain ⟨nA, nc, rfl, hns⟩ := strs_own HR.out.2.2.1 HNOK.out
              have HNL := Lib.hid HNN.out.2
              obtain ⟨p, hp⟩ : ∃ p, p = N.length := ⟨_, rfl⟩
              rw [← hp] at HR
              have HPN := Lib.hid hp
              have hp2 : p ≤ 2 := by have := HNL.out; omega
              clear hp hns
              by_cases hl2 : i < m
              · have i1 : (0 : Int) ≤ (i : Int) := by omega
                have i2 : (i : Int) < (m : Int) := by omega
                have i3 : decide ((i : Int) < (m : Int)) = true := decide_eq_true i2
                have i5 : IntKind.i64.wrap (i : Int) = (i : Int) := by rw [IntKind.wrap_i64]; omega
                have i6 : IntKind.i64.wrap ((i : Int) + 1) = (i : Int) + 1 := by rw [IntKind.wrap_i64]; omega
                go_wp2_with fail
                refine (draw_n P A n c l at_ 3 (by omega) (by omega) _ HR.out.2.2.2.1.row HR.out.2.2.2.1.le (HAI.out _ HG8.out) HNE.out).mono ?_
                rintro e w12 ⟨i12, at12, rfl, hi12, ha12, hd12, g12⟩
                have HR12 := Lib.hid (HR.out.1.keptR g12 (by intro e; injection e with e; exact HOBP.out e))
                have HO12 : Hid (OwnI w12 (ob + 1) (.slice sA q sc) S) := Lib.hid (own_keep HR.out.2.1 g12 (by rintro j ⟨⟩; have := HOB.out; have := HSZ4.out.2; omega))
                have HN12 : Hid (OwnS w12 w11.heap.size (.slice nA p nc) N) := Lib.hid (own_keep HR.out.2.2.1 g12 (by rintro j ⟨⟩; have := HOB.out; have := HSZ4.out.2; have := HOBS.out; omega))
                have HD12 : Hid (Dr w12 P A n c at12) := Lib.hid ⟨hd12, ha12⟩
                have G12 := Lib.hid (HG8.out.trans g12)
                have HZ12 := Lib.hid (Nat.le_trans HR.out.2.2.2.2 g12.size)
                have HNS := Lib.hid (needs_same HNN.out.1)
                clear hd12 ha12 g12 HR HG8
                by_cases h12 : i12 = 0
                · subst h12
                  have c4 := HR12.out.c 4 rfl
                  by_cases hp3 : p < 2
                  · have p3 : decide ((p : Int) < 2) = true := decide_eq_true (by omega)
                    obtain ⟨ad, u, o, ho, _, rfl, _, hv, _⟩ := (HOF.out _ G12.out).at i hl2
                    have HCI : Hid (∀ W, w4.grownBy W (some P) → W.cell? (ad.add (i * 5)) = some (.string ⟨o.code.toArray⟩)) := Lib.hid (fun W g => by
                      obtain ⟨ad', u', o', h1, _, e', _, hv', y0, _⟩ := (HOF.out W g).at i hl2
                      injection e' with e'
                      subst e'
                      rw [ho] at h1
                      injection h1 with h1
                      subst h1
                      rw [hv'.code] at y0
                      exact y0)
                    have HOL := Lib.hid hv.ok.1
                    have HNM := Lib.hid (needs_more (C := L.map (·.code)) (c := o.code) (i := i) (by rw [List.getElem?_map, ho]; rfl) HNN.out.1)
                    clear hv ho hi12
                    have gz12 : w12.grownBy w12.drew none := grown_dr (grown_refl _)
                    have HRd := Lib.hid (HR12.out.kept gz12)
                    have HOd := Lib.hid (own_keep HO12.out gz12 (fun _ e => by cases e))
                    have HNd := Lib.hid (own_keep HN12.out gz12 (fun _ e => by cases e))
                    have HDd := Lib.hid (HD12.out.kept gz12 (by simp))
                    have gd := grow_p G12.out gz12
                    have HZ11 := Lib.hid (Nat.le_trans HZ12.out gz12.size)
                    clear gz12 HZ12 HR12 HO12 HN12 HD12 G12
                    go_upto_region 19 with fail
                    clear c4
                    refine wp_region_noPanic ?_
                    refine wp_region_held_drew (S := (fun W => w4.grownBy W (some P))) (by kernel_rfl) ?_ (fun hHeld => ?_)
                    · (try dsimp only); exact gd
                    generalize w12.drew = wx at *
                    refine wpAnyH_take (i := 0) (oi := _) (v := ?_) rfl (by kernel_rfl) (by kernel_rfl) (by kernel_rfl) (fun _ _ _ h => h) (Or.inl ⟨by rfl, ?_⟩) (by assumption) ?_
                    rotate_left 1
                    · (intro w hSw; (try dsimp only at hSw); go_simp; first | done | with_reducible rfl)
                    try go_simp
                    refine wpAnyH_take (i := 2) (oi := _) (v := ?_) rfl (by kernel_rfl) (by kernel_rfl) (by kernel_rfl) (fun _ _ _ h => h) (Or.inl ⟨by rfl, ?_⟩) (by assumption) ?_
                    rotate_left 1
                    · (intro w hSw; (try dsimp only at hSw); go_simp; first | done | with_reducible rfl)
                    try go_simp
                    refine wpAnyH_take (i := 3) (oi := _) (v := ?_) rfl (by kernel_rfl) (by kernel_rfl) (by kernel_rfl) (fun _ _ _ h => h) (Or.inl ⟨by rfl, ?_⟩) (by assumption) ?_
                    rotate_left 1
                    · (intro w hSw; (try dsimp only at hSw); go_simp; first | done | with_reducible rfl)
                    try go_simp
                    refine wpAnyH_take (i := 4) (oi := _) (v := ?_) rfl (by kernel_rfl) (by kernel_rfl) (by kernel_rfl) (fun _ _ _ h => h) (Or.inl ⟨by rfl, ?_⟩) (by assumption) ?_
                    rotate_left 1
                    · (intro w hSw; (try dsimp only at hSw); go_simp; first | done | with_reducible rfl)
                    try go_simp
                    refine wpAnyH_take (i := 5) (oi := _) (v := ?_) rfl (by kernel_rfl) (by kernel_rfl) (by kernel_rfl) (fun _ _ _ h => h) (Or.inl ⟨by rfl, ?_⟩) (by assumption) ?_
                    rotate_left 1
                    · (intro w hSw; (try dsimp only at hSw); go_simp; first | done | with_reducible rfl)
                    try go_simp
                    refine wpAnyH_take (i := 6) (oi := _) (v := .string ⟨o.code.toArray⟩) rfl (by kernel_rfl) (by kernel_rfl) (by kernel_rfl) (fun _ _ _ h => h) (Or.inl ⟨by kernel_rfl, ?_⟩) (by assumption) ?_
                    · (intro w hSw; (try dsimp only at hSw); go_simp; have y0 := HCI.out _ hSw; clear hSw; go_simp; first | done | with_reducible rfl)
                    try go_simp
                    refine wpAnyH_ready (rs := [1, 7]) (by kernel_rfl) (by simp) ?_
                    refine AllReadyH.cons (o := _) rfl (fun K hK => ?_) ?_
                    · clear hHeld
                      have c4 := HRd.out.c 4 rfl
                      go_simp
                      first | (refine hK.out _ _ ?_ (fun hHeld => ?_)) | (go_wp2_with fail; refine hK.out _ _ ?_ (fun hHeld => ?_))
                      · (try dsimp only); exact gd
                      clear hK K
                      clear c4

                      refine wpAnyH_ready (rs := [7]) (by kernel_rfl) (by simp) ?_
                      refine AllReadyH.cons (o := _) rfl (fun K hK => ?_) ?_
                      · clear hHeld
                        obtain ⟨w3, e3, HN, g3⟩ := row_of wx 9 #[.string ⟨o.code.toArray⟩]
                        go_simp
                        first | (refine hK.out _ _ ?_ (fun hHeld => ?_)) | (go_wp2_with fail; refine hK.out _ _ ?_ (fun hHeld => ?_))
                        · (try dsimp only); rw [← e3]; exact grow_p gd g3
                        clear hK K
                        rw [← e3]
                        have HV := Lib.hid (strs_row (l := [o.code]) HN rfl rfl (by simp) (fun z hz => by rw [List.mem_singleton.1 hz]; exact HOL.out))
                        replace HRd := Lib.hid (HRd.out.kept g3)
                        replace HOd := Lib.hid (own_keep HOd.out g3 (fun _ e => by cases e))
                        replace HNd := Lib.hid (own_keep HNd.out g3 (fun _ e => by cases e))
                        replace HDd := Lib.hid (HDd.out.kept g3 (by simp))
                        replace gd := grow_p gd g3
                        replace HZ11 := Lib.hid (Nat.le_trans HZ11.out g3.size)
                        clear e3 g3 HN
                        generalize wx.heap.size = Z at *

                        refine wpAnyH_ready (rs := [8]) (by kernel_rfl) (by simp) ?_
                        refine AllReadyH.cons (o := _) rfl (fun K hK => ?_) ?_
                        · clear hHeld
                          refine step_append_vals elt9 rfl (.tmp 87) (.tmp 93) rfl w11.heap.size (.slice nA p nc) N.length _ rfl HNd.out _ 1 1 _ rfl HV.out.v (by have := HNL.out; omega) HZ11.out ?_
                          intro v2 w8 ho hg hb hv
                          have hpp : some ob ≠ (Value.slice nA p nc).ownBlock := fun e => by have := (World.ownsRow.lt HNd.out ob e.symm).1; have := HOBS.out; omega
                          have hqq : some P ≠ (Value.slice nA p nc).ownBlock := fun e => by have := (World.ownsRow.lt HNd.out P e.symm).1; have := HOBS.out; have := HOB.out; have := HSZ4.out.2; omega
                          replace HRd := Lib.hid (HRd.out.keptR hg hpp)
                          replace HOd := Lib.hid (World.ownsRow.kept HOd.out hg (by
                            cases hn : (Value.slice nA p nc).ownBlock with
                            | none =>
                              cases hs : (Value.slice sA q sc).ownBlock with
                              | none => exact .inl rfl
                              | some k => exact .inr (by simp)
                            | some k =>
                              refine .inr (fun e => ?_)
                              have h1 := HSZ.out k e
                              have h2 := (World.ownsRow.lt HNd.out k hn).1
                              omega))
                          replace HDd := Lib.hid (HDd.out.kept hg hqq)
                          replace gd := gd.andThen hg (fun r e => .inl (by have := (World.ownsRow.lt HNd.out r e).1; have := HOBS.out; have := HOB.out; omega))
                          replace HZ11 := Lib.hid (Nat.le_trans HZ11.out hg.size)
                          obtain ⟨A2, n2, c2, rfl⟩ : ∃ A n c, v2 = .slice A n c := by
                            obtain ⟨A, c, h, _⟩ := own_vals ho (fun u hu => by
                              rcases List.mem_append.1 hu with hu | hu
                              · obtain ⟨z, _, rfl⟩ := List.mem_map.1 hu; rfl
                              · obtain ⟨z, _, rfl⟩ := List.mem_map.1 hu; rfl)
                            exact ⟨A, _, c, h⟩
                          replace ho := Lib.hid ho
                          clear hg hb hv hpp hqq
                          first | (refine hK.out _ _ ?_ (fun hHeld => ?_)) | (go_wp2_with fail; refine hK.out _ _ ?_ (fun hHeld => ?_))
                          · (try dsimp only); exact gd
                          clear hK K
                          refine wpAnyH_take (i := 9) (oi := _) (v := ?_) rfl (by kernel_rfl) (by kernel_rfl) (by kernel_rfl) (fun _ _ _ h => h) (Or.inl ⟨by rfl, ?_⟩) (by assumption) ?_
                          rotate_left 1
                          · (intro w hSw; (try dsimp only at hSw); go_simp; first | done | with_reducible rfl)
                          try go_simp
                          refine wpAnyH_ready (rs := [10]) (by kernel_rfl) (by simp) ?_
                          refine AllReadyH.cons (o := _) rfl (fun K hK => ?_) ?_
                          · clear hHeld
                            have c4 := HRd.out.c 4 rfl
                            have f4 := HRd.out.fz 4
                            have hsz := HRd.out.lt
                            have RS : Row _ ob 41 #[.string ⟨code.toArray⟩, .int .i64 cr, .int .i64 pl, .slice sA q sc, .slice A2 n2 c2] := HRd.out.set 4 (.slice A2 n2 c2)
                            have gl := grown_setCell w8 ob 4 (.slice A2 n2 c2)
                            have gs := gd.andThen gl (by rintro j ⟨⟩; exact .inl HOB.out)
                            have RO := World.ownsRow.kept HOd.out gl (.inr (fun e => by have := (World.ownsRow.lt HOd.out ob e).1; omega))
                            have RN := World.ownsRow.kept ho.out gl (.inr (fun e => by have := (World.ownsRow.lt ho.out ob e).1; have := HOBS.out; omega))
                            have RD := HDd.out.kept gl (by intro e; injection e with e; exact HOBP.out e.symm)
                            replace HZ11 := Lib.hid (Nat.le_trans HZ11.out gl.size)
                            replace RS := Lib.hid RS
                            replace RO := Lib.hid RO
                            replace RN := Lib.hid RN
                            replace RD := Lib.hid RD
                            go_simp
                            first | (refine hK.out _ _ ?_ (fun hHeld => ?_)) | (go_wp2_with fail; refine hK.out _ _ ?_ (fun hHeld => ?_))
                            · (try dsimp only); exact gs
                            clear hK K
                            clear c4 f4

                            refine wpAnyH_done (by kernel_rfl) ?_ _
                            refine NoPanic.normal ?_
                            go_simp
                            go_wp2_with fail
                            refine ⟨⟨i + 1, at12, N ++ [o.code], .slice A2 n2 c2, by omega, by go_num, Lib.hid ⟨RS.out, RO.out, by unfold OwnS; rw [List.length_append, List.map_append]; exact RN.out, RD.out, HZ11.out⟩, Lib.hid ⟨HNM.out, by rw [List.length_append, List.length_singleton]; have := HPN.out; omega⟩, Lib.hid gs⟩, by simp [intOf]; omega⟩
                          exact AllReadyH.nil
                        exact AllReadyH.nil
                      exact AllReadyH.nil
                    refine AllReadyH.cons (o := _) rfl (fun K hK => ?_) ?_
                    · clear hHeld
                      obtain ⟨w3, e3, HN, g3⟩ := row_of wx 9 #[.string ⟨o.code.toArray⟩]
                      go_simp
                      first | (refine hK.out _ _ ?_ (fun hHeld => ?_)) | (go_wp2_with fail; refine hK.out _ _ ?_ (fun hHeld => ?_))
                      · (try dsimp only); rw [← e3]; exact grow_p gd g3
                      clear hK K
                      rw [← e3]
                      have HV := Lib.hid (strs_row (l := [o.code]) HN rfl rfl (by simp) (fun z hz => by rw [List.mem_singleton.1 hz]; exact HOL.out))
                      replace HRd := Lib.hid (HRd.out.kept g3)
                      replace HOd := Lib.hid (own_keep HOd.out g3 (fun _ e => by cases e))
                      replace HNd := Lib.hid (own_keep HNd.out g3 (fun _ e => by cases e))
                      replace HDd := Lib.hid (HDd.out.kept g3 (by simp))
                      replace gd := grow_p gd g3
                      replace HZ11 := Lib.hid (Nat.le_trans HZ11.out g3.size)
                      clear e3 g3 HN
                      generalize wx.heap.size = Z at *

                      refine wpAnyH_ready (rs := [1]) (by kernel_rfl) (by simp) ?_
                      refine AllReadyH.cons (o := _) rfl (fun K hK => ?_) ?_
                      · clear hHeld
                        have c4 := HRd.out.c 4 rfl
                        go_simp
                        first | (refine hK.out _ _ ?_ (fun hHeld => ?_)) | (go_wp2_with fail; refine hK.out _ _ ?_ (fun hHeld => ?_))
                        · (try dsimp only); exact gd
                        clear hK K
                        clear c4

                        refine wpAnyH_ready (rs := [8]) (by kernel_rfl) (by simp) ?_
                        refine AllReadyH.cons (o := _) rfl (fun K hK => ?_) ?_
                        · clear hHeld
                          refine step_append_vals elt9 rfl (.tmp 87) (.tmp 93) rfl w11.heap.size (.slice nA p nc) N.length _ rfl HNd.out _ 1 1 _ rfl HV.out.v (by have := HNL.out; omega) HZ11.out ?_
                          intro v2 w8 ho hg hb hv
                          have hpp : some ob ≠ (Value.slice nA p nc).ownBlock := fun e => by have := (World.ownsRow.lt HNd.out ob e.symm).1; have := HOBS.out; omega
                          have hqq : some P ≠ (Value.slice nA p nc).ownBlock := fun e => by have := (World.ownsRow.lt HNd.out P e.symm).1; have := HOBS.out; have := HOB.out; have := HSZ4.out.2; omega
                          replace HRd := Lib.hid (HRd.out.keptR hg hpp)
                          replace HOd := Lib.hid (World.ownsRow.kept HOd.out hg (by
                            cases hn : (Value.slice nA p nc).ownBlock with
                            | none =>
                              cases hs : (Value.slice sA q sc).ownBlock with
                              | none => exact .inl rfl
                              | some k => exact .inr (by simp)
                            | some k =>
                              refine .inr (fun e => ?_)
                              have h1 := HSZ.out k e
                              have h2 := (World.ownsRow.lt HNd.out k hn).1
                              omega))
                          replace HDd := Lib.hid (HDd.out.kept hg hqq)
                          replace gd := gd.andThen hg (fun r e => .inl (by have := (World.ownsRow.lt HNd.out r e).1; have := HOBS.out; have := HOB.out; omega))
                          replace HZ11 := Lib.hid (Nat.le_trans HZ11.out hg.size)
                          obtain ⟨A2, n2, c2, rfl⟩ : ∃ A n c, v2 = .slice A n c := by
                            obtain ⟨A, c, h, _⟩ := own_vals ho (fun u hu => by
                              rcases List.mem_append.1 hu with hu | hu
                              · obtain ⟨z, _, rfl⟩ := List.mem_map.1 hu; rfl
                              · obtain ⟨z, _, rfl⟩ := List.mem_map.1 hu; rfl)
                            exact ⟨A, _, c, h⟩
                          replace ho := Lib.hid ho
                          clear hg hb hv hpp hqq
                          first | (refine hK.out _ _ ?_ (fun hHeld => ?_)) | (go_wp2_with fail; refine hK.out _ _ ?_ (fun hHeld => ?_))
                          · (try dsimp only); exact gd
                          clear hK K
                          refine wpAnyH_take (i := 9) (oi := _) (v := ?_) rfl (by kernel_rfl) (by kernel_rfl) (by kernel_rfl) (fun _ _ _ h => h) (Or.inl ⟨by rfl, ?_⟩) (by assumption) ?_
                          rotate_left 1
                          · (intro w hSw; (try dsimp only at hSw); go_simp; first | done | with_reducible rfl)
                          try go_simp
                          refine wpAnyH_ready (rs := [10]) (by kernel_rfl) (by simp) ?_
                          refine AllReadyH.cons (o := _) rfl (fun K hK => ?_) ?_
                          · clear hHeld
                            have c4 := HRd.out.c 4 rfl
                            have f4 := HRd.out.fz 4
                            have hsz := HRd.out.lt
                            have RS : Row _ ob 41 #[.string ⟨code.toArray⟩, .int .i64 cr, .int .i64 pl, .slice sA q sc, .slice A2 n2 c2] := HRd.out.set 4 (.slice A2 n2 c2)
                            have gl := grown_setCell w8 ob 4 (.slice A2 n2 c2)
                            have gs := gd.andThen gl (by rintro j ⟨⟩; exact .inl HOB.out)
                            have RO := World.ownsRow.kept HOd.out gl (.inr (fun e => by have := (World.ownsRow.lt HOd.out ob e).1; omega))
                            have RN := World.ownsRow.kept ho.out gl (.inr (fun e => by have := (World.ownsRow.lt ho.out ob e).1; have := HOBS.out; omega))
                            have RD := HDd.out.kept gl (by intro e; injection e with e; exact HOBP.out e.symm)
                            replace HZ11 := Lib.hid (Nat.le_trans HZ11.out gl.size)
                            replace RS := Lib.hid RS
                            replace RO := Lib.hid RO
                            replace RN := Lib.hid RN
                            replace RD := Lib.hid RD
                            go_simp
                            first | (refine hK.out _ _ ?_ (fun hHeld => ?_)) | (go_wp2_with fail; refine hK.out _ _ ?_ (fun hHeld => ?_))
                            · (try dsimp only); exact gs
                            clear hK K
                            clear c4 f4

                            refine wpAnyH_done (by kernel_rfl) ?_ _
                            refine NoPanic.normal ?_
                            go_simp
                            go_wp2_with fail
                            refine ⟨⟨i + 1, at12, N ++ [o.code], .slice A2 n2 c2, by omega, by go_num, Lib.hid ⟨RS.out, RO.out, by unfold OwnS; rw [List.length_append, List.map_append]; exact RN.out, RD.out, HZ11.out⟩, Lib.hid ⟨HNM.out, by rw [List.length_append, List.length_singleton]; have := HPN.out; omega⟩, Lib.hid gs⟩, by simp [intOf]; omega⟩
                          exact AllReadyH.nil
                        exact AllReadyH.nil
                      exact AllReadyH.nil
                    exact AllReadyH.nil
                  · have p3 : decide ((p : Int) < 2) = false := decide_eq_false (by omega)
                    clear hi12
                    go_wp2_with fail
                    go_roundw
                    case rel => exact ⟨i + 1, at12, N, _, by omega, by go_num, Lib.hid ⟨HR12.out, HO12.out, HN12.out, HD12.out, HZ12.out⟩, Lib.hid ⟨HNS.out, HNL.out⟩, G12⟩
                    case measure => simp [intOf]; omega
                · have q12 : ((i12 : Int) == 0) = false := by simp; omega
                  clear h12 hi12
                  go_wp2_with fail
                  go_roundw
                  case rel => exact ⟨i + 1, at12, N, _, by omega, by go_num, Lib.hid ⟨HR12.out, HO12.out, HN12.out, HD12.out, HZ12.out⟩, Lib.hid ⟨HNS.out, HNL.out⟩, G12⟩
                  case measure => simp [intOf]; omega
              · obtain rfl : m = i := by omega
                clear hl2 hi
                have HQ' := HQ.out
                have HPN' := HPN.out
                obtain ⟨v, hv⟩ : ∃ v : V, v = ⟨code, cr, pl, sA, q, sc, nA, p, nc⟩ := ⟨_, rfl⟩
                obtain ⟨o, ho⟩ : ∃ o : O, o = ⟨code, cr, pl, S, N⟩ := ⟨_, rfl⟩
                have ga := World.grownBy_alloc wr (.cells v.cells 41) none
                have HVI : Hid (VIs wr v o) := Lib.hid (by
                  subst hv ho
                  have hcr := HCR.out
                  have hpl := HPL.out
                  refine ⟨rfl, rfl, rfl, ⟨HCL.out, ⟨by simp only; omega, by simp only; omega⟩, ⟨by simp only; omega, by simp only; omega⟩⟩, ⟨vals_own HR.out.2.1 HQ' (fun v hv => by obtain ⟨x, _, rfl⟩ := List.mem_map.1 hv; rfl), HSI.out⟩, ⟨vals_own HR.out.2.2.1 HPN' (fun v hv => by obtain ⟨x, _, rfl⟩ := List.mem_map.1 hv; rfl), HNOK.out⟩, by have := HS.out.few; have := HNL.out; simp only; omega⟩)
                have HVA := Lib.hid (HVI.out.kept ga)
                have HOA : Hid (OwnI (wr.alloc (.cells v.cells 41)) w4.heap.size (.slice v.sA v.sn v.sc) o.slots) := Lib.hid (by
                  subst hv ho
                  exact own_base (own_keep HR.out.2.1 ga (fun _ e => by cases e)) (by have := HOB.out; omega))
                have HNA : Hid (OwnS (wr.alloc (.cells v.cells 41)) w4.heap.size (.slice v.nA v.nn v.nc) o.needs) := Lib.hid (by
                  subst hv ho
                  exact own_base (own_keep HR.out.2.2.1 ga (fun _ e => by cases e)) (by have := HOB.out; have := HOBS.out; omega))
                have HOW := Lib.hid ((HOU4.out.kept HG8.out (by rintro j ⟨⟩; omega)).kept ga (fun _ e => by cases e))
                have HLT4 : Hid (∀ j, (Value.slice B L.length d).ownBlock = some j → P + 2 ≤ j ∧ j < w4.heap.size) := Lib.hid (fun j e => World.ownsRow.lt HOU4.out.own j e)
                have HCSa := Lib.hid (HCS4.out.v.keptR HG8.out (by rintro ad ⟨⟩ _ e; injection e with e; simp at e))
                have HDa := Lib.hid (HR.out.2.2.2.1.kept ga (by simp))
                have HVL : Hid (Vals (wr.alloc (.cells #[.string ⟨code.toArray⟩, .int .i64 cr, .int .i64 pl, .slice sA q sc, .slice nA p nc] 41)) (some ⟨wr.heap.size, 0, none⟩) 1 1 5 v.cells.toList) := Lib.hid (by subst hv; exact new_vals5 wr ⟨code, cr, pl, sA, q, sc, nA, p, nc⟩)
                have HGa := Lib.hid ((HGW.out _ HG8.out).trans ga)
                have HGA := Lib.hid ga
                have HMA : Hid (MadeL (k + 1) (L ++ [o])) := Lib.hid (made_snoc HML.out (by rw [HCC.out, ho]) (by
                  subst ho
                  refine ⟨HCR.out, HPL.out, ⟨HS.out.inc, HS.out.rng⟩, ?_, HNL.out⟩
                  have := HNN.out.1
                  rwa [List.take_of_length_le (by rw [List.length_map]; have := HM.out; omega)] at this))
                have HLB : Hid (L.length + 1 ≤ 1000000 ∧ P + 2 ≤ (wr.alloc (.cells v.cells 41)).heap.size) := Lib.hid ⟨by have := made_len HML.out; omega, by have := HSZ4.out.1; have := HG8.out.size; have := ga.size; omega⟩
                have c0 := HR.out.1.c 0 rfl
                have c1 := HR.out.1.c 1 rfl
                have c2 := HR.out.1.c 2 rfl
                have c3 := HR.out.1.c 3 rfl
                have c4 := HR.out.1.c 4 rfl
                have HCE : Hid (v.cells = #[.string ⟨code.toArray⟩, .int .i64 cr, .int .i64 pl, .slice sA q sc, .slice nA p nc]) := Lib.hid (by rw [hv]; rfl)
                clear ga hv ho HQ' HPN' HR HVI HNN HNOK HS HG8
                rw [HCE.out] at HOA HNA HOW HDa HGa HLB HVA HGA
                go_upto_region 6 with (at_builtin; first
                  | (refine wpList_append_vals elt35 rfl (.tmp 96) (.tmp 98) rfl (P + 2) (.slice B L.length d) L.length (vc vs) (by rw [← HM.out]; rfl) HOW.out.own _ 1 1 _ rfl HVL.out HLB.out.1 HLB.out.2 ?_
                     intro y2 w8 hown hg hb hv
                     have HOX := Lib.hid (HOW.out.snoc hown hg hb HVA.out HOA.out HNA.out (by have := HSZ4.out.1; omega) (fun j e => (HLT4.out j e).2))
                     have HDX := Lib.hid (HDa.out.kept hg (fun e => by have := (HLT4.out P e.symm).1; omega))
                     have HCX := Lib.hid (((HCSa.out.kept HGA.out).keptR hg (by rintro ad ⟨⟩ _ e; have := (HLT4.out _ e.symm).1; simp only at this; omega)))
                     have HGX := Lib.hid (HGa.out.andThen hg (fun r e => .inl (by have := (HLT4.out r e).1; have := HPE.out; omega)))
                     clear hown hg hb hv))
                go_wp2_with fail
                exact ⟨⟨k + 1, at_, vs ++ [v], L ++ [o], by omega, by go_num, Lib.hid ⟨HDX.out, ⟨HCX.out, HCS4.out.ok⟩, HOX.out, HMA.out⟩, HGX⟩, by simp [intOf]; omega⟩
    · obtain rfl : k = 6 := by omega
      have k3 : decide (((6 : Nat) : Int) < 6) = false := by simp
      clear hlt
      go_wp2_with fail
      go_ret
      exact ⟨B, d, vs, L, by rw [← HM.out]; rfl, by rw [← HM.out]; exact HOF.out, HML.out, HG.out⟩
end Go.Proofs.YtnkemoicgadefaaGreatDoor
