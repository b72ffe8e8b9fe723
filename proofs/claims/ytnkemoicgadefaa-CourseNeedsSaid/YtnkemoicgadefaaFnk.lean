/-
  The program's Find.
-/
import Derived.Test.YtnkemoicgadefaaCln
namespace Go.Proofs.Ytnkemoicgadefaa
open Go.RowKit
attribute [local go_sem] get_mk extract_mk
theorem own_len {w : World} {b e sz m n c : Nat} {A : Option Addr} {vs : List Value} (h : w.ownsRow b e sz (.slice A n c) m vs) : n = m := by
  unfold World.ownsRow at h
  rcases h.2 with ⟨h1, h2⟩ | ⟨g, cap, cur, h1, _⟩
  · injection h1 with _ h3 _
    omega
  · injection h1
set_option maxRecDepth 100000 in
set_option maxHeartbeats 4000000 in
theorem find_k (A : Option Addr) (n c : Nat) (vs : List V) (l : List O) (code : Str) (w : World) (h : Offs w A n c vs l) :
    Calls Try.prog 20 #[.slice A n c, .string ⟨code.toArray⟩] w fun e w' => ∃ (v' : V) (b : Bool), e = .returned (.tuple #[.agg v'.cells, .bool b]) ∧ w.grownBy w' none ∧
      ((b = false ∧ fnd l code = none ∧ v' = ⟨[], 0, 0, none, 0, 0, none, 0, 0⟩) ∨ ∃ o, b = true ∧ fnd l code = some o ∧ VIs w' v' o ∧ OwnI w' w.heap.size (.slice v'.sA v'.sn v'.sc) o.slots ∧ OwnS w' w.heap.size (.slice v'.nA v'.nn v'.nc) o.needs) := by
  have hle := h.v.le
  have hcap := h.v.cap
  obtain ⟨w1, e1, HR, g1⟩ := row_of w 35 #[.string ⟨#[]⟩, .int .i64 0, .int .i64 0, .slice none 0 0, .slice none 0 0]
  have HI := Lib.hid (index_k A n c vs l code w1 (h.kept g1))
  have HO := Lib.hid (fun W (g : w.grownBy W none) => h.kept g)
  have G1 := Lib.hid g1
  have E1 := Lib.hid e1
  have HR1 := Lib.hid HR
  clear e1 g1 h HR
  go_enter Try.func20, Try.ntmps20
  go_upto_region 1 with fail
  rw [← E1.out]
  clear E1
  obtain ⟨R, hR⟩ : ∃ R, R = w.heap.size := ⟨_, rfl⟩
  rw [← hR] at HR1 ⊢
  have HE := Lib.hid hR
  clear hR
  go_wp2_with fail
  refine HI.out.mono ?_
  rintro e w2 (⟨rfl, hf, g⟩ | ⟨k, o, hk, rfl, ho, hf, g⟩)
  · have HQ : Hid (fnd l code = none) := Lib.hid hf
    have HR2 := Lib.hid (HR1.out.kept g)
    have G2 := Lib.hid (G1.out.trans g)
    clear hf g HI
    have f0 := HR2.out.fz 0
    have d0 := HR2.out.c 0 rfl
    have f1 := HR2.out.fz 1
    have d1 := HR2.out.c 1 rfl
    have f2 := HR2.out.fz 2
    have d2 := HR2.out.c 2 rfl
    have f3 := HR2.out.fz 3
    have d3 := HR2.out.c 3 rfl
    have f4 := HR2.out.fz 4
    have d4 := HR2.out.c 4 rfl
    have hzz := HR2.out.lt
    have RS : Row _ R 35 _ := (((((HR2.out.set 0 (.string ⟨#[]⟩)).set 1 (.int .i64 0)).set 2 (.int .i64 0)).set 3 (.slice none 0 0)).set 4 (.slice none 0 0))
    have gl := (((((grown_setCell w2 R 0 (.string ⟨#[]⟩)).trans (grown_setCell _ R 1 (.int .i64 0))).trans (grown_setCell _ R 2 (.int .i64 0))).trans (grown_setCell _ R 3 (.slice none 0 0))).trans (grown_setCell _ R 4 (.slice none 0 0)))
    have RS2 := Lib.hid RS
    have GG := Lib.hid (G2.out.andThen gl (by rintro j ⟨⟩; exact .inl (by rw [HE.out]; exact Nat.le_refl _)))
    clear RS gl HR2
    go_wp2_with fail
    exact bodyPost_ret (v := .tuple #[.agg #[.string ⟨#[]⟩, .int .i64 0, .int .i64 0, .slice none 0 0, .slice none 0 0], .bool false]) (by simp [results, Try.results20, go_sem, RS2.out.c 0 rfl, RS2.out.c 1 rfl, RS2.out.c 2 rfl, RS2.out.c 3 rfl, RS2.out.c 4 rfl]) rfl
      ⟨⟨[], 0, 0, none, 0, 0, none, 0, 0⟩, false, rfl, GG.out, .inl ⟨rfl, HQ.out, rfl⟩⟩
  · obtain ⟨ad, v, o', ho', _, rfl, hbl, hv, x0, x1, x2, x3, x4⟩ := (HO.out _ (G1.out.trans g)).at k hk
    rw [ho] at ho'
    obtain rfl := Option.some.inj ho'
    have HF := Lib.hid hf
    have HCO := Lib.hid hv.code
    have HCR := Lib.hid hv.cr
    have HPL := Lib.hid hv.pl
    have HOK := Lib.hid hv.ok
    have FW := Lib.hid hv.few
    have SL0 := Lib.hid hv.slots
    have ND0 := Lib.hid hv.needs
    obtain ⟨vc, vr, vp, sA, sn, sc, nA, nn, nc⟩ := v
    dsimp only at HCO HCR HPL SL0 ND0 x0 x1 x2 x3 x4
    have FWL : Hid (sn ≤ 1000 ∧ nn ≤ 1000) := Lib.hid ⟨by rw [SL0.out.len]; exact FW.out.1, by rw [ND0.out.len]; exact FW.out.2⟩
    have k1 : (0 : Int) ≤ (k : Int) := by omega
    have k2 : (k : Int) < (n : Int) := by omega
    have kd : decide ((k : Int) < 0) = false := decide_eq_false (by omega)
    have k5 : IntKind.i64.wrap (k : Int) = (k : Int) := by rw [IntKind.wrap_i64]; omega
    have HR2 := Lib.hid (HR1.out.kept g)
    have G2 := Lib.hid (G1.out.trans g)
    obtain ⟨w3, e3, HQ, g3⟩ := row_of w2 35 #[.string ⟨vc.toArray⟩, .int .i64 vr, .int .i64 vp, .slice sA sn sc, .slice nA nn nc]
    have E3 := Lib.hid e3
    have HQ0 := Lib.hid HQ
    have g3h := Lib.hid g3
    clear ho ho' hf hv HI HO g e3 HQ g3 hbl
    go_upto_region 5 with fail
    rw [← E3.out]
    clear E3 x0 x1 x2 x3 x4
    have HNE : Hid (w2.heap.size ≠ R ∧ w2.heap.size ≤ w2.heap.size) := Lib.hid ⟨by have := HR2.out.lt; omega, Nat.le_refl _⟩
    have HRQ : Hid (R < w2.heap.size) := Lib.hid HR2.out.lt
    obtain ⟨Q, hQ⟩ : ∃ Q, Q = w2.heap.size := ⟨_, rfl⟩
    rw [← hQ] at HQ0 HRQ ⊢
    replace HNE : Hid (Q ≠ R ∧ w2.heap.size ≤ Q) := Lib.hid ⟨by rw [hQ]; exact HNE.out.1, by rw [hQ]; exact Nat.le_refl _⟩
    clear hQ
    have HQ := HQ0.out.kept (grown_dr (grown_refl w3))
    have HR := Lib.hid ((HR2.out.kept g3h.out).kept (grown_dr (grown_refl w3)))
    have gd := g3h.out.trans (grown_dr (grown_refl w3))
    have SL := SL0
    have ND := ND0
    clear SL0 ND0 HQ0 HR1 HR2 g3h
    refine wp_region_noPanic ?_
    refine wp_region_held_drew (S := (fun W => w2.grownBy W none)) (by kernel_rfl) ?_ (fun hHeld => ?_)
    · (try dsimp only); exact gd
    generalize w3.drew = wx at *
    refine wpAnyH_take (i := 0) (oi := _) (v := ?_) rfl (by kernel_rfl) (by kernel_rfl) (by kernel_rfl) (fun _ _ _ h => h) (Or.inl ⟨by rfl, ?_⟩) (by assumption) ?_
    rotate_left 1
    · (intro w hSw; (try dsimp only at hSw); go_simp; first | done | with_reducible rfl)
    try go_simp
    refine wpAnyH_take (i := 3) (oi := _) (v := ?_) rfl (by kernel_rfl) (by kernel_rfl) (by kernel_rfl) (fun _ _ _ h => h) (Or.inl ⟨by rfl, ?_⟩) (by assumption) ?_
    rotate_left 1
    · (intro w hSw; (try dsimp only at hSw); go_simp; first | done | with_reducible rfl)
    try go_simp
    refine wpAnyH_ready (rs := [1, 4]) (by kernel_rfl) (by simp) ?_
    refine AllReadyH.cons (o := _) rfl (fun K hK => ?_) ?_
    · clear hHeld
      have q3 := HQ.c 3 rfl
      go_simp
      first | (refine hK.out _ _ ?_ (fun hHeld => ?_)) | (go_wp2_with fail; refine hK.out _ _ ?_ (fun hHeld => ?_))
      · (try dsimp only); exact gd
      clear hK K
      clear q3

      refine wpAnyH_ready (rs := [2, 4]) (by kernel_rfl) (by simp) ?_
      refine AllReadyH.cons (o := _) rfl (fun K hK => ?_) ?_
      · clear hHeld
        go_simp
        refine (cloneI_k sA sn sc o.slots _ (SL.out.kept gd) FWL.out.1).mono ?_
        rintro e w3 ⟨v_, rfl, o_, g⟩
        obtain ⟨iA, iN, iC, rfl⟩ : ∃ A n c, v_ = .slice A n c := by
          obtain ⟨A, c, h, _⟩ := own_vals o_ (fun u hu => by obtain ⟨z, _, rfl⟩ := List.mem_map.1 hu; rfl)
          exact ⟨A, _, c, h⟩
        have OI := Lib.hid (own_base o_ HQ.lt)
        replace HQ := HQ.kept g
        replace HR := Lib.hid (HR.out.kept g)
        replace gd := gd.trans g
        clear g o_
        first | (refine hK.out _ _ ?_ (fun hHeld => ?_)) | (go_wp2_with fail; refine hK.out _ _ ?_ (fun hHeld => ?_))
        · (try dsimp only); exact gd
        clear hK K
        refine wpAnyH_ready (rs := [4]) (by kernel_rfl) (by simp) ?_
        refine AllReadyH.cons (o := _) rfl (fun K hK => ?_) ?_
        · clear hHeld
          have q4 := HQ.c 4 rfl
          go_simp
          first | (refine hK.out _ _ ?_ (fun hHeld => ?_)) | (go_wp2_with fail; refine hK.out _ _ ?_ (fun hHeld => ?_))
          · (try dsimp only); exact gd
          clear hK K
          clear q4

          refine wpAnyH_take (i := 6) (oi := _) (v := ?_) rfl (by kernel_rfl) (by kernel_rfl) (by kernel_rfl) (fun _ _ _ h => h) (Or.inl ⟨by rfl, ?_⟩) (by assumption) ?_
          rotate_left 1
          · (intro w hSw; (try dsimp only at hSw); go_simp; first | done | with_reducible rfl)
          try go_simp
          refine wpAnyH_ready (rs := [5]) (by kernel_rfl) (by simp) ?_
          refine AllReadyH.cons (o := _) rfl (fun K hK => ?_) ?_
          · clear hHeld
            go_simp
            refine (cloneS_k nA nn nc o.needs _ (ND.out.kept gd) FWL.out.2).mono ?_
            rintro e w4 ⟨v_, rfl, o_, g⟩
            obtain ⟨tA, tN, tC, rfl⟩ : ∃ A n c, v_ = .slice A n c := by
              obtain ⟨A, c, h, _⟩ := own_vals o_ (fun u hu => by obtain ⟨z, _, rfl⟩ := List.mem_map.1 hu; rfl)
              exact ⟨A, _, c, h⟩
            have OS := Lib.hid (own_base o_ HQ.lt)
            replace HQ := HQ.kept g
            replace HR := Lib.hid (HR.out.kept g)
            replace OI := Lib.hid (World.ownsRow.kept OI.out g (by cases (Value.slice iA iN iC).ownBlock with | none => exact .inl rfl | some k => exact .inr (by simp)))
            replace gd := gd.trans g
            clear g o_
            first | (refine hK.out _ _ ?_ (fun hHeld => ?_)) | (go_wp2_with fail; refine hK.out _ _ ?_ (fun hHeld => ?_))
            · (try dsimp only); exact gd
            clear hK K
            refine wpAnyH_ready (rs := [7]) (by kernel_rfl) (by simp) ?_
            refine AllReadyH.cons (o := _) rfl (fun K hK => ?_) ?_
            · clear hHeld
              have q3 := HQ.c 3 rfl
              have f3 := HQ.fz 3
              have hsz := HQ.lt
              have gl := grown_setCell w4 Q 3 (.slice iA iN iC)
              replace HQ : Row _ Q 35 #[.string ⟨vc.toArray⟩, .int .i64 vr, .int .i64 vp, .slice iA iN iC, .slice nA nn nc] := HQ.set 3 (.slice iA iN iC)
              replace HR := Lib.hid (HR.out.keptR gl (fun e => HNE.out.1 (Option.some.inj e).symm))
              replace OI := Lib.hid (World.ownsRow.kept OI.out gl (.inr (fun e => by have := (World.ownsRow.lt OI.out Q e).1; omega)))
              replace OS := Lib.hid (World.ownsRow.kept OS.out gl (.inr (fun e => by have := (World.ownsRow.lt OS.out Q e).1; omega)))
              replace gd := gd.andThen gl (by rintro j ⟨⟩; exact .inl HNE.out.2)
              go_simp
              first | (refine hK.out _ _ ?_ (fun hHeld => ?_)) | (go_wp2_with fail; refine hK.out _ _ ?_ (fun hHeld => ?_))
              · (try dsimp only); exact gd
              clear hK K
              clear q3 f3 hsz gl
              generalize w4.setCell ⟨Q, 3, none⟩ (.slice iA iN iC) = w5 at *

              refine wpAnyH_take (i := 8) (oi := _) (v := ?_) rfl (by kernel_rfl) (by kernel_rfl) (by kernel_rfl) (fun _ _ _ h => h) (Or.inl ⟨by rfl, ?_⟩) (by assumption) ?_
              rotate_left 1
              · (intro w hSw; (try dsimp only at hSw); go_simp; first | done | with_reducible rfl)
              try go_simp
              refine wpAnyH_ready (rs := [9]) (by kernel_rfl) (by simp) ?_
              refine AllReadyH.cons (o := _) rfl (fun K hK => ?_) ?_
              · clear hHeld
                have q4 := HQ.c 4 rfl
                have f4 := HQ.fz 4
                have hsz := HQ.lt
                have gl := grown_setCell w5 Q 4 (.slice tA tN tC)
                replace HQ : Row _ Q 35 #[.string ⟨vc.toArray⟩, .int .i64 vr, .int .i64 vp, .slice iA iN iC, .slice tA tN tC] := HQ.set 4 (.slice tA tN tC)
                replace HR := Lib.hid (HR.out.keptR gl (fun e => HNE.out.1 (Option.some.inj e).symm))
                replace OI := Lib.hid (World.ownsRow.kept OI.out gl (.inr (fun e => by have := (World.ownsRow.lt OI.out Q e).1; omega)))
                replace OS := Lib.hid (World.ownsRow.kept OS.out gl (.inr (fun e => by have := (World.ownsRow.lt OS.out Q e).1; omega)))
                replace gd := gd.andThen gl (by rintro j ⟨⟩; exact .inl HNE.out.2)
                go_simp
                first | (refine hK.out _ _ ?_ (fun hHeld => ?_)) | (go_wp2_with fail; refine hK.out _ _ ?_ (fun hHeld => ?_))
                · (try dsimp only); exact gd
                clear hK K
                clear q4 f4 hsz gl
                generalize w5.setCell ⟨Q, 4, none⟩ (.slice tA tN tC) = w6 at *

                refine wpAnyH_done (by kernel_rfl) ?_ _
                refine NoPanic.normal ?_
                go_simp
                have f0 := HR.out.fz 0
                have d0 := HR.out.c 0 rfl
                have q0 := HQ.c 0 rfl
                have f1 := HR.out.fz 1
                have d1 := HR.out.c 1 rfl
                have q1 := HQ.c 1 rfl
                have f2 := HR.out.fz 2
                have d2 := HR.out.c 2 rfl
                have q2 := HQ.c 2 rfl
                have f3 := HR.out.fz 3
                have d3 := HR.out.c 3 rfl
                have q3 := HQ.c 3 rfl
                have f4 := HR.out.fz 4
                have d4 := HR.out.c 4 rfl
                have q4 := HQ.c 4 rfl
                have hz1 := HR.out.lt
                have hz2 := HQ.lt
                have RS : Row _ R 35 _ := (((((HR.out.set 0 (.string ⟨vc.toArray⟩)).set 1 (.int .i64 vr)).set 2 (.int .i64 vp)).set 3 (.slice iA iN iC)).set 4 (.slice tA tN tC))
                have gl := (((((grown_setCell w6 R 0 (.string ⟨vc.toArray⟩)).trans (grown_setCell _ R 1 (.int .i64 vr))).trans (grown_setCell _ R 2 (.int .i64 vp))).trans (grown_setCell _ R 3 (.slice iA iN iC))).trans (grown_setCell _ R 4 (.slice tA tN tC)))
                have RS2 := Lib.hid RS
                have OI2 := Lib.hid (World.ownsRow.kept OI.out gl (.inr (fun e => by have := (World.ownsRow.lt OI.out R e).1; have := HRQ.out; omega)))
                have OS2 := Lib.hid (World.ownsRow.kept OS.out gl (.inr (fun e => by have := (World.ownsRow.lt OS.out R e).1; have := HRQ.out; omega)))
                have GG := Lib.hid ((G2.out.trans gd).andThen gl (by rintro j ⟨⟩; exact .inl (by rw [HE.out]; exact Nat.le_refl _)))
                have HQW : Hid (w.heap.size ≤ Q + 1) := Lib.hid (by have := HRQ.out; have := HE.out; omega)
                clear RS gl gd HR HQ
                go_wp2_with fail
                have P1 : OwnI _ w.heap.size (.slice iA iN iC) o.slots := own_base OI2.out HQW.out
                have P2 : OwnS _ w.heap.size (.slice tA tN tC) o.needs := own_base OS2.out HQW.out
                have N1 := own_len P1
                have N2 := own_len P2
                exact bodyPost_ret (v := .tuple #[.agg #[.string ⟨vc.toArray⟩, .int .i64 vr, .int .i64 vp, .slice iA iN iC, .slice tA tN tC], .bool true]) (by simp [results, Try.results20, go_sem, RS2.out.c 0 rfl, RS2.out.c 1 rfl, RS2.out.c 2 rfl, RS2.out.c 3 rfl, RS2.out.c 4 rfl]) rfl
                  ⟨⟨vc, vr, vp, iA, iN, iC, tA, tN, tC⟩, true, rfl, GG.out, .inr ⟨o, rfl, HF.out, ⟨HCO.out, HCR.out, HPL.out, HOK.out, ⟨vals_own P1 N1 (fun v hv => by obtain ⟨x, _, rfl⟩ := List.mem_map.1 hv; rfl), SL.out.ok⟩, ⟨vals_own P2 N2 (fun v hv => by obtain ⟨x, _, rfl⟩ := List.mem_map.1 hv; rfl), ND.out.ok⟩, FW.out⟩, P1, P2⟩⟩
              exact AllReadyH.nil
            exact AllReadyH.nil
          exact AllReadyH.nil
        exact AllReadyH.nil
      refine AllReadyH.cons (o := _) rfl (fun K hK => ?_) ?_
      · clear hHeld
        have q4 := HQ.c 4 rfl
        go_simp
        first | (refine hK.out _ _ ?_ (fun hHeld => ?_)) | (go_wp2_with fail; refine hK.out _ _ ?_ (fun hHeld => ?_))
        · (try dsimp only); exact gd
        clear hK K
        clear q4

        refine wpAnyH_ready (rs := [2]) (by kernel_rfl) (by simp) ?_
        refine AllReadyH.cons (o := _) rfl (fun K hK => ?_) ?_
        · clear hHeld
          go_simp
          refine (cloneI_k sA sn sc o.slots _ (SL.out.kept gd) FWL.out.1).mono ?_
          rintro e w3 ⟨v_, rfl, o_, g⟩
          obtain ⟨iA, iN, iC, rfl⟩ : ∃ A n c, v_ = .slice A n c := by
            obtain ⟨A, c, h, _⟩ := own_vals o_ (fun u hu => by obtain ⟨z, _, rfl⟩ := List.mem_map.1 hu; rfl)
            exact ⟨A, _, c, h⟩
          have OI := Lib.hid (own_base o_ HQ.lt)
          replace HQ := HQ.kept g
          replace HR := Lib.hid (HR.out.kept g)
          replace gd := gd.trans g
          clear g o_
          first | (refine hK.out _ _ ?_ (fun hHeld => ?_)) | (go_wp2_with fail; refine hK.out _ _ ?_ (fun hHeld => ?_))
          · (try dsimp only); exact gd
          clear hK K
          refine wpAnyH_take (i := 6) (oi := _) (v := ?_) rfl (by kernel_rfl) (by kernel_rfl) (by kernel_rfl) (fun _ _ _ h => h) (Or.inl ⟨by rfl, ?_⟩) (by assumption) ?_
          rotate_left 1
          · (intro w hSw; (try dsimp only at hSw); go_simp; first | done | with_reducible rfl)
          try go_simp
          refine wpAnyH_ready (rs := [5]) (by kernel_rfl) (by simp) ?_
          refine AllReadyH.cons (o := _) rfl (fun K hK => ?_) ?_
          · clear hHeld
            go_simp
            refine (cloneS_k nA nn nc o.needs _ (ND.out.kept gd) FWL.out.2).mono ?_
            rintro e w4 ⟨v_, rfl, o_, g⟩
            obtain ⟨tA, tN, tC, rfl⟩ : ∃ A n c, v_ = .slice A n c := by
              obtain ⟨A, c, h, _⟩ := own_vals o_ (fun u hu => by obtain ⟨z, _, rfl⟩ := List.mem_map.1 hu; rfl)
              exact ⟨A, _, c, h⟩
            have OS := Lib.hid (own_base o_ HQ.lt)
            replace HQ := HQ.kept g
            replace HR := Lib.hid (HR.out.kept g)
            replace OI := Lib.hid (World.ownsRow.kept OI.out g (by cases (Value.slice iA iN iC).ownBlock with | none => exact .inl rfl | some k => exact .inr (by simp)))
            replace gd := gd.trans g
            clear g o_
            first | (refine hK.out _ _ ?_ (fun hHeld => ?_)) | (go_wp2_with fail; refine hK.out _ _ ?_ (fun hHeld => ?_))
            · (try dsimp only); exact gd
            clear hK K
            refine wpAnyH_ready (rs := [7]) (by kernel_rfl) (by simp) ?_
            refine AllReadyH.cons (o := _) rfl (fun K hK => ?_) ?_
            · clear hHeld
              have q3 := HQ.c 3 rfl
              have f3 := HQ.fz 3
              have hsz := HQ.lt
              have gl := grown_setCell w4 Q 3 (.slice iA iN iC)
              replace HQ : Row _ Q 35 #[.string ⟨vc.toArray⟩, .int .i64 vr, .int .i64 vp, .slice iA iN iC, .slice nA nn nc] := HQ.set 3 (.slice iA iN iC)
              replace HR := Lib.hid (HR.out.keptR gl (fun e => HNE.out.1 (Option.some.inj e).symm))
              replace OI := Lib.hid (World.ownsRow.kept OI.out gl (.inr (fun e => by have := (World.ownsRow.lt OI.out Q e).1; omega)))
              replace OS := Lib.hid (World.ownsRow.kept OS.out gl (.inr (fun e => by have := (World.ownsRow.lt OS.out Q e).1; omega)))
              replace gd := gd.andThen gl (by rintro j ⟨⟩; exact .inl HNE.out.2)
              go_simp
              first | (refine hK.out _ _ ?_ (fun hHeld => ?_)) | (go_wp2_with fail; refine hK.out _ _ ?_ (fun hHeld => ?_))
              · (try dsimp only); exact gd
              clear hK K
              clear q3 f3 hsz gl
              generalize w4.setCell ⟨Q, 3, none⟩ (.slice iA iN iC) = w5 at *

              refine wpAnyH_take (i := 8) (oi := _) (v := ?_) rfl (by kernel_rfl) (by kernel_rfl) (by kernel_rfl) (fun _ _ _ h => h) (Or.inl ⟨by rfl, ?_⟩) (by assumption) ?_
              rotate_left 1
              · (intro w hSw; (try dsimp only at hSw); go_simp; first | done | with_reducible rfl)
              try go_simp
              refine wpAnyH_ready (rs := [9]) (by kernel_rfl) (by simp) ?_
              refine AllReadyH.cons (o := _) rfl (fun K hK => ?_) ?_
              · clear hHeld
                have q4 := HQ.c 4 rfl
                have f4 := HQ.fz 4
                have hsz := HQ.lt
                have gl := grown_setCell w5 Q 4 (.slice tA tN tC)
                replace HQ : Row _ Q 35 #[.string ⟨vc.toArray⟩, .int .i64 vr, .int .i64 vp, .slice iA iN iC, .slice tA tN tC] := HQ.set 4 (.slice tA tN tC)
                replace HR := Lib.hid (HR.out.keptR gl (fun e => HNE.out.1 (Option.some.inj e).symm))
                replace OI := Lib.hid (World.ownsRow.kept OI.out gl (.inr (fun e => by have := (World.ownsRow.lt OI.out Q e).1; omega)))
                replace OS := Lib.hid (World.ownsRow.kept OS.out gl (.inr (fun e => by have := (World.ownsRow.lt OS.out Q e).1; omega)))
                replace gd := gd.andThen gl (by rintro j ⟨⟩; exact .inl HNE.out.2)
                go_simp
                first | (refine hK.out _ _ ?_ (fun hHeld => ?_)) | (go_wp2_with fail; refine hK.out _ _ ?_ (fun hHeld => ?_))
                · (try dsimp only); exact gd
                clear hK K
                clear q4 f4 hsz gl
                generalize w5.setCell ⟨Q, 4, none⟩ (.slice tA tN tC) = w6 at *

                refine wpAnyH_done (by kernel_rfl) ?_ _
                refine NoPanic.normal ?_
                go_simp
                have f0 := HR.out.fz 0
                have d0 := HR.out.c 0 rfl
                have q0 := HQ.c 0 rfl
                have f1 := HR.out.fz 1
                have d1 := HR.out.c 1 rfl
                have q1 := HQ.c 1 rfl
                have f2 := HR.out.fz 2
                have d2 := HR.out.c 2 rfl
                have q2 := HQ.c 2 rfl
                have f3 := HR.out.fz 3
                have d3 := HR.out.c 3 rfl
                have q3 := HQ.c 3 rfl
                have f4 := HR.out.fz 4
                have d4 := HR.out.c 4 rfl
                have q4 := HQ.c 4 rfl
                have hz1 := HR.out.lt
                have hz2 := HQ.lt
                have RS : Row _ R 35 _ := (((((HR.out.set 0 (.string ⟨vc.toArray⟩)).set 1 (.int .i64 vr)).set 2 (.int .i64 vp)).set 3 (.slice iA iN iC)).set 4 (.slice tA tN tC))
                have gl := (((((grown_setCell w6 R 0 (.string ⟨vc.toArray⟩)).trans (grown_setCell _ R 1 (.int .i64 vr))).trans (grown_setCell _ R 2 (.int .i64 vp))).trans (grown_setCell _ R 3 (.slice iA iN iC))).trans (grown_setCell _ R 4 (.slice tA tN tC)))
                have RS2 := Lib.hid RS
                have OI2 := Lib.hid (World.ownsRow.kept OI.out gl (.inr (fun e => by have := (World.ownsRow.lt OI.out R e).1; have := HRQ.out; omega)))
                have OS2 := Lib.hid (World.ownsRow.kept OS.out gl (.inr (fun e => by have := (World.ownsRow.lt OS.out R e).1; have := HRQ.out; omega)))
                have GG := Lib.hid ((G2.out.trans gd).andThen gl (by rintro j ⟨⟩; exact .inl (by rw [HE.out]; exact Nat.le_refl _)))
                have HQW : Hid (w.heap.size ≤ Q + 1) := Lib.hid (by have := HRQ.out; have := HE.out; omega)
                clear RS gl gd HR HQ
                go_wp2_with fail
                have P1 : OwnI _ w.heap.size (.slice iA iN iC) o.slots := own_base OI2.out HQW.out
                have P2 : OwnS _ w.heap.size (.slice tA tN tC) o.needs := own_base OS2.out HQW.out
                have N1 := own_len P1
                have N2 := own_len P2
                exact bodyPost_ret (v := .tuple #[.agg #[.string ⟨vc.toArray⟩, .int .i64 vr, .int .i64 vp, .slice iA iN iC, .slice tA tN tC], .bool true]) (by simp [results, Try.results20, go_sem, RS2.out.c 0 rfl, RS2.out.c 1 rfl, RS2.out.c 2 rfl, RS2.out.c 3 rfl, RS2.out.c 4 rfl]) rfl
                  ⟨⟨vc, vr, vp, iA, iN, iC, tA, tN, tC⟩, true, rfl, GG.out, .inr ⟨o, rfl, HF.out, ⟨HCO.out, HCR.out, HPL.out, HOK.out, ⟨vals_own P1 N1 (fun v hv => by obtain ⟨x, _, rfl⟩ := List.mem_map.1 hv; rfl), SL.out.ok⟩, ⟨vals_own P2 N2 (fun v hv => by obtain ⟨x, _, rfl⟩ := List.mem_map.1 hv; rfl), ND.out.ok⟩, FW.out⟩, P1, P2⟩⟩
              exact AllReadyH.nil
            exact AllReadyH.nil
          exact AllReadyH.nil
        exact AllReadyH.nil
      exact AllReadyH.nil
    refine AllReadyH.cons (o := _) rfl (fun K hK => ?_) ?_
    · clear hHeld
      have q4 := HQ.c 4 rfl
      go_simp
      first | (refine hK.out _ _ ?_ (fun hHeld => ?_)) | (go_wp2_with fail; refine hK.out _ _ ?_ (fun hHeld => ?_))
      · (try dsimp only); exact gd
      clear hK K
      clear q4

      refine wpAnyH_ready (rs := [1]) (by kernel_rfl) (by simp) ?_
      refine AllReadyH.cons (o := _) rfl (fun K hK => ?_) ?_
      · clear hHeld
        have q3 := HQ.c 3 rfl
        go_simp
        first | (refine hK.out _ _ ?_ (fun hHeld => ?_)) | (go_wp2_with fail; refine hK.out _ _ ?_ (fun hHeld => ?_))
        · (try dsimp only); exact gd
        clear hK K
        clear q3

        refine wpAnyH_ready (rs := [2]) (by kernel_rfl) (by simp) ?_
        refine AllReadyH.cons (o := _) rfl (fun K hK => ?_) ?_
        · clear hHeld
          go_simp
          refine (cloneI_k sA sn sc o.slots _ (SL.out.kept gd) FWL.out.1).mono ?_
          rintro e w3 ⟨v_, rfl, o_, g⟩
          obtain ⟨iA, iN, iC, rfl⟩ : ∃ A n c, v_ = .slice A n c := by
            obtain ⟨A, c, h, _⟩ := own_vals o_ (fun u hu => by obtain ⟨z, _, rfl⟩ := List.mem_map.1 hu; rfl)
            exact ⟨A, _, c, h⟩
          have OI := Lib.hid (own_base o_ HQ.lt)
          replace HQ := HQ.kept g
          replace HR := Lib.hid (HR.out.kept g)
          replace gd := gd.trans g
          clear g o_
          first | (refine hK.out _ _ ?_ (fun hHeld => ?_)) | (go_wp2_with fail; refine hK.out _ _ ?_ (fun hHeld => ?_))
          · (try dsimp only); exact gd
          clear hK K
          refine wpAnyH_take (i := 6) (oi := _) (v := ?_) rfl (by kernel_rfl) (by kernel_rfl) (by kernel_rfl) (fun _ _ _ h => h) (Or.inl ⟨by rfl, ?_⟩) (by assumption) ?_
          rotate_left 1
          · (intro w hSw; (try dsimp only at hSw); go_simp; first | done | with_reducible rfl)
          try go_simp
          refine wpAnyH_ready (rs := [5]) (by kernel_rfl) (by simp) ?_
          refine AllReadyH.cons (o := _) rfl (fun K hK => ?_) ?_
          · clear hHeld
            go_simp
            refine (cloneS_k nA nn nc o.needs _ (ND.out.kept gd) FWL.out.2).mono ?_
            rintro e w4 ⟨v_, rfl, o_, g⟩
            obtain ⟨tA, tN, tC, rfl⟩ : ∃ A n c, v_ = .slice A n c := by
              obtain ⟨A, c, h, _⟩ := own_vals o_ (fun u hu => by obtain ⟨z, _, rfl⟩ := List.mem_map.1 hu; rfl)
              exact ⟨A, _, c, h⟩
            have OS := Lib.hid (own_base o_ HQ.lt)
            replace HQ := HQ.kept g
            replace HR := Lib.hid (HR.out.kept g)
            replace OI := Lib.hid (World.ownsRow.kept OI.out g (by cases (Value.slice iA iN iC).ownBlock with | none => exact .inl rfl | some k => exact .inr (by simp)))
            replace gd := gd.trans g
            clear g o_
            first | (refine hK.out _ _ ?_ (fun hHeld => ?_)) | (go_wp2_with fail; refine hK.out _ _ ?_ (fun hHeld => ?_))
            · (try dsimp only); exact gd
            clear hK K
            refine wpAnyH_ready (rs := [7]) (by kernel_rfl) (by simp) ?_
            refine AllReadyH.cons (o := _) rfl (fun K hK => ?_) ?_
            · clear hHeld
              have q3 := HQ.c 3 rfl
              have f3 := HQ.fz 3
              have hsz := HQ.lt
              have gl := grown_setCell w4 Q 3 (.slice iA iN iC)
              replace HQ : Row _ Q 35 #[.string ⟨vc.toArray⟩, .int .i64 vr, .int .i64 vp, .slice iA iN iC, .slice nA nn nc] := HQ.set 3 (.slice iA iN iC)
              replace HR := Lib.hid (HR.out.keptR gl (fun e => HNE.out.1 (Option.some.inj e).symm))
              replace OI := Lib.hid (World.ownsRow.kept OI.out gl (.inr (fun e => by have := (World.ownsRow.lt OI.out Q e).1; omega)))
              replace OS := Lib.hid (World.ownsRow.kept OS.out gl (.inr (fun e => by have := (World.ownsRow.lt OS.out Q e).1; omega)))
              replace gd := gd.andThen gl (by rintro j ⟨⟩; exact .inl HNE.out.2)
              go_simp
              first | (refine hK.out _ _ ?_ (fun hHeld => ?_)) | (go_wp2_with fail; refine hK.out _ _ ?_ (fun hHeld => ?_))
              · (try dsimp only); exact gd
              clear hK K
              clear q3 f3 hsz gl
              generalize w4.setCell ⟨Q, 3, none⟩ (.slice iA iN iC) = w5 at *

              refine wpAnyH_take (i := 8) (oi := _) (v := ?_) rfl (by kernel_rfl) (by kernel_rfl) (by kernel_rfl) (fun _ _ _ h => h) (Or.inl ⟨by rfl, ?_⟩) (by assumption) ?_
              rotate_left 1
              · (intro w hSw; (try dsimp only at hSw); go_simp; first | done | with_reducible rfl)
              try go_simp
              refine wpAnyH_ready (rs := [9]) (by kernel_rfl) (by simp) ?_
              refine AllReadyH.cons (o := _) rfl (fun K hK => ?_) ?_
              · clear hHeld
                have q4 := HQ.c 4 rfl
                have f4 := HQ.fz 4
                have hsz := HQ.lt
                have gl := grown_setCell w5 Q 4 (.slice tA tN tC)
                replace HQ : Row _ Q 35 #[.string ⟨vc.toArray⟩, .int .i64 vr, .int .i64 vp, .slice iA iN iC, .slice tA tN tC] := HQ.set 4 (.slice tA tN tC)
                replace HR := Lib.hid (HR.out.keptR gl (fun e => HNE.out.1 (Option.some.inj e).symm))
                replace OI := Lib.hid (World.ownsRow.kept OI.out gl (.inr (fun e => by have := (World.ownsRow.lt OI.out Q e).1; omega)))
                replace OS := Lib.hid (World.ownsRow.kept OS.out gl (.inr (fun e => by have := (World.ownsRow.lt OS.out Q e).1; omega)))
                replace gd := gd.andThen gl (by rintro j ⟨⟩; exact .inl HNE.out.2)
                go_simp
                first | (refine hK.out _ _ ?_ (fun hHeld => ?_)) | (go_wp2_with fail; refine hK.out _ _ ?_ (fun hHeld => ?_))
                · (try dsimp only); exact gd
                clear hK K
                clear q4 f4 hsz gl
                generalize w5.setCell ⟨Q, 4, none⟩ (.slice tA tN tC) = w6 at *

                refine wpAnyH_done (by kernel_rfl) ?_ _
                refine NoPanic.normal ?_
                go_simp
                have f0 := HR.out.fz 0
                have d0 := HR.out.c 0 rfl
                have q0 := HQ.c 0 rfl
                have f1 := HR.out.fz 1
                have d1 := HR.out.c 1 rfl
                have q1 := HQ.c 1 rfl
                have f2 := HR.out.fz 2
                have d2 := HR.out.c 2 rfl
                have q2 := HQ.c 2 rfl
                have f3 := HR.out.fz 3
                have d3 := HR.out.c 3 rfl
                have q3 := HQ.c 3 rfl
                have f4 := HR.out.fz 4
                have d4 := HR.out.c 4 rfl
                have q4 := HQ.c 4 rfl
                have hz1 := HR.out.lt
                have hz2 := HQ.lt
                have RS : Row _ R 35 _ := (((((HR.out.set 0 (.string ⟨vc.toArray⟩)).set 1 (.int .i64 vr)).set 2 (.int .i64 vp)).set 3 (.slice iA iN iC)).set 4 (.slice tA tN tC))
                have gl := (((((grown_setCell w6 R 0 (.string ⟨vc.toArray⟩)).trans (grown_setCell _ R 1 (.int .i64 vr))).trans (grown_setCell _ R 2 (.int .i64 vp))).trans (grown_setCell _ R 3 (.slice iA iN iC))).trans (grown_setCell _ R 4 (.slice tA tN tC)))
                have RS2 := Lib.hid RS
                have OI2 := Lib.hid (World.ownsRow.kept OI.out gl (.inr (fun e => by have := (World.ownsRow.lt OI.out R e).1; have := HRQ.out; omega)))
                have OS2 := Lib.hid (World.ownsRow.kept OS.out gl (.inr (fun e => by have := (World.ownsRow.lt OS.out R e).1; have := HRQ.out; omega)))
                have GG := Lib.hid ((G2.out.trans gd).andThen gl (by rintro j ⟨⟩; exact .inl (by rw [HE.out]; exact Nat.le_refl _)))
                have HQW : Hid (w.heap.size ≤ Q + 1) := Lib.hid (by have := HRQ.out; have := HE.out; omega)
                clear RS gl gd HR HQ
                go_wp2_with fail
                have P1 : OwnI _ w.heap.size (.slice iA iN iC) o.slots := own_base OI2.out HQW.out
                have P2 : OwnS _ w.heap.size (.slice tA tN tC) o.needs := own_base OS2.out HQW.out
                have N1 := own_len P1
                have N2 := own_len P2
                exact bodyPost_ret (v := .tuple #[.agg #[.string ⟨vc.toArray⟩, .int .i64 vr, .int .i64 vp, .slice iA iN iC, .slice tA tN tC], .bool true]) (by simp [results, Try.results20, go_sem, RS2.out.c 0 rfl, RS2.out.c 1 rfl, RS2.out.c 2 rfl, RS2.out.c 3 rfl, RS2.out.c 4 rfl]) rfl
                  ⟨⟨vc, vr, vp, iA, iN, iC, tA, tN, tC⟩, true, rfl, GG.out, .inr ⟨o, rfl, HF.out, ⟨HCO.out, HCR.out, HPL.out, HOK.out, ⟨vals_own P1 N1 (fun v hv => by obtain ⟨x, _, rfl⟩ := List.mem_map.1 hv; rfl), SL.out.ok⟩, ⟨vals_own P2 N2 (fun v hv => by obtain ⟨x, _, rfl⟩ := List.mem_map.1 hv; rfl), ND.out.ok⟩, FW.out⟩, P1, P2⟩⟩
              exact AllReadyH.nil
            exact AllReadyH.nil
          exact AllReadyH.nil
        exact AllReadyH.nil
      exact AllReadyH.nil
    exact AllReadyH.nil
end Go.Proofs.Ytnkemoicgadefaa
