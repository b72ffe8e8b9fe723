/-
  The reference's Copy.
-/
import Derived.Test.YtnkemoicgadefaaRfa
namespace Go.Proofs.Ytnkemoicgadefaa
open Go.RowKit
attribute [local go_sem] get_mk extract_mk
theorem vals_own {w : World} {b e sz n m c : Nat} {A : Option Addr} {vs : List Value} (h : w.ownsRow b e sz (.slice A n c) m vs) (hm : n = m) (h1 : ∀ v ∈ vs, v.oneCell' = true) : Vals w A n c sz vs := by
  obtain ⟨A', c', e', hv, _⟩ := own_vals h h1
  injection e' with e1 e2 e3
  subst e1 e2 e3
  exact hv
set_option maxRecDepth 100000 in
set_option maxHeartbeats 2000000 in
theorem copy_r (v : V) (o : O) (w : World) (h : VIs w v o) :
    Calls Try.prog 36 #[.agg v.cells] w fun e w' => ∃ v' : V, e = .returned (.agg v'.cells) ∧ VIs w' v' o ∧ OwnI w' w.heap.size (.slice v'.sA v'.sn v'.sc) o.slots ∧ OwnS w' w.heap.size (.slice v'.nA v'.nn v'.nc) o.needs ∧ w.grownBy w' none := by
  obtain ⟨vc, vr, vp, sA, sn, sc, nA, nn, nc⟩ := v
  have HS := Lib.hid h.slots
  have HN := Lib.hid h.needs
  have FEW := Lib.hid h.few
  have LS := Lib.hid h.slots.len
  have LN := Lib.hid h.needs.len
  have HC := Lib.hid h.code
  have HSI := Lib.hid h.slots.ok
  have HNI := Lib.hid h.needs.ok
  have HCR := Lib.hid h.cr
  have HPL := Lib.hid h.pl
  have HOK := Lib.hid h.ok
  unfold V.cells
  dsimp only at HS HN LS LN HC HCR HPL ⊢
  clear h
  obtain ⟨w1, e1, HP, g1⟩ := row_of w 35 #[.string ⟨vc.toArray⟩, .int .i64 vr, .int .i64 vp, .slice sA sn sc, .slice nA nn nc]
  obtain ⟨w2, e2, HR, g2⟩ := row_of w1 35 #[.string ⟨#[]⟩, .int .i64 0, .int .i64 0, .slice none 0 0, .slice none 0 0]
  have s1 : w1.heap.size = w.heap.size + 1 := by rw [e1]; simp
  rw [s1] at HR
  replace HP := Lib.hid (HP.kept g2)
  replace HR := Lib.hid HR
  have G := Lib.hid (g1.trans g2)
  have E1 := Lib.hid e1
  have E2 := Lib.hid e2
  clear e1 e2 g1 g2 s1
  go_enter Try.func36, Try.ntmps36
  go_upto_region 1 with fail
  rw [← E1.out, ← E2.out]
  clear E1 E2
  have HNE : Hid (w.heap.size + 1 ≠ w.heap.size ∧ w.heap.size ≤ w.heap.size) := Lib.hid ⟨by omega, Nat.le_refl _⟩
  have HRR : Hid (w.heap.size ≤ w.heap.size + 1) := Lib.hid (Nat.le_succ w.heap.size)
  generalize w.heap.size + 1 = R at *
  obtain ⟨P, hP⟩ : ∃ P, P = w.heap.size := ⟨_, rfl⟩
  rw [← hP] at HP ⊢
  replace HNE : Hid (R ≠ P ∧ w.heap.size ≤ P) := Lib.hid ⟨by rw [hP]; exact HNE.out.1, by rw [hP]; exact Nat.le_refl _⟩
  have HPE := Lib.hid hP
  have HRL : Hid (w.heap.size ≤ R) := Lib.hid HRR.out
  clear hP HRR
  have ga := World.grownBy_alloc w2 (.cells #[] 3) none
  have HM : Hid ((w2.alloc (.cells #[] 3)).ownsRow w2.heap.size 3 1 (.slice (some ⟨w2.heap.size, 0, none⟩) 0 0) 0 []) := Lib.hid (World.ownsRow_made (base := w2.heap.size) (e := 3) (size := 1) w2 #[] 0 (Nat.le_refl _) (by decide) rfl)
  have HV := Lib.hid (HS.out.v.kept (G.out.trans ga))
  have k3 := (HP.out.kept ga).c 3 rfl
  have hbase : w2.heap.size ≤ (w2.alloc (.cells #[] 3)).heap.size := by simp
  have hzp := HP.out.lt
  have hzr := HR.out.lt
  replace ga := Lib.hid ga
  go_upto_region 2 with (at_builtin; first
    | (refine wpList_append_vals elt3 rfl (.tmp 3) (.tmp 5) rfl w2.heap.size _ 0 [] rfl HM.out sA sn sc _ rfl HV.out (by have := FEW.out; have := LS.out; omega) hbase ?_
       intro v3 w8 ho hg hb hv
       have G8 := ga.out.andThen hg (fun r e => .inl (by have e : some w2.heap.size = some r := e; injection e with e; omega))
       obtain ⟨A3, c3_, rfl, V3, hA3⟩ := own_vals ho (fun u hu => by
         rw [List.nil_append] at hu
         obtain ⟨z, _, rfl⟩ := List.mem_map.1 hu; rfl)
       have r3 := HP.out.kept G8
       have c3 := r3.c 3 rfl
       have f3 := r3.fz 3
       have hz9 := r3.lt
       replace V3 := Lib.hid V3
       replace hA3 := Lib.hid hA3
       replace ho := Lib.hid ho
       replace G8 := Lib.hid G8
       clear hg hb hv r3))
  have gl := grown_setCell w8 P 3 (.slice A3 sn c3_)
  have RPn : Hid (Row _ P 35 #[.string ⟨vc.toArray⟩, .int .i64 vr, .int .i64 vp, .slice A3 sn c3_, .slice nA nn nc]) := Lib.hid ((HP.out.kept G8.out).set 3 (.slice A3 sn c3_))
  have RRn := Lib.hid ((HR.out.kept G8.out).keptR gl (fun e => by injection e with e; exact HNE.out.1 e))
  have Gn := Lib.hid ((G.out.trans G8.out).andThen gl (by rintro j ⟨⟩; exact .inl HNE.out.2))
  have HOI : Hid (OwnI (w8.setCell ⟨P, 3, none⟩ (.slice A3 sn c3_)) (R + 1) (.slice A3 sn c3_) o.slots) := Lib.hid (by
    have h1 := World.ownsRow.kept ho.out gl (.inr (fun e => by have := (World.ownsRow.lt ho.out P e).1; omega))
    unfold OwnI
    rw [← LS.out]
    exact own_base (by simpa using h1) hzr)
  clear gl HM HV k3 hbase hzp hzr ga c3 f3 hz9 V3 hA3 ho G8 HP HR G
  generalize w8.setCell ⟨P, 3, none⟩ (.slice A3 sn c3_) = w3 at *
  have HP := RPn
  have HR := RRn
  have G := Gn
  clear RPn RRn Gn
  have ga := World.grownBy_alloc w3 (.cells #[] 9) none
  have HM : Hid ((w3.alloc (.cells #[] 9)).ownsRow w3.heap.size 9 1 (.slice (some ⟨w3.heap.size, 0, none⟩) 0 0) 0 []) := Lib.hid (World.ownsRow_made (base := w3.heap.size) (e := 9) (size := 1) w3 #[] 0 (Nat.le_refl _) (by decide) rfl)
  have HV := Lib.hid (HN.out.v.kept (G.out.trans ga))
  have k3 := (HP.out.kept ga).c 4 rfl
  have hbase : w3.heap.size ≤ (w3.alloc (.cells #[] 9)).heap.size := by simp
  have hzp := HP.out.lt
  have hzr := HR.out.lt
  replace ga := Lib.hid ga
  go_upto_region 3 with (at_builtin; first
    | (refine wpList_append_vals elt9 rfl (.tmp 8) (.tmp 10) rfl w3.heap.size _ 0 [] rfl HM.out nA nn nc _ rfl HV.out (by have := FEW.out; have := LN.out; omega) hbase ?_
       intro v3 w8 ho hg hb hv
       have G8 := ga.out.andThen hg (fun r e => .inl (by have e : some w3.heap.size = some r := e; injection e with e; omega))
       obtain ⟨A4, c4_, rfl, V3, hA3⟩ := own_vals ho (fun u hu => by
         rw [List.nil_append] at hu
         obtain ⟨z, _, rfl⟩ := List.mem_map.1 hu; rfl)
       have r3 := HP.out.kept G8
       have c3 := r3.c 4 rfl
       have f3 := r3.fz 4
       have hz9 := r3.lt
       replace V3 := Lib.hid V3
       replace hA3 := Lib.hid hA3
       replace ho := Lib.hid ho
       replace G8 := Lib.hid G8
       clear hg hb hv r3))
  have gl := grown_setCell w8 P 4 (.slice A4 nn c4_)
  have RPn : Hid (Row _ P 35 #[.string ⟨vc.toArray⟩, .int .i64 vr, .int .i64 vp, .slice A3 sn c3_, .slice A4 nn c4_]) := Lib.hid ((HP.out.kept G8.out).set 4 (.slice A4 nn c4_))
  have RRn := Lib.hid ((HR.out.kept G8.out).keptR gl (fun e => by injection e with e; exact HNE.out.1 e))
  have Gn := Lib.hid ((G.out.trans G8.out).andThen gl (by rintro j ⟨⟩; exact .inl HNE.out.2))
  have HOS : Hid (OwnS (w8.setCell ⟨P, 4, none⟩ (.slice A4 nn c4_)) (R + 1) (.slice A4 nn c4_) o.needs) := Lib.hid (by
    have h1 := World.ownsRow.kept ho.out gl (.inr (fun e => by have := (World.ownsRow.lt ho.out P e).1; omega))
    unfold OwnS
    rw [← LN.out]
    exact own_base (by simpa using h1) hzr)
  have HOI2 := Lib.hid (World.ownsRow.kept (World.ownsRow.kept HOI.out G8.out (by cases (Value.slice A3 sn c3_).ownBlock with | none => exact .inl rfl | some k => exact .inr (by simp))) gl (.inr (fun e => by have := (World.ownsRow.lt HOI.out P e).1; have := HRL.out; have := HPE.out; omega)))
  clear gl HM HV k3 hbase hzp hzr ga c3 f3 hz9 V3 hA3 ho G8 HP HR G HOI HS HN
  generalize w8.setCell ⟨P, 4, none⟩ (.slice A4 nn c4_) = w5 at *
  have c0 := RPn.out.c 0 rfl
  have c1 := RPn.out.c 1 rfl
  have c2 := RPn.out.c 2 rfl
  have c3 := RPn.out.c 3 rfl
  have c4 := RPn.out.c 4 rfl
  have f0 := RRn.out.fz 0
  have f1 := RRn.out.fz 1
  have f2 := RRn.out.fz 2
  have f3 := RRn.out.fz 3
  have f4 := RRn.out.fz 4
  have d0 := RRn.out.c 0 rfl
  have d1 := RRn.out.c 1 rfl
  have d2 := RRn.out.c 2 rfl
  have d3 := RRn.out.c 3 rfl
  have d4 := RRn.out.c 4 rfl
  have hlt1 := RPn.out.lt
  have hlt2 := RRn.out.lt
  have RS : Row _ R 35 _ := ((((RRn.out.set 0 (.string ⟨vc.toArray⟩)).set 1 (.int .i64 vr)).set 2 (.int .i64 vp)).set 3 (.slice A3 sn c3_)).set 4 (.slice A4 nn c4_)
  have gl := (((((grown_setCell w5 R 0 (.string ⟨vc.toArray⟩)).trans (grown_setCell _ R 1 (.int .i64 vr))).trans (grown_setCell _ R 2 (.int .i64 vp))).trans (grown_setCell _ R 3 (.slice A3 sn c3_))).trans (grown_setCell _ R 4 (.slice A4 nn c4_)))
  have OI := Lib.hid (World.ownsRow.kept HOI2.out gl (.inr (fun e => by have := (World.ownsRow.lt HOI2.out R e).1; omega)))
  have OS := Lib.hid (World.ownsRow.kept HOS.out gl (.inr (fun e => by have := (World.ownsRow.lt HOS.out R e).1; omega)))
  have GG := Lib.hid (Gn.out.andThen gl (by rintro j ⟨⟩; exact .inl HRL.out))
  have RS2 := Lib.hid RS
  clear RS gl
  go_upto_region 3 with fail
  go_wp2_with fail
  have OI2 : OwnI _ w.heap.size (.slice A3 sn c3_) o.slots := own_base OI.out (by have := HRL.out; omega)
  have OS2 : OwnS _ w.heap.size (.slice A4 nn c4_) o.needs := own_base OS.out (by have := HRL.out; omega)
  have II := vals_own OI2 LS.out (fun v hv => by obtain ⟨x, _, rfl⟩ := List.mem_map.1 hv; rfl)
  have IS := vals_own OS2 LN.out (fun v hv => by obtain ⟨x, _, rfl⟩ := List.mem_map.1 hv; rfl)
  exact bodyPost_ret (v := .agg #[.string ⟨vc.toArray⟩, .int .i64 vr, .int .i64 vp, .slice A3 sn c3_, .slice A4 nn c4_]) (by simp [results, Try.results36, go_sem, RS2.out.c 0 rfl, RS2.out.c 1 rfl, RS2.out.c 2 rfl, RS2.out.c 3 rfl, RS2.out.c 4 rfl]) rfl
    ⟨⟨vc, vr, vp, A3, sn, c3_, A4, nn, c4_⟩, rfl, ⟨HC.out, HCR.out, HPL.out, HOK.out, ⟨II, HSI.out⟩, ⟨IS, HNI.out⟩, FEW.out⟩, OI2, OS2, GG.out⟩
end Go.Proofs.Ytnkemoicgadefaa
