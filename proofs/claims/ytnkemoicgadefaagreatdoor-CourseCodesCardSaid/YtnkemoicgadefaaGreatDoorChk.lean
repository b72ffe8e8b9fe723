/-
  course.Check.
-/
import Derived.Test.YtnkemoicgadefaaGreatDoorCir
namespace Go.Proofs.YtnkemoicgadefaaGreatDoor
open Go.RowKit
attribute [local go_sem] get_mk extract_mk
theorem closed_dir {l : List O} (h : firstV [] l = 0) : ((dirV l).all fun p => goodP (dirV l) p.2) = closedB l := by
  have hn := inc_nodup (first_inc l [] h).2
  have hg : ∀ ns, goodP (dirV l) ns = ns.all fun n => (fnd l n).isSome := fun ns => by
    unfold goodP
    congr 1
    funext s
    rw [dir_lookup, Option.isSome_map]
  rw [Bool.eq_iff_iff]
  unfold closedB
  rw [List.all_eq_true, List.all_eq_true]
  constructor
  · intro H o ho
    have h1 : (dirV l).lookup o.code = some o.needs := by rw [dir_lookup, fnd_self hn o ho]; rfl
    rw [lk_lookup] at h1
    have := H _ (mem_of_lk h1)
    rw [hg] at this
    exact this
  · intro H p hp
    have h1 := mem_lookup (dir_nodup l) hp
    rw [dir_lookup] at h1
    obtain ⟨o, ho, e⟩ := Option.map_eq_some_iff.1 h1
    rw [hg, ← e]
    exact H o (fnd_mem ho).1
theorem circ_dir (l : List O) : (∃ x, Leads (nx l) x x) ↔ circB l = true := by
  unfold circB
  rw [List.any_eq_true]
  constructor
  · rintro ⟨x, hx⟩
    obtain ⟨c, hc, _⟩ := hx.start
    unfold nx at hc
    cases hf : fnd l x with
    | none => rw [hf] at hc; cases hc
    | some o =>
      obtain ⟨h1, h2⟩ := fnd_mem hf
      subst h2
      exact ⟨o, h1, by rw [decide_eq_true_eq]; exact (needs_mem l _ _).2 hx⟩
  · rintro ⟨o, _, h⟩
    rw [decide_eq_true_eq] at h
    exact ⟨o.code, (needs_mem l _ _).1 h⟩
theorem first_next {l : List O} {k : Nat} {o : O} (h : l[k]? = some o) (p : Str) : firstV p (l.drop k) = if nextV p o = 0 then firstV o.code (l.drop (k + 1)) else nextV p o := by
  obtain ⟨hk, hx⟩ := List.getElem?_eq_some_iff.1 h
  rw [List.drop_eq_getElem_cons hk, hx]
  rfl
set_option maxRecDepth 100000 in
set_option maxHeartbeats 1000000 in
theorem check_k (A : Option Addr) (n c : Nat) (vs : List V) (l : List O) (w : World) (h : Offs w A n c vs l) :
    Calls Tryz.prog 14 #[.slice A n c] w fun e w' => e = .returned (.int .i64 (checkV l)) ∧ w.grownBy w' none := by
  have HO := Lib.hid (fun W (g : w.grownBy W none) => h.kept g)
  have HL := Lib.hid h.len
  have hle := h.v.le
  have hcap := h.v.cap
  clear h
  by_cases hn : (n : Int) > 60
  · have HE : Hid (checkV l = 2) := Lib.hid (by unfold checkV; rw [if_pos (by have := HL.out; omega)])
    go_enter Tryz.func14, Tryz.ntmps14
    go_wp2_with fail
    go_ret
    exact ⟨by rw [HE.out]; rfl, grown_refl _⟩
  have HE : Hid (checkV l = if firstV [] l ≠ 0 then firstV [] l else if closedB l = false then 5 else if circB l = true then 14 else 0) := Lib.hid (by unfold checkV; rw [if_neg (by have := HL.out; omega)])
  obtain ⟨w1, e1, HP, g1⟩ := row_of w 41 #[.string ⟨#[]⟩, .int .i64 0, .int .i64 0, .slice none 0 0, .slice none 0 0]
  have E1 := Lib.hid e1
  clear e1
  go_enter Tryz.func14, Tryz.ntmps14
  go_upto_region 4 with fail
  rw [← E1.out]
  clear E1
  have HBW := Lib.hid (Nat.le_refl w.heap.size)
  generalize hP : w.heap.size = P at *
  have HPP := Lib.hid hP
  clear hP HBW
  go_wp2_with fail
  go_loopw [14] (fun z wr => ∃ (k : Nat) (u : V), k ≤ n ∧ z = .int .i64 (k : Int) ∧ Hid (Row wr P 41 u.cells ∧ u.code.length ≤ 1152921504606846976 ∧ firstV [] l = firstV u.code (l.drop k)) ∧ Hid (w.grownBy wr none)) (fun z _ => n - (intOf z).toNat)
  case atStart => exact ⟨0, ⟨[], 0, 0, none, 0, 0, none, 0, 0⟩, Nat.zero_le _, rfl, Lib.hid ⟨HP, by simp, rfl⟩, Lib.hid g1⟩
  case round =>
    clear HP g1
    obtain ⟨k, u, hk, rfl, HR, HG⟩ := hrel
    by_cases hlt : k < n
    · obtain ⟨ad, v, o, ho, _, rfl, hbl, hv, x0, x1, x2, x3, x4⟩ := (HO.out _ HG.out).at k hlt
      have HT := Lib.hid (first_next ho u.code)
      have HV := Lib.hid hv
      have hcd := hv.code
      obtain ⟨vc, vr, vp, sA, sn, sc, nA, nn, nc⟩ := v
      simp only at x0 x1 x2 x3 x4 hcd
      subst hcd
      go_upto_region 7 with fail
      obtain ⟨w2, e2, HC, g2⟩ := row_of wr 41 #[.string ⟨o.code.toArray⟩, .int .i64 vr, .int .i64 vp, .slice sA sn sc, .slice nA nn nc]
      rw [← e2]
      have HG2 := Lib.hid (HG.out.trans g2)
      have HP2 := Lib.hid (HR.out.1.kept g2)
      have HV2 := Lib.hid (HV.out.kept g2)
      have HPC : Hid (P ≠ wr.heap.size) := Lib.hid (by have := HR.out.1.lt; omega)
      clear e2 x0 x1 x2 x3 x4 hbl hv HV g2
      generalize wr.heap.size = C at *
      have c0 := HC.c 0 rfl
      have c1 := HC.c 1 rfl
      have c2 := HC.c 2 rfl
      have c3 := HC.c 3 rfl
      have c4 := HC.c 4 rfl
      have HC2 := Lib.hid HC
      clear HC
      obtain ⟨uc, ur, up, uA, un, uc2, xA, xn, xc⟩ := u
      have p0 := HP2.out.c 0 rfl
      have p1 := HP2.out.c 1 rfl
      have p2 := HP2.out.c 2 rfl
      have p3 := HP2.out.c 3 rfl
      have p4 := HP2.out.c 4 rfl
      have NK := Lib.hid (next_k ⟨uc, ur, up, uA, un, uc2, xA, xn, xc⟩ ⟨o.code, vr, vp, sA, sn, sc, nA, nn, nc⟩ ⟨uc, 0, 0, [], []⟩ o w2 ⟨rfl, HR.out.2.1⟩ HV2.out)
      simp only [V.cells] at NK HP2
      have HR2 := Lib.hid HR.out.2
      simp only at HR2 HT
      clear HR ho
      go_wp2_with fail
      refine NK.out.mono ?_
      rintro e w3 ⟨rfl, g⟩
      have HG3 := Lib.hid (HG2.out.trans g)
      have HP3 := Lib.hid (HP2.out.kept g)
      have HC3 := Lib.hid (HC2.out.kept g)
      have HV3 := Lib.hid (HV2.out.kept g)
      clear g NK HG2 HP2 HC2 HV2 c0 c1 c2 c3 c4 p0 p1 p2 p3 p4
      have c0 := HC3.out.c 0 rfl
      have c1 := HC3.out.c 1 rfl
      have c2 := HC3.out.c 2 rfl
      have c3 := HC3.out.c 3 rfl
      have c4 := HC3.out.c 4 rfl
      by_cases hz : nextV uc o = 0
      · have HF : Hid (firstV [] l = firstV o.code (l.drop (k + 1))) := Lib.hid (by rw [HR2.out.2, HT.out, if_pos hz])
        have p0 := HP3.out.c 0 rfl
        have p1 := HP3.out.c 1 rfl
        have p2 := HP3.out.c 2 rfl
        have p3 := HP3.out.c 3 rfl
        have p4 := HP3.out.c 4 rfl
        have f0 := HP3.out.fz 0
        have f1 := HP3.out.fz 1
        have f2 := HP3.out.fz 2
        have f3 := HP3.out.fz 3
        have f4 := HP3.out.fz 4
        rw [hz]
        have hps := HP3.out.lt
        clear HT HR2 hz
        go_upto_region 11 with fail
        have HR4 := Lib.hid ((((((HP3.out.set 0 (.string ⟨o.code.toArray⟩)).set 1 (.int .i64 vr)).set 2 (.int .i64 vp)).set 3 (.slice sA sn sc)).set 4 (.slice nA nn nc)))
        have HG4 := Lib.hid (HG3.out.andThen (grown_set (grown_set (grown_set (grown_set (grown_setCell w3 P 0 (.string ⟨o.code.toArray⟩)) (.inr rfl) (i := 1) (v := .int .i64 vr)) (.inr rfl) (i := 2) (v := .int .i64 vp)) (.inr rfl) (i := 3) (v := .slice sA sn sc)) (.inr rfl) (i := 4) (v := .slice nA nn nc)) (by rintro j ⟨⟩; exact .inl (by rw [HPP.out]; exact Nat.le_refl _)))
        generalize (((((w3.setCell ⟨P, 0, none⟩ (.string ⟨o.code.toArray⟩)).setCell ⟨P, 1, none⟩ (.int .i64 vr)).setCell ⟨P, 2, none⟩ (.int .i64 vp)).setCell ⟨P, 3, none⟩ (.slice sA sn sc)).setCell ⟨P, 4, none⟩ (.slice nA nn nc)) = w4 at *
        have HRel : Hid (Row w4 P 41 (V.mk o.code vr vp sA sn sc nA nn nc).cells ∧ o.code.length ≤ 1152921504606846976 ∧ firstV [] l = firstV o.code (l.drop (k + 1))) := Lib.hid ⟨HR4.out, HV3.out.ok.1, HF.out⟩
        clear HR4 HF p0 p1 p2 p3 p4 f0 f1 f2 f3 f4 c0 c1 c2 c3 c4 hps HV3 HC3 HP3 HG3
        go_wp2_with fail
        go_roundw
        case rel => exact ⟨k + 1, ⟨o.code, vr, vp, sA, sn, sc, nA, nn, nc⟩, by omega, by go_num, HRel, HG4⟩
        case measure => simp [intOf]; omega
      · have HF : Hid (checkV l = nextV uc o) := Lib.hid (by
          have h1 : firstV [] l = nextV uc o := by rw [HR2.out.2, HT.out, if_neg hz]
          rw [HE.out, h1, if_pos hz])
        have hz2 : (nextV uc o != 0) = true := by simpa using hz
        clear HT HR2 hz
        generalize nextV uc o = e9 at *
        go_wp2_with fail
        go_ret
        exact ⟨by rw [HF.out]; rfl, HG3.out⟩
    · obtain rfl : n = k := by omega
      have HF : Hid (firstV [] l = 0) := Lib.hid (by rw [HR.out.2.2, HL.out, List.drop_length]; rfl)
      have HE2 : Hid (checkV l = if closedB l = false then 5 else if circB l = true then 14 else 0) := Lib.hid (by rw [HE.out, HF.out]; simp)
      have HCL := Lib.hid (closed_dir HF.out)
      have RQ := Lib.hid (required_k A n c vs l wr (HO.out _ HG.out))
      clear HR HE HF
      go_wp2_with fail
      refine RQ.out.mono ?_
      rintro e w5 ⟨b, rfl, _, hd, g⟩
      have HD := Lib.hid hd
      have HG5 := Lib.hid (HG.out.trans g)
      have CK := Lib.hid (closed_k b (dirV l) w5 hd)
      clear hd g RQ HG
      go_wp2_with fail
      refine CK.out.mono ?_
      rintro e w6 ⟨rfl, g⟩
      rw [HCL.out]
      have HD6 := Lib.hid (HD.out.kept g)
      have HG6 := Lib.hid (HG5.out.trans g)
      have CI := Lib.hid (circular_k b (dirV l) (nx l) (fun c => (dir_nx l c).symm) w6 HD6.out)
      have HCC := Lib.hid (circ_dir l)
      clear g CK HD HG5 HCL HD6
      cases hcb : closedB l with
      | false =>
        have HE3 : Hid (checkV l = 5) := Lib.hid (by rw [HE2.out, if_pos hcb])
        clear HE2 hcb
        go_wp2_with fail
        go_ret
        exact ⟨by rw [HE3.out]; rfl, HG6.out⟩
      | true =>
        have HE3 : Hid (checkV l = if circB l = true then 14 else 0) := Lib.hid (by rw [HE2.out, if_neg (by simp [hcb])])
        clear HE2 hcb
        go_wp2_with fail
        refine CI.out.mono ?_
        rintro e w7 ⟨r, rfl, hr, g⟩
        have HG7 := Lib.hid (HG6.out.trans g)
        cases r with
        | true =>
          have HE4 : Hid (checkV l = 14) := Lib.hid (by rw [HE3.out, if_pos (HCC.out.1 (hr.1 rfl))])
          clear HE3 hr g CI
          go_wp2_with fail
          go_ret
          exact ⟨by rw [HE4.out]; rfl, HG7.out⟩
        | false =>
          have HE4 : Hid (checkV l = 0) := Lib.hid (by rw [HE3.out, if_neg (fun h => by have := hr.2 (HCC.out.2 h); cases this)])
          clear HE3 hr g CI
          go_wp2_with fail
          go_ret
          exact ⟨by rw [HE4.out]; rfl, HG7.out⟩
end Go.Proofs.YtnkemoicgadefaaGreatDoor
