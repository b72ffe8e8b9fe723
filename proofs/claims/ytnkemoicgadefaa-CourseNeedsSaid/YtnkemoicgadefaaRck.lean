/-
  The reference's Check.
-/
import Derived.Test.YtnkemoicgadefaaRnd
namespace Go.Proofs.Ytnkemoicgadefaa
open Go.RowKit
attribute [local go_sem] get_mk extract_mk
theorem grown_tr {a b c : World} (h : a.grownBy b none) (k : b.grownBy c none) : a.grownBy c none := h.trans k
/-- the code ahead of the offer at k -/
def prevV (l : List O) : Nat → Str
  | 0 => []
  | j + 1 => (l[j]?.map (·.code)).getD []
theorem prev_next {l : List O} {k : Nat} {o : O} (h : l[k]? = some o) : prevV l (k + 1) = o.code := by show (l[k]?.map (·.code)).getD [] = _; rw [h]; rfl
theorem next_code {p : Str} {o : O} (h : codeB o.code = false) : nextV p o = 12 := by unfold nextV; rw [if_pos h]
theorem next_first {o : O} (h : codeB o.code = true) : nextV [] o = oneV o := by
  unfold nextV
  have h1 : o.code ≠ [] := by
    intro e
    rw [e] at h
    revert h
    decide
  have h2 : ¬ o.code < [] := by simp
  rw [if_neg (by simp [h]), if_neg h1, if_neg h2]
theorem next_twice {p : Str} {o : O} (h : codeB o.code = true) (e : p = o.code) : nextV p o = 6 := by unfold nextV; rw [if_neg (by simp [h]), if_pos e.symm]
theorem next_falls {p : Str} {o : O} (h : codeB o.code = true) (e : o.code < p) : nextV p o = 7 := by
  unfold nextV
  rw [if_neg (by simp [h]), if_neg (fun h2 => by rw [h2] at e; exact lt_irr p e), if_pos e]
theorem next_one {p : Str} {o : O} (h : codeB o.code = true) (e : p ≠ o.code) (f : ¬ o.code < p) : nextV p o = oneV o := by
  unfold nextV
  rw [if_neg (by simp [h]), if_neg (fun h2 => e h2.symm), if_neg f]
theorem first_at {l : List O} {k : Nat} {o : O} {p : Str} (h : l[k]? = some o) (hf : firstV [] l = firstV p (l.drop k)) : (nextV p o = 0 → firstV [] l = firstV (prevV l (k + 1)) (l.drop (k + 1))) ∧ (nextV p o ≠ 0 → firstV [] l = nextV p o) := by
  rw [prev_next h]
  rw [first_next h] at hf
  constructor
  · intro e; rw [hf, if_pos e]
  · intro e; rw [hf, if_neg e]
theorem check_first {l : List O} (hn : ¬ 60 < l.length) {e : Int} (h : firstV [] l = e) (he : e ≠ 0) : checkV l = e := by
  unfold checkV
  rw [if_neg hn, h, if_pos he]
theorem check_open {l : List O} (hn : ¬ 60 < l.length) (h : firstV [] l = 0) {o : O} {s : Str} (ho : o ∈ l) (hs : s ∈ o.needs) (hf : fnd l s = none) : checkV l = 5 := by
  unfold checkV
  have : closedB l = false := by
    rw [Bool.eq_false_iff]
    intro hc
    have := List.all_eq_true.1 (List.all_eq_true.1 hc o ho) s hs
    rw [hf] at this
    cases this
  rw [if_neg hn, h, this]
  simp
theorem check_circ {l : List O} (hn : ¬ 60 < l.length) (h : firstV [] l = 0) (hc : closedB l = true) {o : O} (ho : o ∈ l) (hs : o.code ∈ needsV l o.code) : checkV l = 14 := by
  unfold checkV
  have : circB l = true := List.any_eq_true.2 ⟨o, ho, decide_eq_true hs⟩
  rw [if_neg hn, h, hc, this]
  simp
theorem check_ok {l : List O} (hn : ¬ 60 < l.length) (h : firstV [] l = 0) (hc : closedB l = true) (hs : ∀ o ∈ l, o.code ∉ needsV l o.code) : checkV l = 0 := by
  unfold checkV
  have : circB l = false := by
    rw [Bool.eq_false_iff]
    intro h
    obtain ⟨o, ho, h1⟩ := List.any_eq_true.1 h
    exact hs o ho (of_decide_eq_true h1)
  rw [if_neg hn, h, hc, this]
  simp
set_option maxRecDepth 100000 in
set_option maxHeartbeats 8000000 in
theorem check_r (A : Option Addr) (n c : Nat) (vs : List V) (l : List O) (hN : (allN l).length ≤ 999) (w : World) (h : Offs w A n c vs l) :
    Calls Try.prog 13 #[.slice A n c] w fun e w' => e = .returned (.int .i64 (checkV l)) ∧ w.grownBy w' none := by
  have HO := Lib.hid (fun W (g : w.grownBy W none) => h.kept g)
  have HN := Lib.hid hN
  have HL := Lib.hid h.len
  have hle := h.v.le
  have hcap := h.v.cap
  clear h hN
  by_cases hn : (n : Int) > 60
  · have HE : Hid (checkV l = 2) := Lib.hid (by unfold checkV; rw [if_pos (by have := HL.out; omega)])
    go_enter Try.func13, Try.ntmps13
    go_wp2_with fail
    go_ret
    exact ⟨by rw [HE.out]; rfl, grown_refl _⟩
  have H60 : Hid (¬ 60 < l.length) := Lib.hid (by have := HL.out; omega)
  go_enter Try.func13, Try.ntmps13
  go_wp2_with fail
  go_loopw [3] (fun z wr => ∃ k : Nat, k ≤ n ∧ z = .int .i64 (k : Int) ∧ Hid (firstV [] l = firstV (prevV l k) (l.drop k)) ∧ Hid (w.grownBy wr none)) (fun z _ => n - (intOf z).toNat)
  case atStart => exact ⟨0, Nat.zero_le _, rfl, Lib.hid rfl, Lib.hid (grown_refl _)⟩
  case round =>
    obtain ⟨k, hk, rfl, HF, HG⟩ := hrel
    by_cases hlt : k < n
    · obtain ⟨ad, v, o, ho, _, rfl, hbl, hv, x0, x1, x2, x3, x4⟩ := (HO.out _ HG.out).at k hlt
      have HV := Lib.hid hv
      have HAT := Lib.hid (first_at ho HF.out)
      have hcd := hv.code
      obtain ⟨vc, vr, vp, sA, sn, sc, nA, nn, nc⟩ := v
      simp only at x0 x1 x2 x3 x4 hcd
      subst hcd
      have k1 : (0 : Int) ≤ (k : Int) := by omega
      have k2 : (k : Int) < (n : Int) := by omega
      have k3 : decide ((k : Int) < (n : Int)) = true := decide_eq_true k2
      have k5 : IntKind.i64.wrap (k : Int) = (k : Int) := by rw [IntKind.wrap_i64]; omega
      have k6 : IntKind.i64.wrap ((k : Int) + 1) = (k : Int) + 1 := by rw [IntKind.wrap_i64]; omega
      have HOK := Lib.hid hv.ok.1
      clear hv hbl HF
      go_wp2_with fail
      refine (code_r o.code HOK.out _).mono ?_
      rintro e w2 ⟨rfl, rfl⟩
      by_cases hcb : codeB o.code = false
      · have HE : Hid (checkV l = 12) := Lib.hid (check_first H60.out ((HAT.out.2 (by rw [next_code hcb]; decide)).trans (next_code hcb)) (by decide))
        rw [hcb]
        clear hcb HAT ho
        go_wp2_with fail
        go_ret
        exact ⟨by rw [HE.out]; rfl, HG.out⟩
      · have HCB : Hid (codeB o.code = true) := Lib.hid (by simpa using hcb)
        rw [HCB.out]
        clear hcb
        have HOO := Lib.hid ho
        clear ho
        rcases k with _ | j
        · have z1 : decide ((0 : Int) < ((0 : Nat) : Int)) = false := by simp
          have ez : ad.add (0 * 5) = ad := by simp [Addr.add]
          rw [ez] at x0 x1 x2 x3 x4
          clear ez
          go_wp2_with fail
          go_quiet (fail)
          go_wp2_with fail
          go_quiet (fail)
          have HNX : Hid (nextV (prevV l 0) o = oneV o) := Lib.hid (next_first HCB.out)
          go_wp2_with fail
          refine (single_r ⟨o.code, vr, vp, sA, sn, sc, nA, nn, nc⟩ o _ (HV.out.kept (by (repeat (first | assumption | exact grown_refl _ | refine grown_dr ?_ | refine grown_dn ?_))))).mono ?_
          rintro e w4 ⟨rfl, g4⟩
          have G4 := Lib.hid (HG.out.trans (grown_tr (by (repeat (first | assumption | exact grown_refl _ | refine grown_dr ?_ | refine grown_dn ?_))) g4))
          clear g4 HV
          by_cases hz : oneV o = 0
          · have HF2 := Lib.hid (HAT.out.1 (HNX.out.trans hz))
            rw [hz]
            clear hz HAT HNX
            go_wp2_with fail
            go_roundw
            case rel => exact ⟨0 + 1, by omega, by go_num, HF2, G4⟩
            case measure => simp [intOf]; omega
          · have HE : Hid (checkV l = oneV o) := Lib.hid (check_first H60.out ((HAT.out.2 (by rw [HNX.out]; exact hz)).trans HNX.out) hz)
            have hz2 : (oneV o != 0) = true := by simpa using hz
            clear hz HAT HNX
            generalize oneV o = e9 at *
            go_wp2_with fail
            go_ret
            exact ⟨by rw [HE.out]; rfl, G4.out⟩
        · obtain ⟨ad', u, p, hp, _, e9, _, hu, y0, _, _, _, _⟩ := (HO.out _ HG.out).at j (by omega)
          obtain rfl := Option.some.inj e9
          obtain ⟨pc, ur, up, uA, un, uc, xA, xn, xc⟩ := u
          have hpc := hu.code
          simp only at y0 hpc
          subst hpc
          have HPR := Lib.hid (prev_next hp)
          clear hp hu e9
          have j1 : (0 : Int) ≤ (j : Int) := by omega
          have j2 : (j : Int) < (n : Int) := by omega
          have j3 : decide ((0 : Int) < ((j + 1 : Nat) : Int)) = true := decide_eq_true (by omega)
          have j4 : IntKind.i64.wrap (((j + 1 : Nat) : Int) - 1) = (j : Int) := by rw [IntKind.wrap_i64]; omega
          rw [HPR.out] at HAT
          by_cases hpo : p.code = o.code
          · have HE : Hid (checkV l = 6) := Lib.hid (check_first H60.out ((HAT.out.2 (by rw [next_twice HCB.out hpo]; decide)).trans (next_twice HCB.out hpo)) (by decide))
            have q1 : (p.code == o.code) = true := by simpa using hpo
            clear hpo HAT
            go_wp2_with fail
            go_quiet (fail)
            go_wp2_with fail
            go_ret
            exact ⟨by rw [HE.out]; rfl, HG.out.trans (by (repeat (first | assumption | exact grown_refl _ | refine grown_dr ?_ | refine grown_dn ?_)))⟩
          · have q1 : (p.code == o.code) = false := by simpa using hpo
            by_cases hpl : o.code < p.code
            · have HE : Hid (checkV l = 7) := Lib.hid (check_first H60.out ((HAT.out.2 (by rw [next_falls HCB.out hpl]; decide)).trans (next_falls HCB.out hpl)) (by decide))
              have c1 : Op.bytesLess p.code o.code = false := by rw [bytesLess_eq, decide_eq_false_iff_not]; exact lt_asy hpl
              clear hpo HAT hpl
              go_wp2_with fail
              go_quiet (fail)
              go_wp2_with fail
              go_quiet (fail)
              go_wp2_with fail
              go_ret
              exact ⟨by rw [HE.out]; rfl, HG.out.trans (by (repeat (first | assumption | exact grown_refl _ | refine grown_dr ?_ | refine grown_dn ?_)))⟩
            · have c1 : Op.bytesLess p.code o.code = true := by
                rw [bytesLess_eq, decide_eq_true_eq]
                exact Classical.byContradiction fun h => hpo (lt_tri _ _ h hpl)
              have HPO := Lib.hid hpo
              have HPL := Lib.hid hpl
              clear hpo hpl
              go_wp2_with fail
              go_quiet (fail)
              go_wp2_with fail
              go_quiet (fail)
              have HNX : Hid (nextV p.code o = oneV o) := Lib.hid (next_one HCB.out HPO.out HPL.out)
              go_wp2_with fail
              refine (single_r ⟨o.code, vr, vp, sA, sn, sc, nA, nn, nc⟩ o _ (HV.out.kept (by (repeat (first | assumption | exact grown_refl _ | refine grown_dr ?_ | refine grown_dn ?_))))).mono ?_
              rintro e w4 ⟨rfl, g4⟩
              have G4 := Lib.hid (HG.out.trans (grown_tr (by (repeat (first | assumption | exact grown_refl _ | refine grown_dr ?_ | refine grown_dn ?_))) g4))
              clear g4 HV
              by_cases hz : oneV o = 0
              · have HF2 := Lib.hid (HAT.out.1 (HNX.out.trans hz))
                rw [hz]
                clear hz HAT HNX
                go_wp2_with fail
                go_roundw
                case rel => exact ⟨(j + 1) + 1, by omega, by go_num, HF2, G4⟩
                case measure => simp [intOf]; omega
              · have HE : Hid (checkV l = oneV o) := Lib.hid (check_first H60.out ((HAT.out.2 (by rw [HNX.out]; exact hz)).trans HNX.out) hz)
                have hz2 : (oneV o != 0) = true := by simpa using hz
                clear hz HAT HNX
                generalize oneV o = e9 at *
                go_wp2_with fail
                go_ret
                exact ⟨by rw [HE.out]; rfl, G4.out⟩
    · obtain rfl : n = k := by omega
      have HF0 : Hid (firstV [] l = 0) := Lib.hid (by rw [HF.out, HL.out, List.drop_length]; rfl)
      have j3 : decide ((n : Int) < (n : Int)) = false := decide_eq_false (by omega)
      clear HF
      go_wp2_with fail
      clear j3
      generalize wr = wa at *
      go_loopw [6] (fun z wr => ∃ k : Nat, k ≤ n ∧ z = .int .i64 (k : Int) ∧ Hid (∀ o ∈ l.take k, ∀ s ∈ o.needs, (fnd l s).isSome = true) ∧ Hid (w.grownBy wr none)) (fun z _ => n - (intOf z).toNat)
      case atStart => exact ⟨0, Nat.zero_le _, rfl, Lib.hid (by simp), HG⟩
      case round =>
        clear HG
        obtain ⟨k, hk, rfl, HC, HG⟩ := hrel
        by_cases hlt : k < n
        · obtain ⟨ad, v, o, ho, _, rfl, hbl, hv, x0, x1, x2, x3, x4⟩ := (HO.out _ HG.out).at k hlt
          obtain ⟨vc, vr, vp, sA, sn, sc, nA, nn, nc⟩ := v
          have HNE := Lib.hid hv.needs
          have HOO := Lib.hid ho
          simp only at x4
          have X4 := Lib.hid x4
          have hle2 := hv.needs.v.le
          have hcap2 := hv.needs.v.cap
          have k1 : (0 : Int) ≤ (k : Int) := by omega
          have k2 : (k : Int) < (n : Int) := by omega
          have k3 : decide ((k : Int) < (n : Int)) = true := decide_eq_true k2
          have k5 : IntKind.i64.wrap (k : Int) = (k : Int) := by rw [IntKind.wrap_i64]; omega
          have k6 : IntKind.i64.wrap ((k : Int) + 1) = (k : Int) + 1 := by rw [IntKind.wrap_i64]; omega
          clear hv hbl ho x0 x1 x2 x3
          simp only at hle2 hcap2
          go_wp2_with fail
          clear x4
          generalize wr = wo at *
          go_loopw [7] (fun z wr => ∃ i : Nat, i ≤ nn ∧ z = .int .i64 (i : Int) ∧ Hid (∀ s ∈ o.needs.take i, (fnd l s).isSome = true) ∧ Hid (wo.grownBy wr none)) (fun z _ => nn - (intOf z).toNat)
          case atStart => exact ⟨0, Nat.zero_le _, rfl, Lib.hid (by simp), Lib.hid (grown_refl _)⟩
          case round =>
            obtain ⟨i, hi, rfl, HI, HW⟩ := hrel
            generalize wr = wi at *
            have x4 := gcell HW.out X4.out
            by_cases hl2 : i < nn
            · obtain ⟨bd, s, hsx, hsl, e8, _, cx⟩ := (HNE.out.kept HW.out).at i hl2
              subst e8
              have HX := Lib.hid hsx
              have i1 : (0 : Int) ≤ (i : Int) := by omega
              have i2 : (i : Int) < (nn : Int) := by omega
              have i3 : decide ((i : Int) < (nn : Int)) = true := decide_eq_true i2
              have i5 : IntKind.i64.wrap (i : Int) = (i : Int) := by rw [IntKind.wrap_i64]; omega
              have i6 : IntKind.i64.wrap ((i : Int) + 1) = (i : Int) + 1 := by rw [IntKind.wrap_i64]; omega
              clear hsx
              go_wp2_with fail
              refine (findN_r (some ad) n c vs l s _ (HO.out _ (HG.out.trans HW.out))).mono ?_
              rintro e w6 ⟨v6, b6, rfl, g6, -, -, hb6⟩
              have HB := Lib.hid hb6
              clear hb6 x4 cx
              obtain ⟨yc, yr, yp, yA, yn, yd, zA, zn, zd⟩ := v6
              simp only [V.cells]
              obtain ⟨w7, e7, _, g7⟩ := row_of w6 35 #[.string ⟨yc.toArray⟩, .int .i64 yr, .int .i64 yp, .slice yA yn yd, .slice zA zn zd]
              have G7 := Lib.hid (HW.out.trans (g6.trans g7))
              have E7 := Lib.hid e7
              clear e7 g6 g7
              cases b6 with
              | true =>
                have HI2 : Hid (∀ s ∈ o.needs.take (i + 1), (fnd l s).isSome = true) := Lib.hid (by
                  rw [take_snoc HX.out]
                  intro z hz
                  rcases List.mem_append.1 hz with hz | hz
                  · exact HI.out z hz
                  · rw [List.mem_singleton.1 hz]; exact HB.out.symm)
                clear HI HX HB
                go_upto_region 23 with fail
                rw [← E7.out]
                clear E7
                generalize w6.heap.size = P7 at *
                go_wp2_with fail
                go_roundw
                case rel => exact ⟨i + 1, by omega, by go_num, HI2, G7⟩
                case measure => simp [intOf]; omega
              | false =>
                have HE : Hid (checkV l = 5) := Lib.hid (check_open H60.out HF0.out (List.mem_of_getElem? HOO.out) (List.mem_of_getElem? HX.out) (by
                  have := HB.out
                  cases h : fnd l s with
                  | none => rfl
                  | some o => rw [h] at this; cases this))
                clear HI HX HB
                go_upto_region 23 with fail
                rw [← E7.out]
                clear E7
                generalize w6.heap.size = P7 at *
                go_wp2_with fail
                go_ret
                exact ⟨by rw [HE.out]; rfl, HG.out.trans G7.out⟩
            · obtain rfl : nn = i := by omega
              have i3 : decide ((nn : Int) < (nn : Int)) = false := decide_eq_false (by omega)
              have HC2 : Hid (∀ o ∈ l.take (k + 1), ∀ s ∈ o.needs, (fnd l s).isSome = true) := Lib.hid (by
                rw [take_snoc HOO.out]
                intro z hz
                rcases List.mem_append.1 hz with hz | hz
                · exact HC.out z hz
                · rw [List.mem_singleton.1 hz]
                  have := HI.out
                  rwa [List.take_of_length_le (by have := HNE.out.len; omega)] at this)
              clear HI HC
              go_wp2_with fail
              go_roundw
              case rel => exact ⟨k + 1, by omega, by go_num, HC2, Lib.hid (HG.out.trans HW.out)⟩
              case measure => simp [intOf]; omega
        · obtain rfl : n = k := by omega
          have HCL : Hid (closedB l = true) := Lib.hid (by
            have := HC.out
            rw [HL.out, List.take_length] at this
            exact List.all_eq_true.2 (fun o ho => List.all_eq_true.2 (fun s hs => this o ho s hs)))
          have j3 : decide ((n : Int) < (n : Int)) = false := decide_eq_false (by omega)
          clear HC
          go_wp2_with fail
          clear j3
          go_loopw [10] (fun z wr => ∃ k : Nat, k ≤ n ∧ z = .int .i64 (k : Int) ∧ Hid (∀ o ∈ l.take k, o.code ∉ needsV l o.code) ∧ Hid (w.grownBy wr none)) (fun z _ => n - (intOf z).toNat)
          case atStart => exact ⟨0, Nat.zero_le _, rfl, Lib.hid (by simp), HG⟩
          case round =>
            clear HG
            obtain ⟨k, hk, rfl, HC, HG⟩ := hrel
            by_cases hlt : k < n
            · obtain ⟨ad, v, o, ho, _, rfl, hbl, hv, x0, x1, x2, x3, x4⟩ := (HO.out _ HG.out).at k hlt
              obtain ⟨vc, vr, vp, sA, sn, sc, nA, nn, nc⟩ := v
              have hcd := hv.code
              simp only at x0 hcd
              subst hcd
              have HOO := Lib.hid ho
              have k1 : (0 : Int) ≤ (k : Int) := by omega
              have k2 : (k : Int) < (n : Int) := by omega
              have k3 : decide ((k : Int) < (n : Int)) = true := decide_eq_true k2
              have k5 : IntKind.i64.wrap (k : Int) = (k : Int) := by rw [IntKind.wrap_i64]; omega
              have k6 : IntKind.i64.wrap ((k : Int) + 1) = (k : Int) + 1 := by rw [IntKind.wrap_i64]; omega
              have NR := Lib.hid (fun W (g : w.grownBy W none) => needs_r (some ad) n c vs l o.code HN.out W (HO.out W g))
              clear hv hbl ho x1 x2 x3 x4
              go_upto_region 28 with fail
              have gz : wr.grownBy wr.drew none := grown_dr (grown_refl _)
              refine wp_region_noPanic ?_
              refine wp_region_held_drew (S := (fun w' => wr.grownBy w' none)) (by kernel_rfl) ?_ (fun hHeld => ?_)
              · (try dsimp only); (repeat (first | assumption | exact grown_refl _ | refine grown_dr ?_ | refine grown_dn ?_ | refine grown_al ?_))
              refine wpAnyH_take (i := 0) (oi := _) (v := ?_) rfl (by kernel_rfl) (by kernel_rfl) (by kernel_rfl) (fun _ _ _ h => h) (Or.inl ⟨by rfl, ?_⟩) (by assumption) ?_
              rotate_left 1
              · (intro w hSw; (try dsimp only at hSw); go_simp; first | done | with_reducible rfl)
              try go_simp
              refine wpAnyH_take (i := 1) (oi := _) (v := ?_) rfl (by kernel_rfl) (by kernel_rfl) (by kernel_rfl) (fun _ _ _ h => h) (Or.inl ⟨by rfl, ?_⟩) (by assumption) ?_
              rotate_left 1
              · (intro w hSw; (try dsimp only at hSw); go_simp; first | done | with_reducible rfl)
              try go_simp
              refine wpAnyH_take (i := 2) (oi := _) (v := ?_) rfl (by kernel_rfl) (by kernel_rfl) (by kernel_rfl) (fun _ _ _ h => h) (Or.inl ⟨by rfl, ?_⟩) (by assumption) ?_
              rotate_left 1
              · (intro w hSw; (try dsimp only at hSw); go_simp; first | done | with_reducible rfl)
              try go_simp
              refine wpAnyH_take (i := 3) (oi := _) (v := ?_) rfl (by kernel_rfl) (by kernel_rfl) (by kernel_rfl) (fun _ _ _ h => h) (Or.inl ⟨by rfl, ?_⟩) (by assumption) ?_
              rotate_left 1
              · (intro w hSw; (try dsimp only at hSw); go_simp; first | done | with_reducible rfl)
              try go_simp
              refine wpAnyH_take (i := 4) (oi := _) (v := ?_) rfl (by kernel_rfl) (by kernel_rfl) (by kernel_rfl) (fun _ _ _ h => h) (Or.inl ⟨by rfl, ?_⟩) (by assumption) ?_
              rotate_left 1
              · (intro w hSw; (try dsimp only at hSw); go_simp; first | done | with_reducible rfl)
              try go_simp
              refine wpAnyH_take (i := 5) (oi := _) (v := .string ⟨o.code.toArray⟩) rfl (by kernel_rfl) (by kernel_rfl) (by kernel_rfl) (fun _ _ _ h => h) (Or.inl ⟨by kernel_rfl, ?_⟩) (by assumption) ?_
              · (intro w hSw; (try dsimp only at hSw); go_simp; have y0 := gcell hSw x0; clear hSw; go_simp; first | done | with_reducible rfl)
              try go_simp
              refine wpAnyH_take (i := 7) (oi := _) (v := ?_) rfl (by kernel_rfl) (by kernel_rfl) (by kernel_rfl) (fun _ _ _ h => h) (Or.inl ⟨by rfl, ?_⟩) (by assumption) ?_
              rotate_left 1
              · (intro w hSw; (try dsimp only at hSw); go_simp; first | done | with_reducible rfl)
              try go_simp
              refine wpAnyH_take (i := 8) (oi := _) (v := ?_) rfl (by kernel_rfl) (by kernel_rfl) (by kernel_rfl) (fun _ _ _ h => h) (Or.inl ⟨by rfl, ?_⟩) (by assumption) ?_
              rotate_left 1
              · (intro w hSw; (try dsimp only at hSw); go_simp; first | done | with_reducible rfl)
              try go_simp
              refine wpAnyH_take (i := 9) (oi := _) (v := ?_) rfl (by kernel_rfl) (by kernel_rfl) (by kernel_rfl) (fun _ _ _ h => h) (Or.inl ⟨by rfl, ?_⟩) (by assumption) ?_
              rotate_left 1
              · (intro w hSw; (try dsimp only at hSw); go_simp; first | done | with_reducible rfl)
              try go_simp
              refine wpAnyH_take (i := 10) (oi := _) (v := ?_) rfl (by kernel_rfl) (by kernel_rfl) (by kernel_rfl) (fun _ _ _ h => h) (Or.inl ⟨by rfl, ?_⟩) (by assumption) ?_
              rotate_left 1
              · (intro w hSw; (try dsimp only at hSw); go_simp; first | done | with_reducible rfl)
              try go_simp
              refine wpAnyH_take (i := 11) (oi := _) (v := .string ⟨o.code.toArray⟩) rfl (by kernel_rfl) (by kernel_rfl) (by kernel_rfl) (fun _ _ _ h => h) (Or.inl ⟨by kernel_rfl, ?_⟩) (by assumption) ?_
              · (intro w hSw; (try dsimp only at hSw); go_simp; have y0 := gcell hSw x0; clear hSw; go_simp; first | done | with_reducible rfl)
              try go_simp
              refine wpAnyH_ready (rs := [6]) (by kernel_rfl) (by simp) ?_
              refine AllReadyH.cons (o := _) rfl (fun K hK => ?_) AllReadyH.nil
              go_simp
              refine (NR.out _ (HG.out.trans gz)).mono ?_
              rintro e w2 ⟨B2, d2, rfl, hs2, g⟩
              replace gz := gz.trans g
              have HS2 := Lib.hid hs2
              clear g hs2
              first | (refine hK.out _ _ ?_ (fun hHeld => ?_)) | (go_wp2_with fail; refine hK.out _ _ ?_ (fun hHeld => ?_))
              · (try dsimp only); (repeat (first | assumption | exact grown_refl _ | refine grown_dr ?_ | refine grown_dn ?_ | refine grown_al ?_))
              clear hK K
              refine wpAnyH_ready (rs := [12]) (by kernel_rfl) (by simp) ?_
              refine AllReadyH.cons (o := _) rfl (fun K hK => ?_) AllReadyH.nil
              go_simp
              refine (has_r B2 _ d2 _ o.code _ HS2.out).mono ?_
              rintro e w3 ⟨rfl, rfl⟩
              clear HS2
              first | (refine hK.out _ _ ?_ (fun hHeld => ?_)) | (go_wp2_with fail; refine hK.out _ _ ?_ (fun hHeld => ?_))
              · (try dsimp only); (repeat (first | assumption | exact grown_refl _ | refine grown_dr ?_ | refine grown_dn ?_ | refine grown_al ?_))
              clear hK K
              refine wpAnyH_done (by kernel_rfl) ?_ _
              refine NoPanic.normal ?_
              go_simp
              have GZ := Lib.hid (HG.out.trans gz)
              clear gz NR
              by_cases hm : o.code ∈ needsV l o.code
              · have HE : Hid (checkV l = 14) := Lib.hid (check_circ H60.out HF0.out HCL.out (List.mem_of_getElem? HOO.out) hm)
                rw [decide_eq_true hm]
                clear hm HC
                go_wp2_with fail
                go_ret
                exact ⟨by rw [HE.out]; rfl, GZ.out⟩
              · have HC2 : Hid (∀ o ∈ l.take (k + 1), o.code ∉ needsV l o.code) := Lib.hid (by
                  rw [take_snoc HOO.out]
                  intro z hz
                  rcases List.mem_append.1 hz with hz | hz
                  · exact HC.out z hz
                  · rw [List.mem_singleton.1 hz]; exact hm)
                rw [decide_eq_false hm]
                clear hm HC
                go_wp2_with fail
                go_roundw
                case rel => exact ⟨k + 1, by omega, by go_num, HC2, GZ⟩
                case measure => simp [intOf]; omega
            · obtain rfl : n = k := by omega
              have HE : Hid (checkV l = 0) := Lib.hid (check_ok H60.out HF0.out HCL.out (by
                have := HC.out
                rwa [HL.out, List.take_length] at this))
              clear HC
              go_wp2_with fail
              go_ret
              exact ⟨by rw [HE.out]; rfl, HG.out⟩
end Go.Proofs.Ytnkemoicgadefaa
