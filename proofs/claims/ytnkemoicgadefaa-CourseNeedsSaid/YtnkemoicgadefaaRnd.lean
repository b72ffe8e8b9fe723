/-
  The reference's Needs.
-/
import Derived.Test.YtnkemoicgadefaaCln
namespace Go.Proofs.Ytnkemoicgadefaa
open Go.RowKit
attribute [local go_sem] get_mk extract_mk
def lenS : Value → Nat
  | .slice _ n _ => n
  | _ => 0
theorem findN_r (A : Option Addr) (n c : Nat) (vs : List V) (l : List O) (code : Str) (w : World) (h : Offs w A n c vs l) :
    Calls Try.prog 21 #[.slice A n c, .string ⟨code.toArray⟩] w fun e w' => ∃ (v' : V) (b : Bool), e = .returned (.tuple #[.agg v'.cells, .bool b]) ∧ w.grownBy w' none ∧ Strs w' v'.nA v'.nn v'.nc (nx l code) ∧ (nx l code).length ≤ 1000 ∧ b = (fnd l code).isSome := by
  refine (find_r A n c vs l code w h).mono ?_
  rintro e w' ⟨v', b, rfl, g, h⟩
  refine ⟨v', b, rfl, g, ?_⟩
  rcases h with ⟨rfl, hf, rfl⟩ | ⟨o, rfl, hf, hv, _⟩
  · have hx : nx l code = [] := by unfold nx; rw [hf]
    rw [hx, hf]
    exact ⟨Strs.nil_ _, by simp, rfl⟩
  · have hx : nx l code = o.needs := by unfold nx; rw [hf]
    rw [hx, hf]
    exact ⟨hv.needs, hv.few.2, rfl⟩
theorem drop_cons {l : List Str} {k : Nat} {x : Str} (h : l[k]? = some x) : l.drop k = x :: l.drop (k + 1) := by
  obtain ⟨h1, h2⟩ := List.getElem?_eq_some_iff.1 h
  rw [← h2]
  exact List.drop_eq_getElem_cons h1
/-- what holds within a round -/
structure In (l : List O) (code : Str) (nl : List Str) (D0 : List Str) (k : Nat) (D E : List Str) : Prop where
  rnd : Rnd (nx l) code (nl.drop k) D E
  new : (D = D0 ∧ E = []) ∨ D0.length < D.length
  few : E.length ≤ 1000 * D.length
  ok : ∀ x ∈ E, x.length ≤ 1152921504606846976
theorem In.small {l : List O} {code : Str} {nl D0 : List Str} {k : Nat} {D E : List Str} (h : In l code nl D0 k D E) (hN : (allN l).length ≤ 999) : D.length ≤ 999 :=
  Nat.le_trans (nodup_le (inc_nodup h.rnd.inc) (fun x hx => leads_all (h.rnd.hout x hx))) hN
theorem In.old {l : List O} {code : Str} {nl D0 : List Str} {k : Nat} {D E : List Str} {s : Str} (h : In l code nl D0 k D E) (hs : nl[k]? = some s) (hm : s ∈ D) : In l code nl D0 (k + 1) D E := by
  have hr := h.rnd
  rw [drop_cons hs] at hr
  exact ⟨hr.step.1 hm, h.new, h.few, h.ok⟩
theorem In.put {l : List O} {code : Str} {nl D0 : List Str} {k : Nat} {D E D2 : List Str} {s : Str} (h : In l code nl D0 k D E) (hs : nl[k]? = some s) (hm : s ∉ D) (hi : Inc D2) (hD : ∀ x, x ∈ D2 ↔ x = s ∨ x ∈ D) (h1 : (nx l s).length ≤ 1000) (h2 : ∀ x ∈ nx l s, x.length ≤ 1152921504606846976) : In l code nl D0 (k + 1) D2 (E ++ nx l s) := by
  have hr := h.rnd
  rw [drop_cons hs] at hr
  have e : D2 = putV D s := hi.ext (putV_inc h.rnd.inc s) (fun x => by rw [hD, putV_mem])
  have hl : (putV D s).length = D.length + 1 := by
    unfold putV
    rw [if_neg hm]
    have := atV_le D s D.length
    simp only [List.length_append, List.length_cons, List.length_take, List.length_drop]
    omega
  subst e
  refine ⟨hr.step.2 hm, .inr ?_, ?_, fun x hx => ?_⟩
  · rcases h.new with ⟨rfl, _⟩ | h
    · omega
    · omega
  · have := h.few
    rw [List.length_append, hl]
    omega
  · rcases List.mem_append.1 hx with hx | hx
    · exact h.ok x hx
    · exact h2 x hx
theorem In.done {l : List O} {code : Str} {nl D0 : List Str} {k : Nat} {D E : List Str} (h : In l code nl D0 k D E) (hk : nl.length ≤ k) : Bfs (nx l) code D E := by
  have hr := h.rnd
  rw [List.drop_eq_nil_of_le hk] at hr
  have := rnd_ok hr
  simpa [rndV] using this
theorem strs_own {w : World} {b : Nat} {v : Value} {D : List Str} (h : OwnS w b v D) (hl : ∀ x ∈ D, x.length ≤ 1152921504606846976) : ∃ A c, v = .slice A D.length c ∧ Strs w A D.length c D := by
  obtain ⟨A, c, e, hs, _⟩ := OwnS.strs h hl
  exact ⟨A, c, e, hs⟩
set_option maxRecDepth 100000 in
set_option maxHeartbeats 4000000 in
theorem needs_r (A : Option Addr) (n c : Nat) (vs : List V) (l : List O) (code : Str) (hN : (allN l).length ≤ 999) (w : World) (h : Offs w A n c vs l) :
    Calls Try.prog 24 #[.slice A n c, .string ⟨code.toArray⟩] w fun e w' => ∃ B d, e = .returned (.slice B (needsV l code).length d) ∧ Strs w' B (needsV l code).length d (needsV l code) ∧ w.grownBy w' none := by
  have HH := Lib.hid (fun W (g : w.grownBy W none) => h.kept g)
  have HF := Lib.hid (findN_r A n c vs l code w h)
  have HN := Lib.hid hN
  clear h hN
  go_enter Try.func24, Try.ntmps24
  go_wp2_with fail
  refine HF.out.mono ?_
  rintro e w2 ⟨v, b, rfl, g, hs, -, -⟩
  have G2 := Lib.hid g
  clear g HF
  obtain ⟨yc, yr, yp, yA, yn, yd, zA, zn, zd⟩ := v
  dsimp only at hs
  simp only [V.cells]
  obtain ⟨w3, e3, HP, g3⟩ := row_of w2 35 #[.string ⟨yc.toArray⟩, .int .i64 yr, .int .i64 yp, .slice yA yn yd, .slice zA zn zd]
  have HS := Lib.hid (hs.kept g3)
  have G3 := Lib.hid (G2.out.trans g3)
  have E3 := Lib.hid e3
  clear e3 g3 hs G2
  have c4 := HP.c 4 rfl
  clear HP
  go_upto_region 3 with fail
  rw [← E3.out]
  clear E3
  generalize w2.heap.size = P at *
  go_wp2_with fail
  clear c4
  go_loopw [5, 8] (fun o x wr => ∃ (B : Option Addr) (m d : Nat) (D : List Str) (C : Option Addr) (q p : Nat) (nl : List Str), o = .slice B m d ∧ x = .slice C q p ∧ Hid (Strs wr B m d D ∧ Strs wr C q p nl ∧ Bfs (nx l) code D nl) ∧ Hid (w.grownBy wr none)) (fun o x _ => 2 * (1000 - lenS o) + min (lenS x) 1)
  case atStart => exact ⟨none, 0, 0, [], zA, zn, zd, _, rfl, rfl, Lib.hid ⟨Strs.nil_ _, HS.out, bfs_start _ _⟩, G3⟩
  case round =>
    clear HS G3
    obtain ⟨B, m, d, D, C, q, p, nl, rfl, rfl, H, HG⟩ := hrel
    have hle := H.out.2.1.v.le
    have hcap := H.out.2.1.v.cap
    by_cases hq : 0 < q
    · have z1 : decide ((0 : Int) < (q : Int)) = true := decide_eq_true (by omega)
      have z2 : ((0 : Int) < (q : Int)) = True := eq_true (by omega)
      have z3 : (0 < q) = True := eq_true hq
      have HQ := Lib.hid hq
      clear hq
      have HI : Hid (In l code nl D 0 D []) := Lib.hid ⟨by simpa using H.out.2.2.rnd, .inl ⟨rfl, rfl⟩, by simp, by simp⟩
      have HC := Lib.hid (fun W (g : wr.grownBy W none) => H.out.2.1.kept g)
      have HSD := Lib.hid H.out.1
      have HLM := Lib.hid H.out.1.len
      have HLQ := Lib.hid H.out.2.1.len
      clear H
      go_wp2_with fail
      clear z1 z2 z3
      generalize wr = wo at *
      go_loopw [5, 9, 10] (fun o y z wr => ∃ (k : Nat) (B : Option Addr) (m2 d : Nat) (D2 E : List Str), k ≤ q ∧ o = .slice B m2 d ∧ z = .int .i64 (k : Int) ∧ Hid (Strs wr B m2 d D2 ∧ OwnS wr wo.heap.size y E ∧ In l code nl D k D2 E ∧ ∀ ad, B = some ad → 0 < m2 → some ad.block ≠ y.ownBlock) ∧ Hid (wo.grownBy wr none)) (fun _ _ z _ => q - (intOf z).toNat)
      case atStart => exact ⟨0, B, m, d, D, [], Nat.zero_le _, rfl, rfl, Lib.hid ⟨HSD.out, World.ownsRow_nil _ _ 9 1, HI.out, (fun _ _ _ e => by cases e)⟩, Lib.hid (grown_refl _)⟩
      case round =>
        clear HI HSD
        obtain ⟨k, B2, m2, d2, D2, E, hk, rfl, rfl, HI, HW⟩ := hrel
        generalize wr = wi at *
        generalize u9 = y at *
        have hle2 := HI.out.1.v.le
        have hcap2 := HI.out.1.v.cap
        by_cases hlt : k < q
        · obtain ⟨ad, s, hsx, hsl, rfl, _, cx⟩ := (HC.out _ HW.out).at k hlt
          have HX := Lib.hid hsx
          have k1 : (0 : Int) ≤ (k : Int) := by omega
          have k2 : (k : Int) < (q : Int) := by omega
          have k3 : decide ((k : Int) < (q : Int)) = true := decide_eq_true k2
          have k5 : IntKind.i64.wrap (k : Int) = (k : Int) := by rw [IntKind.wrap_i64]; omega
          have k6 : IntKind.i64.wrap ((k : Int) + 1) = (k : Int) + 1 := by rw [IntKind.wrap_i64]; omega
          clear hsx
          go_wp2_with fail
          refine (has_r B2 m2 d2 D2 s _ HI.out.1).mono ?_
          rintro e w4 ⟨rfl, rfl⟩
          by_cases hm : s ∈ D2
          · have HI2 := Lib.hid (HI.out.2.2.1.old HX.out hm)
            rw [decide_eq_true hm]
            clear hm
            go_wp2_with fail
            go_roundw
            case rel => exact ⟨k + 1, B2, m2, d2, D2, E, by omega, rfl, by go_num, Lib.hid ⟨HI.out.1, HI.out.2.1, HI2.out, HI.out.2.2.2⟩, HW⟩
            case measure => simp [intOf]; omega
          · have HM := Lib.hid hm
            rw [decide_eq_false hm]
            clear hm
            have HSM := Lib.hid (HI.out.2.2.1.small HN.out)
            go_wp2_with fail
            refine (put_r B2 m2 d2 D2 s hsl _ HI.out.1 HI.out.2.2.1.rnd.inc (by have := HI.out.1.len; have := HSM.out; omega)).mono ?_
            rintro e w5 ⟨B3, m3, d3, D3, rfl, hs3, hi3, hD3, -, g5, hb3⟩
            have H3 := Lib.hid hs3
            have I3 := Lib.hid hi3
            have HB3 : Hid (∀ ad, B3 = some ad → some ad.block ≠ y.ownBlock) := Lib.hid (fun ad e1 e2 => by
              rcases hb3 with ⟨h, _⟩ | h
              · exact HM.out h
              · have h1 := h ad e1
                have h2 := (World.ownsRow.lt HI.out.2.1 _ e2.symm).2
                omega)
            clear hb3
            have J3 := Lib.hid hD3
            have G5 := Lib.hid (HW.out.trans g5)
            have OE := Lib.hid (World.ownsRow.kept HI.out.2.1 g5 (by cases y.ownBlock with | none => exact .inl rfl | some k => exact .inr (by simp)))
            clear hs3 hi3 hD3
            replace cx := gcell g5 cx
            clear g5
            go_wp2_with fail
            refine (findN_r A n c vs l s _ (HH.out _ (HG.out.trans G5.out))).mono ?_
            rintro e w6 ⟨v6, b6, rfl, g6, hs6, hl6, -⟩
            obtain ⟨yc, yr, yp, yA, yn, yd, zA, zn, zd⟩ := v6
            dsimp only at hs6
            simp only [V.cells]
            obtain ⟨w7, e7, HP7, g7⟩ := row_of w6 35 #[.string ⟨yc.toArray⟩, .int .i64 yr, .int .i64 yp, .slice yA yn yd, .slice zA zn zd]
            have HS7 := Lib.hid (hs6.kept g7)
            have HL7 := Lib.hid hl6
            have G7 := Lib.hid (g6.trans g7)
            have E7 := Lib.hid e7
            clear e7 g6 g7 hs6 hl6 cx
            have c4 := HP7.c 4 rfl
            clear HP7
            go_upto_region 12 with fail
            rw [← E7.out]
            clear E7
            generalize w6.heap.size = P7 at *
            have H3n := Lib.hid (H3.out.kept G7.out)
            have OEn := Lib.hid (World.ownsRow.kept OE.out G7.out (by cases y.ownBlock with | none => exact .inl rfl | some k => exact .inr (by simp)))
            have HIN := Lib.hid (HI.out.2.2.1.put HX.out HM.out I3.out J3.out HL7.out HS7.out.ok)
            have HLE : Hid (E.length + zn ≤ 1000000) := Lib.hid (by have h1 := HI.out.2.2.1.few; have h2 := HSM.out; have h3 := HL7.out; have h4 := HS7.out.len; omega)
            have HBS : Hid (wo.heap.size ≤ w7.heap.size) := Lib.hid (Nat.le_trans G5.out.size G7.out.size)
            have HW7 := Lib.hid (G5.out.trans G7.out)
            have HLZ := Lib.hid HS7.out.len
            clear HI HW H3 I3 J3 OE G5 G7 HM HSM
            go_upto_region 8 with (at_builtin; first
              | (refine wpList_append_vals elt9 rfl (.tmp 52) (.tmp 54) rfl wo.heap.size y E.length _ rfl OEn.out zA zn zd _ rfl HS7.out.v HLE.out HBS.out ?_
                 intro y2 w8 ho hg hb hv
                 have OY : Hid (OwnS w8 wo.heap.size y2 (E ++ nx l s)) := Lib.hid (by unfold OwnS; rw [List.length_append, ← HLZ.out, List.map_append]; exact ho)
                 have H3m : Hid (Strs w8 B3 m3 d3 D3) := Lib.hid ⟨H3n.out.v.keptR hg (fun ad e _ => HB3.out ad e), H3n.out.ok⟩
                 have HW8 := Lib.hid (HW7.out.andThen hg (fun r e => .inl (World.ownsRow.lt OEn.out r e).1))
                 have HBY : Hid (∀ ad, B3 = some ad → 0 < m3 → some ad.block ≠ y2.ownBlock) := Lib.hid (fun ad e1 h0 e2 => by
                   rcases hb with h | h
                   · exact HB3.out ad e1 (e2.trans h)
                   · rw [h] at e2
                     injection e2 with e2
                     obtain ⟨ad', e', h', _⟩ := H3n.out.v.cell h0
                     rw [e1] at e'
                     injection e' with e'
                     subst e'
                     omega)
                 clear ho hg hb hv))
            go_wp2_with fail
            go_roundw
            case rel => exact ⟨k + 1, B3, m3, d3, D3, E ++ nx l s, by omega, rfl, by go_num, Lib.hid ⟨H3m.out, OY.out, HIN.out, HBY.out⟩, HW8⟩
            case measure => simp [intOf]; omega
        · obtain rfl : q = k := by omega
          have j3 : decide ((q : Int) < (q : Int)) = false := decide_eq_false (by omega)
          have HD := Lib.hid (HI.out.2.2.1.done (by have := HLQ.out; omega))
          have HSM := Lib.hid (HI.out.2.2.1.small HN.out)
          have HNW := Lib.hid HI.out.2.2.1.new
          obtain ⟨C2, c2, rfl, hs2⟩ := strs_own HI.out.2.1 HI.out.2.2.1.ok
          have HS2 := Lib.hid hs2
          have HLD := Lib.hid HI.out.1.len
          clear hs2
          go_wp2_with fail
          go_roundw
          case rel => exact ⟨B2, m2, d2, D2, C2, _, c2, E, rfl, rfl, Lib.hid ⟨HI.out.1, HS2.out, HD.out⟩, Lib.hid (HG.out.trans HW.out)⟩
          case measure =>
            simp only [lenS]
            have h1 := HNW.out
            have h2 := HSM.out
            have h3 := HLD.out
            have h4 := HLM.out
            have h5 := HQ.out
            rcases h1 with ⟨h1, h6⟩ | h1
            · subst h6
              rw [h1] at h3
              simp only [List.length_nil]
              omega
            · omega
    · obtain rfl : q = 0 := by omega
      have z1 : decide ((0 : Int) < ((0 : Nat) : Int)) = false := by simp
      have HE : Hid (D = needsV l code) := Lib.hid (by
        have h1 := H.out.2.1.len
        have h2 : nl = [] := List.eq_nil_of_length_eq_zero h1.symm
        have h3 := H.out.2.2
        rw [h2] at h3
        exact h3.done.eq (needs_is l code))
      have HS := Lib.hid H.out.1
      have HL := Lib.hid H.out.1.len
      clear H
      go_wp2_with fail
      go_ret
      exact ⟨B, d, by rw [← HE.out, ← HL.out]; rfl, by rw [← HE.out, ← HL.out]; exact HS.out, HG.out⟩
end Go.Proofs.Ytnkemoicgadefaa
