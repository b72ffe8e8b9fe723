/-
  The reference's Order.
-/
import Derived.Test.YtnkemoicgadefaaRck
namespace Go.Proofs.Ytnkemoicgadefaa
open Go.RowKit
attribute [local go_sem] get_mk extract_mk
theorem met_self {l : List O} (h : Right l) {o : O} (ho : o ∈ l) (D : List Str) : metV l o.code D = o.needs.all fun n => decide (n ∈ D) := by
  unfold metV
  rw [fnd_self (inc_nodup h.inc) o ho]
theorem ord_step {l : List O} {D : List Str} {o : O} (h : pickV l D = some o) {m : Nat} (hm : D.length < m) : ordN l (m - D.length) D = ordN l (m - (D ++ [o.code]).length) (D ++ [o.code]) := by
  obtain ⟨q, hq⟩ : ∃ q, m - D.length = q + 1 := ⟨m - D.length - 1, by omega⟩
  have hq2 : m - (D ++ [o.code]).length = q := by simp; omega
  rw [hq, hq2]
  show (match pickV l D with | some o => ordN l q (D ++ [o.code]) | none => D) = _
  rw [h]
theorem own_grow {w w' : World} {b : Nat} {v : Value} {D : List Str} (h : OwnS w b v D) (g : w.grownBy w' none) : OwnS w' b v D := World.ownsRow.kept h g (by cases v.ownBlock with | none => exact .inl rfl | some k => exact .inr (by simp))
theorem ok_snoc {D : List Str} {s : Str} (h : ∀ x ∈ D, x.length ≤ 1152921504606846976) (hs : s.length ≤ 1152921504606846976) : ∀ x ∈ D ++ [s], x.length ≤ 1152921504606846976 := fun x hx => by
  rcases List.mem_append.1 hx with hx | hx
  · exact h x hx
  · rw [List.mem_singleton.1 hx]; exact hs
set_option maxRecDepth 100000 in
set_option maxHeartbeats 8000000 in
theorem order_r (A : Option Addr) (n c : Nat) (vs : List V) (l : List O) (hN : (allN l).length ≤ 999) (w : World) (h : Offs w A n c vs l) :
    Calls Try.prog 18 #[.slice A n c] w fun e w' => ∃ B d, e = .returned (.slice B (orderV l).length d) ∧ Strs w' B (orderV l).length d (orderV l) ∧ w.grownBy w' none := by
  have HO := Lib.hid (fun W (g : w.grownBy W none) => h.kept g)
  have CK := Lib.hid (check_r A n c vs l hN w h)
  have HL := Lib.hid h.len
  have hle := h.v.le
  have hcap := h.v.cap
  clear h hN
  go_enter Try.func18, Try.ntmps18
  go_wp2_with fail
  refine CK.out.mono ?_
  rintro e w1 ⟨rfl, g⟩
  have G1 := Lib.hid g
  clear g CK
  by_cases hz : checkV l = 0
  · have HR := Lib.hid (right_of hz)
    have HE : Hid (orderV l = ordN l (n - ([] : List Str).length) []) := Lib.hid (by unfold orderV; rw [if_pos hz, HL.out]; rfl)
    rw [hz]
    clear hz
    go_wp2_with fail
    go_loopw [3] (fun y wr => ∃ D : List Str, Hid (OwnS wr w.heap.size y D ∧ D.length ≤ n ∧ orderV l = ordN l (n - D.length) D ∧ ∀ s ∈ D, s.length ≤ 1152921504606846976) ∧ Hid (w.grownBy wr none)) (fun y _ => n - lenS y)
    case atStart => exact ⟨[], Lib.hid ⟨World.ownsRow_nil _ _ 9 1, Nat.zero_le _, HE.out, by simp⟩, G1⟩
    case round =>
      clear HE G1
      obtain ⟨D, H, HG⟩ := hrel
      generalize u3 = y at *
      obtain ⟨Y, d, rfl, hs⟩ := strs_own H.out.1 H.out.2.2.2
      have HS := Lib.hid hs
      have hdle := hs.v.le
      have hdcap := hs.v.cap
      have HDN := Lib.hid H.out.2.1
      clear hs
      obtain ⟨m, hm⟩ : ∃ m, m = D.length := ⟨_, rfl⟩
      rw [← hm] at HS hdle ⊢
      have HM := Lib.hid hm
      have hmn : m ≤ n := by have := HDN.out; omega
      clear hm
      by_cases hlt : m < n
      · have HP := Lib.hid (pick_some HR.out (left_of HR.out (by rw [← HM.out, ← HL.out]; exact hlt)))
        have k1 : decide ((m : Int) < (n : Int)) = true := decide_eq_true (by omega)
        go_wp2_with fail
        clear k1
        generalize wr = wo at *
        go_loopw [3, 4] (fun y z wr => ∃ k : Nat, k ≤ n ∧ y = .slice Y m d ∧ z = .int .i64 (k : Int) ∧ Hid ((l.take k).find? (nextB D) = none) ∧ Hid (wo.grownBy wr none)) (fun _ z _ => n - (intOf z).toNat)
        case atStart => exact ⟨0, Nat.zero_le _, rfl, rfl, Lib.hid rfl, Lib.hid (grown_refl _)⟩
        case round =>
          obtain ⟨k, hk, rfl, rfl, HT, HW⟩ := hrel
          by_cases hl2 : k < n
          · obtain ⟨ad, v, o, ho, _, rfl, hbl, hv, x0, x1, x2, x3, x4⟩ := (HO.out _ (HG.out.trans HW.out)).at k hl2
            obtain ⟨vc, vr, vp, sA, sn, sc, nA, nn, nc⟩ := v
            have hcd := hv.code
            simp only at x0 hcd
            subst hcd
            have HOO := Lib.hid ho
            have HX := Lib.hid (find_snoc (p := nextB D) ho HT.out)
            have HXS := Lib.hid (find_at (p := nextB D) ho HT.out)
            have HME := Lib.hid (met_self HR.out (List.mem_of_getElem? ho) D)
            have k1 : (0 : Int) ≤ (k : Int) := by omega
            have k2 : (k : Int) < (n : Int) := by omega
            have k3 : decide ((k : Int) < (n : Int)) = true := decide_eq_true k2
            have k5 : IntKind.i64.wrap (k : Int) = (k : Int) := by rw [IntKind.wrap_i64]; omega
            have k6 : IntKind.i64.wrap ((k : Int) + 1) = (k : Int) + 1 := by rw [IntKind.wrap_i64]; omega
            have HOK := Lib.hid hv.ok.1
            clear hv hbl ho x1 x2 x3 x4
            go_wp2_with fail
            refine (has_r Y m d D o.code _ (HS.out.kept HW.out)).mono ?_
            rintro e w4 ⟨rfl, rfl⟩
            by_cases hm : o.code ∈ D
            · have HT2 := Lib.hid (HX.out (by unfold nextB; rw [decide_eq_true hm]; rfl))
              rw [decide_eq_true hm]
              clear hm HX HXS HME
              go_wp2_with fail
              go_roundw
              case rel => exact ⟨k + 1, by omega, rfl, by go_num, HT2, HW⟩
              case measure => simp [intOf]; omega
            · have HNM := Lib.hid hm
              rw [decide_eq_false hm]
              clear hm
              go_wp2_with fail
              refine (met_r (some ad) n c vs l o.code Y m d D _ (HO.out _ (HG.out.trans HW.out)) (HS.out.kept HW.out)).mono ?_
              rintro e w5 ⟨rfl, g5⟩
              have HW5 := Lib.hid (HW.out.trans g5)
              replace x0 := gcell g5 x0
              rw [HME.out]
              clear g5
              cases hal : (o.needs.all fun n => decide (n ∈ D)) with
              | false =>
                have HT2 := Lib.hid (HX.out (by unfold nextB; rw [hal]; simp))
                clear hal HX HXS HME x0
                go_wp2_with fail
                go_roundw
                case rel => exact ⟨k + 1, by omega, rfl, by go_num, HT2, HW5⟩
                case measure => simp [intOf]; omega
              | true =>
                have HPK : Hid (pickV l D = some o) := Lib.hid (HXS.out (by unfold nextB; rw [hal, decide_eq_false HNM.out]; rfl))
                clear hal HX HXS HME
                have HE2 := Lib.hid (H.out.2.2.1.trans (ord_step HPK.out (by rw [← HM.out]; exact hlt)))
                have HOD := Lib.hid (own_grow (own_grow H.out.1 HW5.out) (World.grownBy_alloc w5 (.cells #[.string ⟨o.code.toArray⟩] 9) none))
                have HV2 := Lib.hid (new_vals w5 9 [.string ⟨o.code.toArray⟩] 1 rfl (by omega) (fun u hu => by rw [List.mem_singleton.1 hu]; rfl))
                have ga := Lib.hid ((HG.out.trans HW5.out).trans (World.grownBy_alloc w5 (.cells #[.string ⟨o.code.toArray⟩] 9) none))
                have HBL : Hid (D.length + 1 ≤ 1000000) := Lib.hid (by have := HR.out.few; have := HL.out; have := HM.out; omega)
                have HOKS := Lib.hid (ok_snoc H.out.2.2.2 HOK.out)
                clear HPK
                go_upto_region 4 with (at_builtin; first
                  | (refine wpList_append_vals elt9 rfl (.tmp 37) (.tmp 43) rfl w.heap.size _ D.length _ (by rw [← HM.out]; rfl) HOD.out _ 1 1 _ rfl HV2.out HBL.out ga.out.size ?_
                     intro y2 w8 ho hg hb hv
                     have OY : Hid (OwnS w8 w.heap.size y2 (D ++ [o.code])) := Lib.hid (by unfold OwnS; rw [List.length_append, List.map_append]; exact ho)
                     have HW8 := Lib.hid (ga.out.andThen hg (fun r e => .inl (World.ownsRow.lt HOD.out r e).1))
                     clear ho hg hb hv))
                go_wp2_with fail
                obtain ⟨Y2, d2, rfl, _⟩ := strs_own OY.out HOKS.out
                have hm2 := HM.out
                exact ⟨⟨D ++ [o.code], Lib.hid ⟨OY.out, by rw [List.length_append, List.length_singleton]; omega, HE2.out, HOKS.out⟩, HW8⟩, by simp only [lenS, List.length_append, List.length_singleton]; omega⟩
          · exfalso
            obtain ⟨o, ho⟩ := HP.out
            obtain rfl : n = k := by omega
            have h1 := HT.out
            rw [HL.out, List.take_length] at h1
            rw [pick_eq (S := D) (fun _ => Iff.rfl), h1] at ho
            cases ho
      · obtain rfl : m = n := by omega
        have HEO : Hid (orderV l = D) := Lib.hid (by
          have := H.out.2.2.1
          rw [← HM.out, Nat.sub_self] at this
          exact this)
        clear H hlt
        have k1 : decide ((m : Int) < (m : Int)) = false := decide_eq_false (by omega)
        go_wp2_with fail
        go_ret
        exact ⟨Y, d, by rw [HEO.out, ← HM.out]; rfl, by rw [HEO.out, ← HM.out]; exact HS.out, HG.out⟩
  · have HE : Hid (orderV l = []) := Lib.hid (by unfold orderV; rw [if_neg hz])
    have hz2 : (checkV l != 0) = true := by simpa using hz
    clear hz
    generalize checkV l = e9 at *
    go_wp2_with fail
    go_ret
    exact ⟨none, 0, by rw [HE.out]; rfl, by rw [HE.out]; exact Strs.nil_ _, G1.out⟩
end Go.Proofs.Ytnkemoicgadefaa
