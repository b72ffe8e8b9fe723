/-
  The reference's number, by its contract.
-/
import Derived.Test.YtmohcanfkcopiaaDoorRefMath
import Derived.Test.YtmohcanfkcopiaaDoorRefRd
import Derived.Deep.LoopGhost
import Derived.Test.YtmohcanfkcopiaaDoorList
namespace Go.Proofs.YtmohcanfkcopiaaDoor
open Go.RowKit
attribute [local go_sem] get_mk extract_mk

set_option maxHeartbeats 400000 in
theorem rnum_bad (w : World) (b : Nat) (s : List UInt8) (k : Int) (h : Rr w b s none) : Calls Tryd.prog 43 #[.pointer (some ⟨b, 0, none⟩), .int .u8 k] w fun e w' => e = .returned (.tuple #[.int .i64 0, .bool false]) ∧ w = w' := by
  obtain ⟨p, d, h, hp, h1, h2⟩ := h
  cases d with
  | false => cases h2 rfl
  | true =>
    have c2 := h.c2
    go_enter Tryd.func43, Tryd.ntmps43
    go_wp2
    go_ret2
    exact ⟨rfl, rfl⟩

/-- what number answers at p -/
def RN (c : UInt8) (s : List UInt8) (p b : Nat) (w : World) (e : Ending) (w' : World) : Prop := match numP c (s.drop p) with
  | some (n, t) => e = .returned (.tuple #[.int .i64 n, .bool true]) ∧ Rr w' b s (some t) ∧ w.grownBy w' (some b)
  | none => e = .returned (.tuple #[.int .i64 0, .bool false]) ∧ Rr w' b s (some (s.drop p)) ∧ w.grownBy w' (some b)
theorem RN_none {c : UInt8} {s : List UInt8} {p b : Nat} {w w' : World} {e : Ending} (hn : numP c (s.drop p) = none)
    (h : e = .returned (.tuple #[.int .i64 0, .bool false]) ∧ Rr w' b s (some (s.drop p)) ∧ w.grownBy w' (some b)) : RN c s p b w e w' := by
  unfold RN; rw [hn]; exact h
theorem RN_some {c : UInt8} {s : List UInt8} {p b : Nat} {w w' : World} {e : Ending} {n : Int} {t : List UInt8} (hn : numP c (s.drop p) = some (n, t))
    (h : e = .returned (.tuple #[.int .i64 n, .bool true]) ∧ Rr w' b s (some t) ∧ w.grownBy w' (some b)) : RN c s p b w e w' := by
  unfold RN; rw [hn]; exact h

set_option maxRecDepth 100000 in
set_option maxHeartbeats 8000000 in
theorem rnum_go (w : World) (b : Nat) (s : List UInt8) (hs : s.length ≤ 1000000) (c : UInt8) (hc : 58 ≤ c.toNat) (p : Nat) (hp : p ≤ s.length) (h : Rf w b s p false) :
    Calls Tryd.prog 43 #[.pointer (some ⟨b, 0, none⟩), .int .u8 c.toNat] w fun e w' => RN c s p b w e w' := by
  have c0 := h.c0
  have c1 := h.c1
  have c2 := h.c2
  go_enter Tryd.func43, Tryd.ntmps43
  go_wp2
  have c0' := h.c0
  have c1' := h.c1
  go_loopw [6] (fun i wr => ∃ t : Nat, p ≤ t ∧ t ≤ p + 21 ∧ t ≤ s.length ∧ i = .int .i64 t ∧ c ∉ (s.drop p).take (t - p) ∧ ∃ q, wr = w.drewN q) (fun i _ => p + 21 - (intOf i).toNat)
  case atStart => exact ⟨p, by omega, by omega, by omega, rfl, by simp, 0, rfl⟩
  case round =>
    obtain ⟨t, ht1, ht2, ht3, rfl, hct, q, rfl⟩ := hrel
    have Hct := Lib.hid hct
    clear hct
    by_cases hlt : t < s.length
    · have hi1 : (t : Int) < (s.length : Int) := by omega
      by_cases hx : s[t]'hlt = c
      · have hb1 : (((s[t]'hlt).toNat : Int) != (c.toNat : Int)) = false := by rw [hx]; simp
        have Hx := Lib.hid hx
        clear hx
        have hfe : (s.drop p).take (t - p) = (s.take t).drop p := by rw [List.drop_take]
        have hfl : ((s.take t).drop p).length = t - p := by rw [List.length_drop, List.length_take]; omega
        have hL : (s.take t).drop p ++ c :: s.drop (t + 1) = s.drop p := by
          have e1 : s = s.take t ++ c :: s.drop (t + 1) := by rw [← Hx.out, ← List.drop_eq_getElem_cons hlt, List.take_append_drop]
          have e2 : (s.take t).length = t := by rw [List.length_take]; omega
          have e3 := congrArg (List.drop p) e1
          rw [List.drop_append_of_le_length (by omega)] at e3
          exact e3.symm
        have Hcf : Hid (c ∉ (s.take t).drop p) := Lib.hid (by rw [← hfe]; exact Hct.out)
        obtain ⟨f, hf⟩ : ∃ f, (s.take t).drop p = f := ⟨_, rfl⟩
        rw [hf] at hfl hL Hcf
        have hf21 : f.length ≤ 21 := by omega
        clear hfl
        obtain ⟨ds, ng, hF⟩ := form_of f
        have HF := Lib.hid hF
        have HL := Lib.hid hL
        clear hfe hF Hct
        have hi3 : (p : Int) ≤ (t : Int) := by omega
        have hi4 : (t : Int) ≤ (s.length : Int) := by omega
        have hsp : ((t : Int) == (s.length : Int)) = false := by rw [beq_eq_false_iff_ne]; omega
        by_cases hj : (t : Int) < (p : Int) + 21
        all_goals
          go_wp2_with fail
          go_quiet (fail)
          clear hf hj
          cases ng with
          | true =>
            obtain rfl : f = 45 :: ds := HF.out.parts
            have hds : ds.length ≤ 20 := by simpa using hf21
            clear hf21
            go_wp2_with fail
            go_loopg [9, 10] (ds.length + 1) (fun g n i wr => ∃ j : Nat, g = ds.length + 1 - j ∧ j ≤ ds.length ∧ i = .int .i64 ((j : Int) + 1) ∧ n = .int .i64 (-(dval (ds.take j) : Int)) ∧ dval (ds.take j) ≤ 9223372036854775808 ∧ ∃ q, wr = w.drewN q)
            case atStart => exact ⟨0, rfl, by omega, rfl, rfl, by simp [dval], _, rfl⟩
            case round =>
              obtain ⟨j, hgj, hj, rfl, rfl, hdj, q, rfl⟩ := hrel
              have Hgj := Lib.hid hgj
              clear hgj
              by_cases hlt : j < ds.length
              · obtain ⟨x, hx⟩ : ∃ x, ds[j]? = some x := ⟨_, List.getElem?_eq_getElem hlt⟩
                have hxe : ds[j]'hlt = x := by rw [List.getElem?_eq_getElem hlt] at hx; injection hx
                have htk := take_one ds j x hx
                have hdn : dval (ds.take (j + 1)) = 10 * dval (ds.take j) + (x.toNat - 48) := by rw [htk, dval_snoc]
                have hx255 := x.toNat_lt
                have Hx := Lib.hid hx
                have Hdn := Lib.hid hdn
                clear hx htk hdn
                generalize hD : dval (ds.take j) = D at *
                have HD := Lib.hid hD
                clear hD
                have hi5 : (j : Int) < (ds.length : Int) := by omega
                by_cases hdig : 48 ≤ x.toNat ∧ x.toNat ≤ 57
                · have k1 : ¬ ((x.toNat : Int) - 48 < 0) := by omega
                  have k2 : ¬ (9 < (x.toNat : Int) - 48) := by omega
                  by_cases hov : 9223372036854775808 < 10 * D + (x.toNat - 48)
                  · have hn : numP c (s.drop p) = none := by
                      rw [← hL]
                      exact numP_not hc Hcf.out (fun m hm => no_large HF.out (k := j + 1) (by rw [Hdn.out]; exact hov) m hm)
                    have Hn := Lib.hid hn
                    clear hn
                    by_cases k3 : 922337203685477580 < D
                    · have k4 : (-(D : Int)) < -922337203685477580 := by omega
                      go_wp2_with fail
                      go_ret2
                      exact RN_none Hn.out ⟨rfl, ⟨p, false, h.grown (grown_drewN w _ none) (by simp), hp, by simp, by simp⟩, grown_drewN _ _ _⟩
                    · obtain rfl : D = 922337203685477580 := by omega
                      have k5 : 8 < (x.toNat : Int) - 48 := by omega
                      go_wp2_with fail
                      go_ret2
                      exact RN_none Hn.out ⟨rfl, ⟨p, false, h.grown (grown_drewN w _ none) (by simp), hp, by simp, by simp⟩, grown_drewN _ _ _⟩
                  · have k4 : ¬ (-(D : Int)) < -922337203685477580 := by omega
                    have k6 : ((-(D : Int)) == -922337203685477580) = true → ¬ 8 < (x.toNat : Int) - 48 := by intro e; rw [beq_iff_eq] at e; omega
                    have k7 : -9223372036854775808 ≤ 10 * (-(D : Int)) := by omega
                    have k8 : -9223372036854775808 ≤ 10 * (-(D : Int)) - ((x.toNat : Int) - 48) := by omega
                    by_cases k9 : D = 922337203685477580
                    all_goals
                      go_wp2_with fail
                      go_roundg (ds.length - j)
                      case measure => have := Hgj.out; omega
                      case rel => exact ⟨j + 1, by omega, by omega, by go_num, by rw [Hdn.out]; congr 1; omega, by rw [Hdn.out]; omega, _, rfl⟩
                · have hn : numP c (s.drop p) = none := by
                    rw [← hL]
                    exact numP_not hc Hcf.out (fun m _ => no_digit HF.out Hx.out hdig m)
                  have Hn := Lib.hid hn
                  clear hn
                  by_cases k1 : (x.toNat : Int) - 48 < 0
                  · go_wp2_with fail
                    go_ret2
                    exact RN_none Hn.out ⟨rfl, ⟨p, false, h.grown (grown_drewN w _ none) (by simp), hp, by simp, by simp⟩, grown_drewN _ _ _⟩
                  · have k2 : 9 < (x.toNat : Int) - 48 := by omega
                    go_wp2_with fail
                    go_ret2
                    exact RN_none Hn.out ⟨rfl, ⟨p, false, h.grown (grown_drewN w _ none) (by simp), hp, by simp, by simp⟩, grown_drewN _ _ _⟩
              · obtain rfl : j = ds.length := by omega
                rw [List.take_length] at hdj ⊢
                have hi5 : ¬ (ds.length : Int) < (ds.length : Int) := by omega
                generalize hD : dval ds = D at *
                have HD := Lib.hid hD
                clear hD
                have hI : I64 (-(D : Int)) := ⟨by omega, by omega⟩
                have hdec := dec_k (-(D : Int)) hI
                unfold DecSaid at hdec
                have hil := itoa_len hI
                by_cases heq : Lib.itoa (-(D : Int)) = (45 :: ds)
                · have hn : numP c (s.drop p) = some ((-(D : Int)), s.drop (t + 1)) := by
                    rw [← hL]
                    exact numP_cut hc Hcf.out (-(D : Int)) hI heq
                  have Hn := Lib.hid hn
                  have hq1 : (Lib.itoa (-(D : Int)) == (45 :: ds)) = true := by simpa using heq
                  rw [heq] at hdec
                  have Hdec := Lib.hid hdec
                  clear hdec
                  have f1 := h.fz 1
                  clear hn heq hq1
                  go_wp2_with (go_at_call 39; refine (Hdec.out _).mono ?_; rintro e w2 ⟨rfl, g2⟩; have h2 := Rf.grown (Rf.grown h (grown_drewN w _ none) (by simp)) g2 (by simp); have f2 := h2.fz 1; have d0 := h2.c0; have d1 := h2.c1)
                  go_ret2
                  exact RN_some Hn.out ⟨rfl, ⟨t + 1, false, h2.set1 (t + 1), by omega, by simp, by simp⟩, (grown_any ((grown_drewN w _ none).trans g2) _).trans (grown_setCell _ _ _ _)⟩
                · have hn : numP c (s.drop p) = none := by
                    rw [← hL]
                    refine numP_not hc Hcf.out (fun m hm e => heq ?_)
                    have := form_val HF.out e
                    rw [HD.out] at this
                    simp at this
                    subst this
                    exact e
                  have Hn := Lib.hid hn
                  have hq1 : (Lib.itoa (-(D : Int)) == (45 :: ds)) = false := by simpa using heq
                  have Heq := Lib.hid heq
                  have Hdec := Lib.hid hdec
                  clear hn heq hdec
                  go_wp2_with (go_at_call 39; refine (Hdec.out _).mono ?_; rintro e w2 ⟨rfl, g2⟩)
                  go_ret2
                  exact RN_none Hn.out ⟨rfl, ⟨p, false, h.grown ((grown_drewN w _ none).trans g2) (by simp), hp, by simp, by simp⟩, grown_any ((grown_drewN w _ none).trans g2) _⟩
          | false =>
            obtain rfl : f = ds := by simpa using HF.out.parts
            match f, HF.out.head rfl with
            | [], _ =>
              go_wp2_with fail
              have hn : numP c (s.drop p) = none := by rw [← hL]; exact numP_not hc Hcf.out (fun m _ => Go.Proofs.YtmohcanfkcopiaaDoor.itoa_ne_nil m)
              have Hn := Lib.hid hn
              clear hn
              have Hdec := Lib.hid (dec_k 0 ⟨by decide, by decide⟩)
              have hq1 : (Lib.itoa 0 == []) = false := by decide +kernel
              have hil : (Lib.itoa 0).length ≤ 20 := itoa_len ⟨by decide, by decide⟩
              go_loopg [9, 10] 1 (fun g n i wr => g = 1 ∧ i = .int .i64 0 ∧ n = .int .i64 0 ∧ ∃ q, wr = w.drewN q)
              case atStart => exact ⟨rfl, rfl, rfl, _, rfl⟩
              case round =>
                obtain ⟨rfl, rfl, rfl, q, rfl⟩ := hrel
                go_wp2_with (go_at_call 39; refine (Hdec.out _).mono ?_; rintro e w2 ⟨rfl, g2⟩)
                go_ret2
                exact RN_none Hn.out ⟨rfl, ⟨p, false, h.grown ((grown_drewN w _ none).trans g2) (by simp), hp, by simp, by simp⟩, grown_any ((grown_drewN w _ none).trans g2) _⟩
            | x0 :: r0, h45 =>
              have h45' : ((x0.toNat : Int) == 45) = false := by
                rw [beq_eq_false_iff_ne]
                intro e
                have e' : x0.toNat = 45 := by omega
                exact h45 (by rw [show x0 = 45 from UInt8.toNat_inj.1 (by rw [e']; rfl)]; rfl)
              go_wp2_with fail
              generalize hx0 : x0 :: r0 = ds at *
              go_loopg [9, 10] (ds.length + 1) (fun g n i wr => ∃ j : Nat, g = ds.length + 1 - j ∧ j ≤ ds.length ∧ i = .int .i64 (j : Int) ∧ n = .int .i64 (-(dval (ds.take j) : Int)) ∧ dval (ds.take j) ≤ 9223372036854775808 ∧ ∃ q, wr = w.drewN q)
              case atStart => exact ⟨0, rfl, by omega, rfl, rfl, by simp [dval], _, rfl⟩
              case round =>
                obtain ⟨j, hgj, hj, rfl, rfl, hdj, q, rfl⟩ := hrel
                have Hgj := Lib.hid hgj
                clear hgj
                by_cases hlt : j < ds.length
                · obtain ⟨x, hx⟩ : ∃ x, ds[j]? = some x := ⟨_, List.getElem?_eq_getElem hlt⟩
                  have hxe : ds[j]'hlt = x := by rw [List.getElem?_eq_getElem hlt] at hx; injection hx
                  have htk := take_one ds j x hx
                  have hdn : dval (ds.take (j + 1)) = 10 * dval (ds.take j) + (x.toNat - 48) := by rw [htk, dval_snoc]
                  have hx255 := x.toNat_lt
                  have Hx := Lib.hid hx
                  have Hdn := Lib.hid hdn
                  clear hx htk hdn
                  generalize hD : dval (ds.take j) = D at *
                  have HD := Lib.hid hD
                  clear hD
                  have hi5 : (j : Int) < (ds.length : Int) := by omega
                  by_cases hdig : 48 ≤ x.toNat ∧ x.toNat ≤ 57
                  · have k1 : ¬ ((x.toNat : Int) - 48 < 0) := by omega
                    have k2 : ¬ (9 < (x.toNat : Int) - 48) := by omega
                    by_cases hov : 9223372036854775808 < 10 * D + (x.toNat - 48)
                    · have hn : numP c (s.drop p) = none := by
                        rw [← hL]
                        exact numP_not hc Hcf.out (fun m hm => no_large HF.out (k := j + 1) (by rw [Hdn.out]; exact hov) m hm)
                      have Hn := Lib.hid hn
                      clear hn
                      by_cases k3 : 922337203685477580 < D
                      · have k4 : (-(D : Int)) < -922337203685477580 := by omega
                        go_wp2_with fail
                        go_ret2
                        exact RN_none Hn.out ⟨rfl, ⟨p, false, h.grown (grown_drewN w _ none) (by simp), hp, by simp, by simp⟩, grown_drewN _ _ _⟩
                      · obtain rfl : D = 922337203685477580 := by omega
                        have k5 : 8 < (x.toNat : Int) - 48 := by omega
                        go_wp2_with fail
                        go_ret2
                        exact RN_none Hn.out ⟨rfl, ⟨p, false, h.grown (grown_drewN w _ none) (by simp), hp, by simp, by simp⟩, grown_drewN _ _ _⟩
                    · have k4 : ¬ (-(D : Int)) < -922337203685477580 := by omega
                      have k6 : ((-(D : Int)) == -922337203685477580) = true → ¬ 8 < (x.toNat : Int) - 48 := by intro e; rw [beq_iff_eq] at e; omega
                      have k7 : -9223372036854775808 ≤ 10 * (-(D : Int)) := by omega
                      have k8 : -9223372036854775808 ≤ 10 * (-(D : Int)) - ((x.toNat : Int) - 48) := by omega
                      by_cases k9 : D = 922337203685477580
                      all_goals
                        go_wp2_with fail
                        go_roundg (ds.length - j)
                        case measure => have := Hgj.out; omega
                        case rel => exact ⟨j + 1, by omega, by omega, by go_num, by rw [Hdn.out]; congr 1; omega, by rw [Hdn.out]; omega, _, rfl⟩
                  · have hn : numP c (s.drop p) = none := by
                      rw [← hL]
                      exact numP_not hc Hcf.out (fun m _ => no_digit HF.out Hx.out hdig m)
                    have Hn := Lib.hid hn
                    clear hn
                    by_cases k1 : (x.toNat : Int) - 48 < 0
                    · go_wp2_with fail
                      go_ret2
                      exact RN_none Hn.out ⟨rfl, ⟨p, false, h.grown (grown_drewN w _ none) (by simp), hp, by simp, by simp⟩, grown_drewN _ _ _⟩
                    · have k2 : 9 < (x.toNat : Int) - 48 := by omega
                      go_wp2_with fail
                      go_ret2
                      exact RN_none Hn.out ⟨rfl, ⟨p, false, h.grown (grown_drewN w _ none) (by simp), hp, by simp, by simp⟩, grown_drewN _ _ _⟩
                · obtain rfl : j = ds.length := by omega
                  rw [List.take_length] at hdj ⊢
                  have hi5 : ¬ (ds.length : Int) < (ds.length : Int) := by omega
                  generalize hD : dval ds = D at *
                  have HD := Lib.hid hD
                  clear hD
                  by_cases hmin : D = 9223372036854775808
                  · have hn : numP c (s.drop p) = none := by
                      rw [← hL]
                      refine numP_not hc Hcf.out (fun m hm e => ?_)
                      have := form_val HF.out e
                      rw [HD.out] at this
                      simp only [Bool.false_eq_true, if_false] at this
                      have := hm.2
                      omega
                    have Hn := Lib.hid hn
                    clear hn
                    subst hmin
                    have hw : wrap64 9223372036854775808 = -9223372036854775808 := by unfold wrap64; omega
                    go_wp2_with fail
                    go_ret2
                    exact RN_none Hn.out ⟨rfl, ⟨p, false, h.grown (grown_drewN w _ none) (by simp), hp, by simp, by simp⟩, grown_drewN _ _ _⟩
                  by_cases k0 : D = 0
                  · subst k0
                    have hI : I64 (0 : Int) := ⟨by omega, by omega⟩
                    have hdec := dec_k (0 : Int) hI
                    unfold DecSaid at hdec
                    have hil := itoa_len hI
                    by_cases heq : Lib.itoa (0 : Int) = ds
                    · have hn : numP c (s.drop p) = some ((0 : Int), s.drop (t + 1)) := by
                        rw [← hL]
                        exact numP_cut hc Hcf.out (0 : Int) hI heq
                      have Hn := Lib.hid hn
                      have hq1 : (Lib.itoa (0 : Int) == ds) = true := by simpa using heq
                      rw [heq] at hdec
                      have Hdec := Lib.hid hdec
                      clear hdec
                      have f1 := h.fz 1
                      clear hn heq hq1
                      go_wp2_with (go_at_call 39; refine (Hdec.out _).mono ?_; rintro e w2 ⟨rfl, g2⟩; have h2 := Rf.grown (Rf.grown h (grown_drewN w _ none) (by simp)) g2 (by simp); have f2 := h2.fz 1; have d0 := h2.c0; have d1 := h2.c1)
                      go_ret2
                      exact RN_some Hn.out ⟨rfl, ⟨t + 1, false, h2.set1 (t + 1), by omega, by simp, by simp⟩, (grown_any ((grown_drewN w _ none).trans g2) _).trans (grown_setCell _ _ _ _)⟩
                    · have hn : numP c (s.drop p) = none := by
                        rw [← hL]
                        refine numP_not hc Hcf.out (fun m hm e => heq ?_)
                        have := form_val HF.out e
                        rw [HD.out] at this
                        simp at this
                        subst this
                        exact e
                      have Hn := Lib.hid hn
                      have hq1 : (Lib.itoa (0 : Int) == ds) = false := by simpa using heq
                      have Heq := Lib.hid heq
                      have Hdec := Lib.hid hdec
                      clear hn heq hdec
                      go_wp2_with (go_at_call 39; refine (Hdec.out _).mono ?_; rintro e w2 ⟨rfl, g2⟩)
                      go_ret2
                      exact RN_none Hn.out ⟨rfl, ⟨p, false, h.grown ((grown_drewN w _ none).trans g2) (by simp), hp, by simp, by simp⟩, grown_any ((grown_drewN w _ none).trans g2) _⟩
                  · have hw2 : wrap64 (D : Int) = D := by unfold wrap64; omega
                    have hw3 : wrap64 (-(-(D : Int))) = D := by unfold wrap64; omega
                    have hI : I64 (D : Int) := ⟨by omega, by omega⟩
                    have hdec := dec_k (D : Int) hI
                    unfold DecSaid at hdec
                    have hil := itoa_len hI
                    by_cases heq : Lib.itoa (D : Int) = ds
                    · have hn : numP c (s.drop p) = some ((D : Int), s.drop (t + 1)) := by
                        rw [← hL]
                        exact numP_cut hc Hcf.out (D : Int) hI heq
                      have Hn := Lib.hid hn
                      have hq1 : (Lib.itoa (D : Int) == ds) = true := by simpa using heq
                      rw [heq] at hdec
                      have Hdec := Lib.hid hdec
                      clear hdec
                      have f1 := h.fz 1
                      clear hn heq hq1
                      go_wp2_with (go_at_call 39; refine (Hdec.out _).mono ?_; rintro e w2 ⟨rfl, g2⟩; have h2 := Rf.grown (Rf.grown h (grown_drewN w _ none) (by simp)) g2 (by simp); have f2 := h2.fz 1; have d0 := h2.c0; have d1 := h2.c1)
                      go_ret2
                      exact RN_some Hn.out ⟨rfl, ⟨t + 1, false, h2.set1 (t + 1), by omega, by simp, by simp⟩, (grown_any ((grown_drewN w _ none).trans g2) _).trans (grown_setCell _ _ _ _)⟩
                    · have hn : numP c (s.drop p) = none := by
                        rw [← hL]
                        refine numP_not hc Hcf.out (fun m hm e => heq ?_)
                        have := form_val HF.out e
                        rw [HD.out] at this
                        simp at this
                        subst this
                        exact e
                      have Hn := Lib.hid hn
                      have hq1 : (Lib.itoa (D : Int) == ds) = false := by simpa using heq
                      have Heq := Lib.hid heq
                      have Hdec := Lib.hid hdec
                      clear hn heq hdec
                      go_wp2_with (go_at_call 39; refine (Hdec.out _).mono ?_; rintro e w2 ⟨rfl, g2⟩)
                      go_ret2
                      exact RN_none Hn.out ⟨rfl, ⟨p, false, h.grown ((grown_drewN w _ none).trans g2) (by simp), hp, by simp, by simp⟩, grown_any ((grown_drewN w _ none).trans g2) _⟩

      · have hb1 : (((s[t]'hlt).toNat : Int) != (c.toNat : Int)) = true := by rw [bne_iff_ne]; intro e; exact hx (UInt8.toNat_inj.1 (by omega))
        have Hx := Lib.hid hx
        clear hx
        by_cases hj : t < p + 21
        · have hi2 : (t : Int) < (p : Int) + 21 := by omega
          go_wp2_with fail
          refine ⟨⟨t + 1, by omega, by omega, by omega, by go_num, ?_, _, rfl⟩, by simp [intOf]; omega⟩
          rw [show t + 1 - p = (t - p) + 1 by omega, take_one (s.drop p) (t - p) (s[t]'hlt) (by rw [List.getElem?_drop, show p + (t - p) = t by omega]; exact List.getElem?_eq_getElem hlt)]
          intro hm
          rcases List.mem_append.1 hm with hm | hm
          · exact Hct.out hm
          · exact Hx.out (List.mem_singleton.1 hm).symm
        · obtain rfl : t = p + 21 := by omega
          have hn := numP_far hc (l := s.drop p) (by have := Hct.out; rwa [show p + 21 - p = 21 by omega] at this)
          go_wp2_with fail
          go_ret2
          exact RN_none hn ⟨rfl, ⟨p, false, h.grown (grown_drewN w _ none) (by simp), hp, by simp, by simp⟩, grown_drewN _ _ _⟩
    · obtain rfl : t = s.length := by omega
      have hn := numP_far hc (l := s.drop p) (by
        have := Hct.out
        rw [List.take_of_length_le (by rw [List.length_drop]; omega)] at this
        exact fun h => this (List.mem_of_mem_take h))
      go_wp2_with fail
      go_ret2
      exact RN_none hn ⟨rfl, ⟨p, false, h.grown (grown_drewN w _ none) (by simp), hp, by simp, by simp⟩, grown_drewN _ _ _⟩
end Go.Proofs.YtmohcanfkcopiaaDoor
