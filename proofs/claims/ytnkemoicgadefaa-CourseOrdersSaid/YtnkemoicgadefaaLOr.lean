/-
  CourseOrders: the law walked.
-/
import Derived.Test.YtnkemoicgadefaaMde
namespace Go.Proofs.Ytnkemoicgadefaa
open Go.RowKit
attribute [local go_sem] get_mk extract_mk
theorem ord_spec {l : List O} (h : Right l) : ∀ (n : Nat) (D : List Str), D.length + n ≤ l.length → ∃ T : List Str, ordN l n D = D ++ T ∧ T.length = n ∧ ∀ k, k < n → ∃ o, pickV l (D ++ T.take k) = some o ∧ T[k]? = some o.code
  | 0, D, _ => ⟨[], by simp [ordN], rfl, fun k hk => by omega⟩
  | n + 1, D, hl => by
    obtain ⟨o, ho⟩ := pick_some h (left_of h (out := D) (by omega))
    obtain ⟨T, h1, h2, h3⟩ := ord_spec h n (D ++ [o.code]) (by simp; omega)
    refine ⟨o.code :: T, ?_, by simp [h2], fun k hk => ?_⟩
    · show (match pickV l D with | some o => ordN l n (D ++ [o.code]) | none => D) = _
      rw [ho]
      show ordN l n (D ++ [o.code]) = _
      rw [h1]
      simp
    · cases k with
      | zero => exact ⟨o, by simpa using ho, rfl⟩
      | succ k =>
        obtain ⟨x, hx, hk2⟩ := h3 k (by omega)
        exact ⟨x, by simpa using hx, by simpa using hk2⟩
theorem ord_at {l : List O} (h : checkV l = 0) : (orderV l).length = l.length ∧ ∀ k, k < l.length → ∃ o, pickV l ((orderV l).take k) = some o ∧ (orderV l)[k]? = some o.code := by
  obtain ⟨T, h1, h2, h3⟩ := ord_spec (right_of h) l.length [] (by simp)
  have e : orderV l = T := by unfold orderV; rw [if_pos h, h1]; rfl
  rw [e]
  exact ⟨h2, fun k hk => by simpa using h3 k hk⟩
theorem pick_least {l : List O} (h : Right l) {S : List Str} {o x : O} (hp : pickV l S = some o) (hx : x ∈ l) (hs : x.code ∉ S) (hlt : x.code < o.code) : (x.needs.all fun n => decide (n ∈ S)) = false := by
  unfold pickV at hp
  rw [List.find?_eq_some_iff_append] at hp
  obtain ⟨_, p1, p2, e, hno⟩ := hp
  rw [e] at hx
  rcases List.mem_append.1 hx with hx | hx
  · have := hno x hx
    rw [decide_eq_false hs] at this
    simpa using this
  · exfalso
    rcases List.mem_cons.1 hx with rfl | hx
    · exact lt_irr _ hlt
    · have hi := h.inc
      rw [e, List.map_append, List.map_cons] at hi
      have h1 := (List.pairwise_cons.1 (List.pairwise_append.1 hi).2.1).1 x.code (List.mem_map.2 ⟨x, hx, rfl⟩)
      exact lt_asy h1 hlt
theorem pick_met {l : List O} {S : List Str} {o : O} (hp : pickV l S = some o) : (o.needs.all fun n => decide (n ∈ S)) = true := List.all_eq_true.2 (fun n hn => decide_eq_true ((pick_is hp).2.2 n hn))
set_option maxRecDepth 100000 in
set_option maxHeartbeats 8000000 in
theorem orders_walk (A : Option Addr) (n c : Nat) (l : List Int) (w : World) (h : Ints w A n c l) :
    Calls Try.prog 5 #[.slice A n c] w fun e w' => e = .returned (.bool true) ∧ w.grownBy w' none := by
  have HH := Lib.hid (fun W (g : w.grownBy W none) => h.kept g)
  clear h
  go_enter Try.func5, Try.ntmps5
  go_wp2_with fail
  refine (sane_k _).mono ?_
  rintro e w1 ⟨rfl, g1⟩
  go_wp2_with fail
  refine (made_r A n c l _ (HH.out _ g1)).mono ?_
  rintro e w2 ⟨B, d, vs, L, rfl, hoffs, hml, g2⟩
  have HML := Lib.hid hml
  have HOF := Lib.hid hoffs
  have G2 := Lib.hid (g1.trans g2)
  clear hoffs hml g1 g2 HH
  have hble := HOF.out.v.le
  have hbcap := HOF.out.v.cap
  obtain ⟨m, hm⟩ : ∃ m, m = L.length := ⟨_, rfl⟩
  rw [← hm] at HOF hble ⊢
  have HM := Lib.hid hm
  clear hm
  go_wp2_with fail
  refine (order_k B m d vs L _ HOF.out).mono ?_
  rintro e w3 ⟨OA, od, rfl, hos, g3⟩
  have HC := Lib.hid (made_check HML.out)
  have HR := Lib.hid (right_of HC.out)
  have HOL := Lib.hid (ord_at HC.out).1
  have HOA := Lib.hid (ord_at HC.out).2
  rw [HOL.out, ← HM.out] at hos ⊢
  have HOS := Lib.hid hos
  have HO3 := Lib.hid (HOF.out.kept g3)
  have G3 := Lib.hid (G2.out.trans g3)
  clear hos g3 HOF G2
  have hole := HOS.out.v.le
  have hocap := HOS.out.v.cap
  obtain ⟨w4, e4, HS4, g4⟩ := setd_of w3
  have E4 := Lib.hid e4
  have G34 := Lib.hid g4
  have HSD := Lib.hid HS4
  clear e4 g4 HS4
  have hmm := @run_makeMap Try.prog
  go_upto_region 7 with fail
  rw [← E4.out]
  clear E4 hmm
  have HBD := Lib.hid G3.out.size
  generalize w3.heap.size = bd at *
  have HO4 := Lib.hid (HO3.out.kept G34.out)
  have HOS4 := Lib.hid (HOS.out.kept G34.out)
  have G4 := Lib.hid (G3.out.trans G34.out)
  clear HO3 HOS G3 G34
  go_wp2_with fail
  go_loopw [24] (fun z wr => ∃ (k : Nat) (S : List Str), k ≤ m ∧ z = .int .i64 (k : Int) ∧ Hid (SetD encS wr bd S ∧ (∀ s, s ∈ S ↔ s ∈ (orderV L).take k) ∧ Offs wr B m d vs L ∧ Strs wr OA m od (orderV L)) ∧ Hid (w.grownBy wr none)) (fun z _ => m - (intOf z).toNat)
  case atStart => exact ⟨0, [], Nat.zero_le _, rfl, Lib.hid ⟨HSD.out, by simp, HO4.out, HOS4.out⟩, G4⟩
  case round =>
    clear HSD HO4 HOS4 G4
    obtain ⟨k, S, hk, rfl, H, HG⟩ := hrel
    by_cases hlt : k < m
    · obtain ⟨x, hx, hxk⟩ := HOA.out k (by rw [← HM.out]; exact hlt)
      obtain ⟨ad, cc, hcc, hccl, rfl, _, cx⟩ := H.out.2.2.2.at k hlt
      rw [hxk] at hcc
      injection hcc with hcc
      subst hcc
      have HX := Lib.hid hx
      have HXK := Lib.hid hxk
      have HXM := Lib.hid (pick_is hx)
      have k1 : (0 : Int) ≤ (k : Int) := by omega
      have k2 : (k : Int) < (m : Int) := by omega
      have k3 : decide ((k : Int) < (m : Int)) = true := decide_eq_true k2
      have k4 : (k : Int) ≤ (m : Int) := by omega
      have k5 : IntKind.i64.wrap (k : Int) = (k : Int) := by rw [IntKind.wrap_i64]; omega
      have k6 : IntKind.i64.wrap ((k : Int) + 1) = (k : Int) + 1 := by rw [IntKind.wrap_i64]; omega
      have k7 : (k : Int) ≤ (od : Int) := by omega
      have HNS : Hid (x.code ∉ S) := Lib.hid (fun e => HXM.out.2.1 ((H.out.2.1 _).1 e))
      have l1 := lookS (w := wr) H.out.1 x.code false (by simp [HNS.out])
      have HSK : Hid (∀ W, wr.grownBy W none → Strs W (some ad) k od ((orderV L).take k)) := Lib.hid (fun W g => ⟨by
        have := (H.out.2.2.2.kept g).v.takeV k (by omega)
        rwa [← List.map_take] at this, fun z hz => H.out.2.2.2.ok z (List.mem_of_mem_take hz)⟩)
      have HMX : Hid (metV L x.code ((orderV L).take k) = true) := Lib.hid (by rw [met_self HR.out HXM.out.1]; exact pick_met HX.out)
      clear hx hxk
      go_wp2_with fail
      refine (met_k B m d vs L x.code (some ad) k od _ _ H.out.2.2.1 (HSK.out _ (grown_refl _))).mono ?_
      rintro e w5 ⟨rfl, g5⟩
      rw [HMX.out]
      have G5 := Lib.hid g5
      clear g5 l1 cx
      go_wp2_with fail
      generalize wr = wo at *
      go_loopw [43] (fun z wr => ∃ i : Nat, i ≤ m ∧ z = .int .i64 (i : Int) ∧ Hid (wo.grownBy wr none)) (fun z _ => m - (intOf z).toNat)
      case atStart => exact ⟨0, Nat.zero_le _, rfl, G5⟩
      case round =>
        clear G5
        obtain ⟨i, hi, rfl, HW⟩ := hrel
        generalize wr = wi at *
        by_cases hl2 : i < m
        · obtain ⟨bd2, v, y, hy, _, rfl, _, hv, x0, x1, x2, x3, x4⟩ := (H.out.2.2.1.kept HW.out).at i hl2
          obtain ⟨vc_, vr, vp, sA, sn, sc, nA, nn, nc⟩ := v
          have hcd := hv.code
          simp only at x0 x1 x2 x3 x4 hcd
          subst hcd
          have HY := Lib.hid (List.mem_of_getElem? hy)
          have i1 : (0 : Int) ≤ (i : Int) := by omega
          have i2 : (i : Int) < (m : Int) := by omega
          have i3 : decide ((i : Int) < (m : Int)) = true := decide_eq_true i2
          have i5 : IntKind.i64.wrap (i : Int) = (i : Int) := by rw [IntKind.wrap_i64]; omega
          have i6 : IntKind.i64.wrap ((i : Int) + 1) = (i : Int) + 1 := by rw [IntKind.wrap_i64]; omega
          obtain ⟨w7, e7, HP7, g7⟩ := row_of wi 35 #[.string ⟨y.code.toArray⟩, .int .i64 vr, .int .i64 vp, .slice sA sn sc, .slice nA nn nc]
          have E7 := Lib.hid e7
          have G7 := Lib.hid (HW.out.trans g7)
          clear hv hy e7 g7
          go_upto_region 15 with fail
          rw [← E7.out]
          clear E7 x0 x1 x2 x3 x4
          generalize wi.heap.size = P7 at *
          have c0 := HP7.c 0 rfl
          clear HP7
          have LK : Hid (∀ (v : Bool) (_ : v = true ↔ y.code ∈ S) (W : World), w7.grownBy W none → (Instr.lookup 46 (.map (some bd)) (.string ⟨y.code.toArray⟩) false).run Try.prog W = .ok (.bool v) W) := Lib.hid (fun v hv W g => lookS (Dict.kept H.out.1 (G7.out.trans g)) y.code v hv)
          by_cases hm : y.code ∈ S
          · have gz : w7.grownBy w7.drew none := grown_dr (grown_refl _)
            refine wp_region_noPanic ?_
            refine wp_region_held_drew (S := (fun w' => w7.grownBy w' none)) (by kernel_rfl) ?_ (fun hHeld => ?_)
            · (try dsimp only); (repeat (first | assumption | exact grown_refl _ | refine grown_dr ?_ | refine grown_dn ?_ | refine grown_al ?_))
            refine wpAnyH_take (i := 0) (oi := _) (v := ?_) rfl (by kernel_rfl) (by kernel_rfl) (by kernel_rfl) (fun _ _ _ h => h) (Or.inl ⟨by rfl, ?_⟩) (by assumption) ?_
            rotate_left 1
            · (intro w hSw; (try dsimp only at hSw); go_simp; first | done | with_reducible rfl)
            try go_simp
            refine wpAnyH_take (i := 1) (oi := _) (v := ?_) rfl (by kernel_rfl) (by kernel_rfl) (by kernel_rfl) (fun _ _ _ h => h) (Or.inl ⟨by rfl, ?_⟩) (by assumption) ?_
            rotate_left 1
            · (intro w hSw; (try dsimp only at hSw); go_simp; first | done | with_reducible rfl)
            try go_simp
            refine wpAnyH_take (i := 2) (oi := _) (v := .string ⟨y.code.toArray⟩) rfl (by kernel_rfl) (by kernel_rfl) (by kernel_rfl) (fun _ _ _ h => h) (Or.inl ⟨by kernel_rfl, ?_⟩) (by assumption) ?_
            · (intro w hSw; (try dsimp only at hSw); go_simp; have y0 := gcell hSw c0; clear hSw; go_simp; first | done | with_reducible rfl)
            try go_simp
            refine wpAnyH_take (i := 3) (oi := _) (v := .bool true) rfl (by kernel_rfl) (by kernel_rfl) (by kernel_rfl) (fun _ _ _ h => h) (Or.inl ⟨by kernel_rfl, ?_⟩) (by assumption) ?_
            · (intro w hSw; (try dsimp only at hSw); go_simp; have l := LK.out true (by simp [hm]) w hSw; clear hSw; go_simp; first | done | with_reducible rfl)
            try go_simp
            refine wpAnyH_take (i := 4) (oi := _) (v := .bool false) rfl (by kernel_rfl) (by kernel_rfl) (by kernel_rfl) (fun _ _ _ h => h) (Or.inl ⟨by kernel_rfl, fun _ _ => by kernel_rfl⟩) (by assumption) ?_
            try go_simp
            refine wpAnyH_take (i := 5) (oi := _) (v := ?_) rfl (by kernel_rfl) (by kernel_rfl) (by kernel_rfl) (fun _ _ _ h => h) (Or.inl ⟨by rfl, ?_⟩) (by assumption) ?_
            rotate_left 1
            · (intro w hSw; (try dsimp only at hSw); go_simp; first | done | with_reducible rfl)
            try go_simp
            refine wpAnyH_take (i := 6) (oi := _) (v := undef) rfl (by kernel_rfl) (by kernel_rfl) (by kernel_rfl) (fun _ _ _ h => h) (Or.inr ⟨by kernel_rfl, rfl⟩) (by assumption) ?_
            try go_simp
            refine wpAnyH_take (i := 7) (oi := _) (v := undef) rfl (by kernel_rfl) (by kernel_rfl) (by kernel_rfl) (fun _ _ _ h => h) (Or.inr ⟨by kernel_rfl, rfl⟩) (by assumption) ?_
            try go_simp
            refine wpAnyH_take (i := 8) (oi := _) (v := undef) rfl (by kernel_rfl) (by kernel_rfl) (by kernel_rfl) (fun _ _ _ h => h) (Or.inr ⟨by kernel_rfl, rfl⟩) (by assumption) ?_
            try go_simp
            refine wpAnyH_take (i := 9) (oi := _) (v := undef) rfl (by kernel_rfl) (by kernel_rfl) (by kernel_rfl) (fun _ _ _ h => h) (Or.inr ⟨by kernel_rfl, rfl⟩) (by assumption) ?_
            try go_simp
            refine wpAnyH_take (i := 10) (oi := _) (v := ?_) rfl (by kernel_rfl) (by kernel_rfl) (by kernel_rfl) (fun _ _ _ h => h) (Or.inl ⟨by rfl, ?_⟩) (by assumption) ?_
            rotate_left 1
            · (intro w hSw; (try dsimp only at hSw); go_simp; first | done | with_reducible rfl)
            try go_simp
            refine wpAnyH_take (i := 11) (oi := _) (v := ?_) rfl (by kernel_rfl) (by kernel_rfl) (by kernel_rfl) (fun _ _ _ h => h) (Or.inl ⟨by rfl, ?_⟩) (by assumption) ?_
            rotate_left 1
            · (intro w hSw; (try dsimp only at hSw); go_simp; first | done | with_reducible rfl)
            try go_simp
            refine wpAnyH_take (i := 12) (oi := _) (v := undef) rfl (by kernel_rfl) (by kernel_rfl) (by kernel_rfl) (fun _ _ _ h => h) (Or.inr ⟨by kernel_rfl, rfl⟩) (by assumption) ?_
            try go_simp
            refine wpAnyH_take (i := 13) (oi := _) (v := undef) rfl (by kernel_rfl) (by kernel_rfl) (by kernel_rfl) (fun _ _ _ h => h) (Or.inr ⟨by kernel_rfl, rfl⟩) (by assumption) ?_
            try go_simp
            refine wpAnyH_take (i := 14) (oi := _) (v := undef) rfl (by kernel_rfl) (by kernel_rfl) (by kernel_rfl) (fun _ _ _ h => h) (Or.inr ⟨by kernel_rfl, rfl⟩) (by assumption) ?_
            try go_simp
            refine wpAnyH_take (i := 15) (oi := _) (v := undef) rfl (by kernel_rfl) (by kernel_rfl) (by kernel_rfl) (fun _ _ _ h => h) (Or.inr ⟨by kernel_rfl, rfl⟩) (by assumption) ?_
            try go_simp
            refine wpAnyH_take (i := 16) (oi := _) (v := undef) rfl (by kernel_rfl) (by kernel_rfl) (by kernel_rfl) (fun _ _ _ h => h) (Or.inr ⟨by kernel_rfl, rfl⟩) (by assumption) ?_
            try go_simp
            refine wpAnyH_take (i := 17) (oi := _) (v := undef) rfl (by kernel_rfl) (by kernel_rfl) (by kernel_rfl) (fun _ _ _ h => h) (Or.inr ⟨by kernel_rfl, rfl⟩) (by assumption) ?_
            try go_simp
            refine wpAnyH_take (i := 18) (oi := _) (v := undef) rfl (by kernel_rfl) (by kernel_rfl) (by kernel_rfl) (fun _ _ _ h => h) (Or.inr ⟨by kernel_rfl, rfl⟩) (by assumption) ?_
            try go_simp
            refine wpAnyH_take (i := 19) (oi := _) (v := ?_) rfl (by kernel_rfl) (by kernel_rfl) (by kernel_rfl) (fun _ _ _ h => h) (Or.inl ⟨by rfl, ?_⟩) (by assumption) ?_
            rotate_left 1
            · (intro w hSw; (try dsimp only at hSw); go_simp; first | done | with_reducible rfl)
            try go_simp
            refine wpAnyH_done (by kernel_rfl) ?_ _
            refine NoPanic.normal ?_
            go_simp
            have GZ := Lib.hid (G7.out.trans gz)
            clear gz
            go_wp2_with fail
            go_roundw
            case rel => exact ⟨i + 1, by omega, by go_num, GZ⟩
            case measure => simp [intOf]; omega
          · have HNM := Lib.hid hm
            clear hm
            by_cases hyx : y.code < x.code
            · have q1 : Op.bytesLess y.code x.code = true := by rw [bytesLess_eq, decide_eq_true_eq]; exact hyx
              have HMY : Hid (metV L y.code ((orderV L).take k) = false) := Lib.hid (by
                rw [met_self HR.out HY.out]
                exact pick_least HR.out HX.out HY.out (fun e => HNM.out ((H.out.2.1 _).2 e)) hyx)
              clear hyx
              have gz : w7.grownBy w7.drew none := grown_dr (grown_refl _)
              refine wp_region_noPanic ?_
              refine wp_region_held_drew (S := (fun w' => w7.grownBy w' none)) (by kernel_rfl) ?_ (fun hHeld => ?_)
              · (try dsimp only); (repeat (first | assumption | exact grown_refl _ | refine grown_dr ?_ | refine grown_dn ?_ | refine grown_al ?_))
              refine wpAnyH_take (i := 0) (oi := _) (v := ?_) rfl (by kernel_rfl) (by kernel_rfl) (by kernel_rfl) (fun _ _ _ h => h) (Or.inl ⟨by rfl, ?_⟩) (by assumption) ?_
              rotate_left 1
              · (intro w hSw; (try dsimp only at hSw); go_simp; first | done | with_reducible rfl)
              try go_simp
              refine wpAnyH_take (i := 1) (oi := _) (v := ?_) rfl (by kernel_rfl) (by kernel_rfl) (by kernel_rfl) (fun _ _ _ h => h) (Or.inl ⟨by rfl, ?_⟩) (by assumption) ?_
              rotate_left 1
              · (intro w hSw; (try dsimp only at hSw); go_simp; first | done | with_reducible rfl)
              try go_simp
              refine wpAnyH_take (i := 2) (oi := _) (v := .string ⟨y.code.toArray⟩) rfl (by kernel_rfl) (by kernel_rfl) (by kernel_rfl) (fun _ _ _ h => h) (Or.inl ⟨by kernel_rfl, ?_⟩) (by assumption) ?_
              · (intro w hSw; (try dsimp only at hSw); go_simp; have y0 := gcell hSw c0; clear hSw; go_simp; first | done | with_reducible rfl)
              try go_simp
              refine wpAnyH_take (i := 3) (oi := _) (v := .bool false) rfl (by kernel_rfl) (by kernel_rfl) (by kernel_rfl) (fun _ _ _ h => h) (Or.inl ⟨by kernel_rfl, ?_⟩) (by assumption) ?_
              · (intro w hSw; (try dsimp only at hSw); go_simp; have l := LK.out false (by simp [HNM.out]) w hSw; clear hSw; go_simp; first | done | with_reducible rfl)
              try go_simp
              refine wpAnyH_take (i := 4) (oi := _) (v := .bool true) rfl (by kernel_rfl) (by kernel_rfl) (by kernel_rfl) (fun _ _ _ h => h) (Or.inl ⟨by kernel_rfl, fun _ _ => by kernel_rfl⟩) (by assumption) ?_
              try go_simp
              refine wpAnyH_take (i := 5) (oi := _) (v := ?_) rfl (by kernel_rfl) (by kernel_rfl) (by kernel_rfl) (fun _ _ _ h => h) (Or.inl ⟨by rfl, ?_⟩) (by assumption) ?_
              rotate_left 1
              · (intro w hSw; (try dsimp only at hSw); go_simp; first | done | with_reducible rfl)
              try go_simp
              refine wpAnyH_take (i := 6) (oi := _) (v := ?_) rfl (by kernel_rfl) (by kernel_rfl) (by kernel_rfl) (fun _ _ _ h => h) (Or.inl ⟨by kernel_rfl, ?_⟩) (by assumption) ?_
              rotate_left 1
              · (intro w hSw; (try dsimp only at hSw); go_simp; first | done | with_reducible rfl)
              try go_simp
              refine wpAnyH_take (i := 7) (oi := _) (v := .string ⟨y.code.toArray⟩) rfl (by kernel_rfl) (by kernel_rfl) (by kernel_rfl) (fun _ _ _ h => h) (Or.inl ⟨by kernel_rfl, ?_⟩) (by assumption) ?_
              · (intro w hSw; (try dsimp only at hSw); go_simp; have y0 := gcell hSw c0; clear hSw; go_simp; first | done | with_reducible rfl)
              try go_simp
              refine wpAnyH_take (i := 8) (oi := _) (v := ?_) rfl (by kernel_rfl) (by kernel_rfl) (by kernel_rfl) (fun _ _ _ h => h) (Or.inl ⟨by kernel_rfl, ?_⟩) (by assumption) ?_
              rotate_left 1
              · (intro w hSw; (try dsimp only at hSw); go_simp; first | done | with_reducible rfl)
              try go_simp
              refine wpAnyH_take (i := 9) (oi := _) (v := .bool true) rfl (by kernel_rfl) (by kernel_rfl) (by kernel_rfl) (fun _ _ _ h => h) (Or.inl ⟨by kernel_rfl, ?_⟩) (by assumption) ?_
              · (intro w hSw; (try dsimp only at hSw); go_simp; first | done | with_reducible rfl)
              try go_simp
              refine wpAnyH_take (i := 10) (oi := _) (v := ?_) rfl (by kernel_rfl) (by kernel_rfl) (by kernel_rfl) (fun _ _ _ h => h) (Or.inl ⟨by rfl, ?_⟩) (by assumption) ?_
              rotate_left 1
              · (intro w hSw; (try dsimp only at hSw); go_simp; first | done | with_reducible rfl)
              try go_simp
              refine wpAnyH_take (i := 11) (oi := _) (v := ?_) rfl (by kernel_rfl) (by kernel_rfl) (by kernel_rfl) (fun _ _ _ h => h) (Or.inl ⟨by rfl, ?_⟩) (by assumption) ?_
              rotate_left 1
              · (intro w hSw; (try dsimp only at hSw); go_simp; first | done | with_reducible rfl)
              try go_simp
              refine wpAnyH_take (i := 12) (oi := _) (v := ?_) rfl (by kernel_rfl) (by kernel_rfl) (by kernel_rfl) (fun _ _ _ h => h) (Or.inl ⟨by kernel_rfl, ?_⟩) (by assumption) ?_
              rotate_left 1
              · (intro w hSw; (try dsimp only at hSw); go_simp; first | done | with_reducible rfl)
              try go_simp
              refine wpAnyH_take (i := 13) (oi := _) (v := ?_) rfl (by kernel_rfl) (by kernel_rfl) (by kernel_rfl) (fun _ _ _ h => h) (Or.inl ⟨by kernel_rfl, ?_⟩) (by assumption) ?_
              rotate_left 1
              · (intro w hSw; (try dsimp only at hSw); go_simp; first | done | with_reducible rfl)
              try go_simp
              refine wpAnyH_take (i := 14) (oi := _) (v := .string ⟨y.code.toArray⟩) rfl (by kernel_rfl) (by kernel_rfl) (by kernel_rfl) (fun _ _ _ h => h) (Or.inl ⟨by kernel_rfl, ?_⟩) (by assumption) ?_
              · (intro w hSw; (try dsimp only at hSw); go_simp; have y0 := gcell hSw c0; clear hSw; go_simp; first | done | with_reducible rfl)
              try go_simp
              refine wpAnyH_take (i := 15) (oi := _) (v := ?_) rfl (by kernel_rfl) (by kernel_rfl) (by kernel_rfl) (fun _ _ _ h => h) (Or.inl ⟨by kernel_rfl, ?_⟩) (by assumption) ?_
              rotate_left 1
              · (intro w hSw; (try dsimp only at hSw); go_simp; first | done | with_reducible rfl)
              try go_simp
              refine wpAnyH_take (i := 16) (oi := _) (v := ?_) rfl (by kernel_rfl) (by kernel_rfl) (by kernel_rfl) (fun _ _ _ h => h) (Or.inl ⟨by kernel_rfl, ?_⟩) (by assumption) ?_
              rotate_left 1
              · (intro w hSw; (try dsimp only at hSw); go_simp; first | done | with_reducible rfl)
              try go_simp
              refine wpAnyH_take (i := 17) (oi := _) (v := ?_) rfl (by kernel_rfl) (by kernel_rfl) (by kernel_rfl) (fun _ _ _ h => h) (Or.inl ⟨by kernel_rfl, ?_⟩) (by assumption) ?_
              rotate_left 1
              · (intro w hSw; (try dsimp only at hSw); go_simp; first | done | with_reducible rfl)
              try go_simp
              refine wpAnyH_ready (rs := [18]) (by kernel_rfl) (by simp) ?_
              refine AllReadyH.cons (o := _) rfl (fun K hK => ?_) AllReadyH.nil
              go_simp
              refine (met_k (some bd2) m d vs L y.code (some ad) k od _ _ (H.out.2.2.1.kept (G7.out.trans gz)) (HSK.out _ (G7.out.trans gz))).mono ?_
              rintro e w8 ⟨rfl, g8⟩
              rw [HMY.out]
              replace gz := gz.trans g8
              clear g8
              first | (refine hK.out _ _ ?_ (fun hHeld => ?_)) | (go_wp2_with fail; refine hK.out _ _ ?_ (fun hHeld => ?_))
              · (try dsimp only); (repeat (first | assumption | exact grown_refl _ | refine grown_dr ?_ | refine grown_dn ?_ | refine grown_al ?_))
              clear hK K
              refine wpAnyH_take (i := 19) (oi := _) (v := ?_) rfl (by kernel_rfl) (by kernel_rfl) (by kernel_rfl) (fun _ _ _ h => h) (Or.inl ⟨by rfl, ?_⟩) (by assumption) ?_
              rotate_left 1
              · (intro w hSw; (try dsimp only at hSw); go_simp; first | done | with_reducible rfl)
              try go_simp
              refine wpAnyH_done (by kernel_rfl) ?_ _
              refine NoPanic.normal ?_
              go_simp
              have GZ := Lib.hid (G7.out.trans gz)
              clear gz
              go_wp2_with fail
              go_roundw
              case rel => exact ⟨i + 1, by omega, by go_num, GZ⟩
              case measure => simp [intOf]; omega
            · have q1 : Op.bytesLess y.code x.code = false := by rw [bytesLess_eq, decide_eq_false_iff_not]; exact hyx
              clear hyx
              have gz : w7.grownBy w7.drew none := grown_dr (grown_refl _)
              refine wp_region_noPanic ?_
              refine wp_region_held_drew (S := (fun w' => w7.grownBy w' none)) (by kernel_rfl) ?_ (fun hHeld => ?_)
              · (try dsimp only); (repeat (first | assumption | exact grown_refl _ | refine grown_dr ?_ | refine grown_dn ?_ | refine grown_al ?_))
              refine wpAnyH_take (i := 0) (oi := _) (v := ?_) rfl (by kernel_rfl) (by kernel_rfl) (by kernel_rfl) (fun _ _ _ h => h) (Or.inl ⟨by rfl, ?_⟩) (by assumption) ?_
              rotate_left 1
              · (intro w hSw; (try dsimp only at hSw); go_simp; first | done | with_reducible rfl)
              try go_simp
              refine wpAnyH_take (i := 1) (oi := _) (v := ?_) rfl (by kernel_rfl) (by kernel_rfl) (by kernel_rfl) (fun _ _ _ h => h) (Or.inl ⟨by rfl, ?_⟩) (by assumption) ?_
              rotate_left 1
              · (intro w hSw; (try dsimp only at hSw); go_simp; first | done | with_reducible rfl)
              try go_simp
              refine wpAnyH_take (i := 2) (oi := _) (v := .string ⟨y.code.toArray⟩) rfl (by kernel_rfl) (by kernel_rfl) (by kernel_rfl) (fun _ _ _ h => h) (Or.inl ⟨by kernel_rfl, ?_⟩) (by assumption) ?_
              · (intro w hSw; (try dsimp only at hSw); go_simp; have y0 := gcell hSw c0; clear hSw; go_simp; first | done | with_reducible rfl)
              try go_simp
              refine wpAnyH_take (i := 3) (oi := _) (v := .bool false) rfl (by kernel_rfl) (by kernel_rfl) (by kernel_rfl) (fun _ _ _ h => h) (Or.inl ⟨by kernel_rfl, ?_⟩) (by assumption) ?_
              · (intro w hSw; (try dsimp only at hSw); go_simp; have l := LK.out false (by simp [HNM.out]) w hSw; clear hSw; go_simp; first | done | with_reducible rfl)
              try go_simp
              refine wpAnyH_take (i := 4) (oi := _) (v := .bool true) rfl (by kernel_rfl) (by kernel_rfl) (by kernel_rfl) (fun _ _ _ h => h) (Or.inl ⟨by kernel_rfl, fun _ _ => by kernel_rfl⟩) (by assumption) ?_
              try go_simp
              refine wpAnyH_take (i := 5) (oi := _) (v := ?_) rfl (by kernel_rfl) (by kernel_rfl) (by kernel_rfl) (fun _ _ _ h => h) (Or.inl ⟨by rfl, ?_⟩) (by assumption) ?_
              rotate_left 1
              · (intro w hSw; (try dsimp only at hSw); go_simp; first | done | with_reducible rfl)
              try go_simp
              refine wpAnyH_take (i := 6) (oi := _) (v := ?_) rfl (by kernel_rfl) (by kernel_rfl) (by kernel_rfl) (fun _ _ _ h => h) (Or.inl ⟨by kernel_rfl, ?_⟩) (by assumption) ?_
              rotate_left 1
              · (intro w hSw; (try dsimp only at hSw); go_simp; first | done | with_reducible rfl)
              try go_simp
              refine wpAnyH_take (i := 7) (oi := _) (v := .string ⟨y.code.toArray⟩) rfl (by kernel_rfl) (by kernel_rfl) (by kernel_rfl) (fun _ _ _ h => h) (Or.inl ⟨by kernel_rfl, ?_⟩) (by assumption) ?_
              · (intro w hSw; (try dsimp only at hSw); go_simp; have y0 := gcell hSw c0; clear hSw; go_simp; first | done | with_reducible rfl)
              try go_simp
              refine wpAnyH_take (i := 8) (oi := _) (v := ?_) rfl (by kernel_rfl) (by kernel_rfl) (by kernel_rfl) (fun _ _ _ h => h) (Or.inl ⟨by kernel_rfl, ?_⟩) (by assumption) ?_
              rotate_left 1
              · (intro w hSw; (try dsimp only at hSw); go_simp; first | done | with_reducible rfl)
              try go_simp
              refine wpAnyH_take (i := 9) (oi := _) (v := .bool false) rfl (by kernel_rfl) (by kernel_rfl) (by kernel_rfl) (fun _ _ _ h => h) (Or.inl ⟨by kernel_rfl, ?_⟩) (by assumption) ?_
              · (intro w hSw; (try dsimp only at hSw); go_simp; first | done | with_reducible rfl)
              try go_simp
              refine wpAnyH_take (i := 10) (oi := _) (v := ?_) rfl (by kernel_rfl) (by kernel_rfl) (by kernel_rfl) (fun _ _ _ h => h) (Or.inl ⟨by rfl, ?_⟩) (by assumption) ?_
              rotate_left 1
              · (intro w hSw; (try dsimp only at hSw); go_simp; first | done | with_reducible rfl)
              try go_simp
              refine wpAnyH_take (i := 11) (oi := _) (v := ?_) rfl (by kernel_rfl) (by kernel_rfl) (by kernel_rfl) (fun _ _ _ h => h) (Or.inl ⟨by rfl, ?_⟩) (by assumption) ?_
              rotate_left 1
              · (intro w hSw; (try dsimp only at hSw); go_simp; first | done | with_reducible rfl)
              try go_simp
              refine wpAnyH_take (i := 12) (oi := _) (v := undef) rfl (by kernel_rfl) (by kernel_rfl) (by kernel_rfl) (fun _ _ _ h => h) (Or.inr ⟨by kernel_rfl, rfl⟩) (by assumption) ?_
              try go_simp
              refine wpAnyH_take (i := 13) (oi := _) (v := undef) rfl (by kernel_rfl) (by kernel_rfl) (by kernel_rfl) (fun _ _ _ h => h) (Or.inr ⟨by kernel_rfl, rfl⟩) (by assumption) ?_
              try go_simp
              refine wpAnyH_take (i := 14) (oi := _) (v := undef) rfl (by kernel_rfl) (by kernel_rfl) (by kernel_rfl) (fun _ _ _ h => h) (Or.inr ⟨by kernel_rfl, rfl⟩) (by assumption) ?_
              try go_simp
              refine wpAnyH_take (i := 15) (oi := _) (v := undef) rfl (by kernel_rfl) (by kernel_rfl) (by kernel_rfl) (fun _ _ _ h => h) (Or.inr ⟨by kernel_rfl, rfl⟩) (by assumption) ?_
              try go_simp
              refine wpAnyH_take (i := 16) (oi := _) (v := undef) rfl (by kernel_rfl) (by kernel_rfl) (by kernel_rfl) (fun _ _ _ h => h) (Or.inr ⟨by kernel_rfl, rfl⟩) (by assumption) ?_
              try go_simp
              refine wpAnyH_take (i := 17) (oi := _) (v := undef) rfl (by kernel_rfl) (by kernel_rfl) (by kernel_rfl) (fun _ _ _ h => h) (Or.inr ⟨by kernel_rfl, rfl⟩) (by assumption) ?_
              try go_simp
              refine wpAnyH_take (i := 18) (oi := _) (v := undef) rfl (by kernel_rfl) (by kernel_rfl) (by kernel_rfl) (fun _ _ _ h => h) (Or.inr ⟨by kernel_rfl, rfl⟩) (by assumption) ?_
              try go_simp
              refine wpAnyH_take (i := 19) (oi := _) (v := ?_) rfl (by kernel_rfl) (by kernel_rfl) (by kernel_rfl) (fun _ _ _ h => h) (Or.inl ⟨by rfl, ?_⟩) (by assumption) ?_
              rotate_left 1
              · (intro w hSw; (try dsimp only at hSw); go_simp; first | done | with_reducible rfl)
              try go_simp
              refine wpAnyH_done (by kernel_rfl) ?_ _
              refine NoPanic.normal ?_
              go_simp
              have GZ := Lib.hid (G7.out.trans gz)
              clear gz
              go_wp2_with fail
              go_roundw
              case rel => exact ⟨i + 1, by omega, by go_num, GZ⟩
              case measure => simp [intOf]; omega
        · obtain rfl : m = i := by omega
          have i3 : decide ((m : Int) < (m : Int)) = false := decide_eq_false (by omega)
          have HSW := Lib.hid (Dict.kept H.out.1 HW.out)
          obtain ⟨w8, r8, hd8, g8, hz8⟩ := SetD.put (w := wi) keyS und46 HSW.out x.code
          unfold encS at r8
          have hmap : MapAt wi bd := Dict.map HSW.out
          have HD8 := Lib.hid hd8
          have HO8 := Lib.hid ((H.out.2.2.1.kept HW.out).keptm hmap g8)
          have HT8 := Lib.hid ((H.out.2.2.2.kept HW.out).keptm hmap g8)
          have HG8 := Lib.hid ((HG.out.trans HW.out).andThen g8 (by rintro j ⟨⟩; exact .inl HBD.out))
          clear hd8 g8 hz8 hmap
          go_wp2_with fail
          exact ⟨⟨k + 1, addS S x.code, by omega, by go_num, Lib.hid ⟨HD8.out, fun s => by rw [addS_mem, H.out.2.1, take_snoc HXK.out, List.mem_append, List.mem_singleton]; exact or_comm, HO8.out, HT8.out⟩, HG8⟩, by simp [intOf]; omega⟩
    · obtain rfl : m = k := by omega
      have k3 : decide ((m : Int) < (m : Int)) = false := decide_eq_false (by omega)
      go_wp2_with fail
      go_ret
      exact ⟨rfl, HG.out⟩
end Go.Proofs.Ytnkemoicgadefaa
