/-
  CourseTimes: the law walked.
-/
import Derived.Test.YtnkemoicgadefaaOfr
namespace Go.Proofs.Ytnkemoicgadefaa
open Go.RowKit
attribute [local go_sem] get_mk extract_mk
theorem slots_i64 (l : List Int) : ∀ x ∈ slotsV l, i64 x := by
  intro x hx
  unfold slotsV at hx
  obtain ⟨z, _, rfl⟩ := List.mem_map.1 hx
  unfold i64
  omega
theorem slots_len (l : List Int) : (slotsV l).length ≤ 6 := by unfold slotsV; simp; omega
theorem any_sym (a b : List Int) : (a.any fun n => decide (n ∈ b)) = (b.any fun n => decide (n ∈ a)) := by
  rw [Bool.eq_iff_iff]
  simp only [List.any_eq_true, decide_eq_true_eq]
  exact ⟨fun ⟨x, h1, h2⟩ => ⟨x, h2, h1⟩, fun ⟨x, h1, h2⟩ => ⟨x, h2, h1⟩⟩
theorem any_self (a : List Int) : (a.any fun n => decide (n ∈ a)) = decide (0 < a.length) := by
  rw [Bool.eq_iff_iff]
  simp only [List.any_eq_true, decide_eq_true_eq]
  cases a with
  | nil => simp
  | cons y t => simp
theorem any_more (a b : List Int) (s : Int) : (b.any fun n => decide (n ∈ a)) = true → (b.any fun n => decide (n ∈ a ++ [s])) = true := by
  simp only [List.any_eq_true, decide_eq_true_eq]
  rintro ⟨x, h1, h2⟩
  exact ⟨x, h1, List.mem_append_left _ h2⟩
theorem any_mem (a : List Int) (s : Int) : ([s].any fun n => decide (n ∈ a ++ [s])) = true := by simp
set_option maxRecDepth 100000 in
set_option maxHeartbeats 4000000 in
theorem times_walk (A : Option Addr) (n c : Nat) (l : List Int) (B : Option Addr) (m d : Nat) (l2 : List Int) (x : Int) (x1 : 0 ≤ x) (_x2 : x < 256) (w : World) (h : U8s w A n c l) (h2 : U8s w B m d l2) :
    Calls Try.prog 7 #[.slice A n c, .slice B m d, .int .u8 x] w fun e w' => e = .returned (.bool true) ∧ w.grownBy w' none := by
  have H1 := Lib.hid (fun W (g : w.grownBy W none) => h.kept g)
  have H2 := Lib.hid (fun W (g : w.grownBy W none) => h2.kept g)
  have hm : x.tmod 8 = x % 8 := Int.tmod_eq_emod_of_nonneg x1
  have hw8 : IntKind.u8.wrap (x % 8) = x % 8 := by show (x % 8) % 256 = x % 8; omega
  have hw9 : IntKind.i64.wrap (x % 8) = x % 8 := by rw [IntKind.wrap_i64]; omega
  have hw1 : IntKind.i64.wrap (x % 8 + 1) = x % 8 + 1 := by rw [IntKind.wrap_i64]; omega
  have HI : Hid (∀ z ∈ [x % 8 + 1], i64 z) := Lib.hid (fun z hz => by rw [List.mem_singleton.1 hz]; unfold i64; omega)
  clear h h2
  go_enter Try.func7, Try.ntmps7
  go_wp2_with fail
  refine (sane_k _).mono ?_
  rintro e w1 ⟨rfl, g1⟩
  go_wp2_with fail
  refine (offer_k _ _ _ _ _ (H1.out _ g1)).mono ?_
  rintro e w2 ⟨v1, rfl, o1, g2⟩
  obtain ⟨A1, c1, rfl, i1, _⟩ := OwnI.ints o1 (slots_i64 l)
  have L1 := Lib.hid (slots_len l)
  have J1 := Lib.hid (slots_i64 l)
  clear o1
  generalize slotsV l = a at *
  generalize hn1 : a.length = n1 at *
  have N1 := Lib.hid hn1
  clear hn1
  go_wp2_with fail
  refine (offer_k _ _ _ _ _ (H2.out _ (g1.trans g2))).mono ?_
  rintro e w3 ⟨v2, rfl, o2, g3⟩
  obtain ⟨A2, c2, rfl, i2, _⟩ := OwnI.ints o2 (slots_i64 l2)
  have L2 := Lib.hid (slots_len l2)
  clear o2
  generalize slotsV l2 = b at *
  generalize hn2 : b.length = n2 at *
  have N2 := Lib.hid hn2
  clear hn2
  replace i1 := i1.kept g3
  obtain ⟨w4, e4, R1, g4⟩ := row_of w3 35 #[.string ⟨#[]⟩, .int .i64 0, .int .i64 0, .slice A1 n1 c1, .slice none 0 0]
  obtain ⟨w5, e5, R2, g5⟩ := row_of w4 35 #[.string ⟨#[]⟩, .int .i64 0, .int .i64 0, .slice A2 n2 c2, .slice none 0 0]
  obtain ⟨w6, e6, R3, g6⟩ := row_of w5 35 #[.string ⟨#[]⟩, .int .i64 0, .int .i64 0, .slice A1 n1 c1, .slice none 0 0]
  have s4 : w4.heap.size = w3.heap.size + 1 := by rw [e4]; simp
  have s5 : w5.heap.size = w3.heap.size + 1 + 1 := by rw [e5]; simp [s4]
  rw [s4] at R2
  have hne : Hid (w3.heap.size < w5.heap.size ∧ w3.heap.size + 1 ≠ w5.heap.size) := Lib.hid (by omega)
  replace R1 := R1.kept g5
  have d0 := R1.c 0 rfl
  have d1 := R1.c 1 rfl
  have d2 := R1.c 2 rfl
  have d3 := R1.c 3 rfl
  have d4 := R1.c 4 rfl
  replace R1 := R1.kept g6
  replace R2 := R2.kept g6
  have GG := Lib.hid ((g1.trans g2).trans g3)
  have G36 := Lib.hid ((g4.trans g5).trans g6)
  have I1 := Lib.hid i1
  have I2 := Lib.hid i2
  clear i1 i2 g1 g2 g3 g4 g5 s4 s5 H1 H2
  have E4 := Lib.hid e4
  have E5 := Lib.hid e5
  have E6 := Lib.hid e6
  clear e4 e5 e6
  go_upto_region 3 with fail
  rw [← E4.out, ← E5.out]
  go_upto_region 4 with fail
  rw [← E6.out]
  clear E4 E5 E6 d0 d1 d2 d3 d4 g6
  generalize w5.heap.size = Q3 at *
  generalize hq1 : w3.heap.size = Q1 at *
  have HQ1 := Lib.hid hq1
  clear hq1
  have hz := R3.lt
  have ga := World.grownBy_alloc w6 (.cells #[] 3) none
  have HM : Hid ((w6.alloc (.cells #[] 3)).ownsRow w6.heap.size 3 1 (.slice (some ⟨w6.heap.size, 0, none⟩) 0 0) 0 []) := Lib.hid (World.ownsRow_made (base := w6.heap.size) (e := 3) (size := 1) w6 #[] 0 (Nat.le_refl _) (by decide) rfl)
  have HV := Lib.hid (I1.out.v.kept (G36.out.trans ga))
  have k3 := (R1.kept ga).c 3 rfl
  have hbase : w6.heap.size ≤ (w6.alloc (.cells #[] 3)).heap.size := by simp
  replace R1 := Lib.hid R1
  replace R2 := Lib.hid R2
  replace R3 := Lib.hid R3
  have HNB : Hid (n1 ≤ 6) := Lib.hid (by have := L1.out; have := N1.out; omega)
  replace ga := Lib.hid ga
  have hz1 := R1.out.lt
  have hz2 := R2.out.lt
  go_upto_region 5 with (at_builtin; first
    | (refine wpList_append_vals elt3 rfl (.tmp 18) (.tmp 20) rfl w6.heap.size _ 0 [] rfl HM.out A1 n1 c1 _ rfl HV.out (by have := HNB.out; omega) hbase ?_
       intro v3 w8 ho hg hb hv
       have G8 : Hid (w6.grownBy w8 none) := Lib.hid (ga.out.andThen hg (fun r e => .inl (by have e : some w6.heap.size = some r := e; injection e with e; omega)))
       have ga2 := World.grownBy_alloc w8 (.cells #[.int .i64 (x % 8 + 1)] 3) none
       have HO2 := Lib.hid (World.ownsRow.kept ho ga2 (by cases v3.ownBlock with | none => exact .inl rfl | some k => exact .inr (by simp)))
       have HV2 := Lib.hid (new_vals w8 3 [.int .i64 (x % 8 + 1)] 1 rfl (by omega) (fun u hu => by rw [List.mem_singleton.1 hu]; rfl))
       have hbase2 : w6.heap.size ≤ (w8.alloc (.cells #[.int .i64 (x % 8 + 1)] 3)).heap.size := by have := G8.out.size; have := ga2.size; omega
       have G8a := Lib.hid (G8.out.trans ga2)
       clear ho hg hb hv ga2 k3)
    | (refine wpList_append_vals elt3 rfl (.tmp 21) (.tmp 26) rfl w6.heap.size _ (0 + n1) _ rfl HO2.out _ 1 1 _ rfl HV2.out (by have := HNB.out; omega) hbase2 ?_
       intro v4 w9 ho hg hb hv
       have G9 := G8a.out.andThen hg (fun r e => .inl (by have := (World.ownsRow.lt HO2.out r e).1; omega))
       obtain ⟨A4, c4, rfl, V4, hA4⟩ := own_vals ho (fun u hu => by
         rcases List.mem_append.1 hu with hu | hu
         · obtain ⟨z, _, rfl⟩ := List.mem_map.1 hu; rfl
         · rw [List.mem_singleton.1 hu]; rfl)
       have r3 := R3.out.kept G9
       have c3 := r3.c 3 rfl
       have f3 := r3.fz 3
       have hz9 := r3.lt
       replace V4 := Lib.hid V4
       replace hA4 := Lib.hid hA4
       replace G9 := Lib.hid G9
       clear ho hg hb hv r3))
  have gl := grown_setCell w9 Q3 3 (.slice A4 (n1 + 1) c4)
  have ne1 : (some Q1 : Option Nat) ≠ some Q3 := fun e => by injection e with e; have := hne.out.1; omega
  have ne2 : (some (Q1 + 1) : Option Nat) ≠ some Q3 := fun e => by injection e with e; have := hne.out.2; omega
  have R1n := Lib.hid ((R1.out.kept G9.out).keptR gl ne1)
  have R2n := Lib.hid ((R2.out.kept G9.out).keptR gl ne2)
  have R3n : Hid (Row _ Q3 35 #[.string ⟨#[]⟩, .int .i64 0, .int .i64 0, .slice A4 (n1 + 1) c4, .slice none 0 0]) := Lib.hid ((R3.out.kept G9.out).set 3 (.slice A4 (n1 + 1) c4))
  have G3n := Lib.hid ((G36.out.trans G9.out).andThen gl (by rintro j ⟨⟩; exact .inl (by have := hne.out.1; have := HQ1.out; omega)))
  have I4 : Hid (Ints (w9.setCell ⟨Q3, 3, none⟩ (.slice A4 (n1 + 1) c4)) A4 (n1 + 1) c4 (a ++ [x % 8 + 1])) := Lib.hid ⟨by
    have := V4.out.keptR gl (fun ad e _ => by intro h; injection h with h; have := hA4.out ad e; have := R3.out.lt; omega)
    simpa using this, fun z hz => by
    rcases List.mem_append.1 hz with hz | hz
    · exact J1.out z hz
    · exact HI.out z hz⟩
  have J4 := Lib.hid (I1.out.kept G3n.out)
  have J5 := Lib.hid (I2.out.kept G3n.out)
  clear gl ne1 ne2 R1 R2 R3 V4 hA4 G9 I1 I2 c3 f3 hz9 hz1 hz2 hz HM HV HO2 HV2 hbase hbase2 G8 G8a ga G36 HQ1 hne L1 L2 J1 N2
  generalize w9.setCell ⟨Q3, 3, none⟩ (.slice A4 (n1 + 1) c4) = wa at *
  generalize Q1 + 1 = Q2 at *
  have d0 := R1n.out.c 0 rfl
  have d1 := R1n.out.c 1 rfl
  have d2 := R1n.out.c 2 rfl
  have d3 := R1n.out.c 3 rfl
  have d4 := R1n.out.c 4 rfl
  have e0 := R2n.out.c 0 rfl
  have e1 := R2n.out.c 1 rfl
  have e2 := R2n.out.c 2 rfl
  have e3 := R2n.out.c 3 rfl
  have e4 := R2n.out.c 4 rfl
  go_wp2_with fail
  refine (clash_k ⟨[], 0, 0, A1, n1, c1, none, 0, 0⟩ ⟨[], 0, 0, A2, n2, c2, none, 0, 0⟩ a b _ J4.out J5.out).mono ?_
  rintro e wb ⟨rfl, g⟩
  clear d0 d1 d2 d3 d4 e0 e1 e2 e3 e4
  have HSY := Lib.hid (any_sym a b)
  have HSE := Lib.hid (any_self a)
  have HMO := Lib.hid (any_more a b (x % 8 + 1))
  have HME := Lib.hid (any_mem a (x % 8 + 1))
  generalize hK : (b.any fun n => decide (n ∈ a)) = K at *
  have JA := Lib.hid (J4.out.kept g)
  have JB := Lib.hid (J5.out.kept g)
  have JM := Lib.hid (I4.out.kept g)
  have GE := Lib.hid ((GG.out.trans G3n.out).trans g)
  replace R1n := R1n.out.kept g
  replace R2n := R2n.out.kept g
  replace R3n := R3n.out.kept g
  have d0 := R1n.c 0 rfl
  have d1 := R1n.c 1 rfl
  have d2 := R1n.c 2 rfl
  have d3 := R1n.c 3 rfl
  have d4 := R1n.c 4 rfl
  have e0 := R2n.c 0 rfl
  have e1 := R2n.c 1 rfl
  have e2 := R2n.c 2 rfl
  have e3 := R2n.c 3 rfl
  have e4 := R2n.c 4 rfl
  have k0 := R3n.c 0 rfl
  have k1 := R3n.c 1 rfl
  have k2 := R3n.c 2 rfl
  have k3 := R3n.c 3 rfl
  have k4 := R3n.c 4 rfl
  clear R1n R2n R3n g G3n GG J4 J5 I4 hK
  have hgo : Hid (∀ z : Bool, z = z) := Lib.hid (fun _ => rfl)
  by_cases hn : 0 < n1
  · have hp : decide ((0 : Int) < (n1 : Int)) = true := by simp; omega
    replace HSE : Hid ((a.any fun n => decide (n ∈ a)) = true) := Lib.hid (by rw [HSE.out, N1.out]; simp; omega)
    have hf : (0 < n1) = True := by simp; omega
    clear hn
    cases K
    · go_upto_region 6 with fail
      have gz : wb.grownBy wb.drew none := grown_dr (grown_refl _)
      refine wp_region_noPanic ?_
      refine wp_region_held_drew (S := (fun w' => wb.grownBy w' none)) (by kernel_rfl) ?_ (fun hHeld => ?_)
      · (try dsimp only); (repeat (first | assumption | exact grown_refl _ | refine grown_dr ?_ | refine grown_dn ?_ | refine grown_al ?_))
      refine wpAnyH_take (i := 0) (oi := _) (v := ?_) rfl (by kernel_rfl) (by kernel_rfl) (by kernel_rfl) (fun _ _ _ h => h) (Or.inl ⟨by rfl, ?_⟩) (by assumption) ?_
      rotate_left 1
      · (intro w hSw; (try dsimp only at hSw); go_simp; first | done | with_reducible rfl)
      try go_simp
      refine wpAnyH_take (i := 1) (oi := _) (v := ?_) rfl (by kernel_rfl) (by kernel_rfl) (by kernel_rfl) (fun _ _ _ h => h) (Or.inl ⟨by rfl, ?_⟩) (by assumption) ?_
      rotate_left 1
      · (intro w hSw; (try dsimp only at hSw); go_simp; first | done | with_reducible rfl)
      try go_simp
      refine wpAnyH_take (i := 2) (oi := _) (v := ?_) rfl (by kernel_rfl) (by kernel_rfl) (by kernel_rfl) (fun _ _ _ h => h) (Or.inl ⟨by kernel_rfl, ?_⟩) (by assumption) ?_
      rotate_left 1
      · (intro w hSw; (try dsimp only at hSw); go_simp; first | done | with_reducible rfl)
      try go_simp
      refine wpAnyH_take (i := 3) (oi := _) (v := .agg #[.string ⟨#[]⟩, .int .i64 0, .int .i64 0, .slice A2 n2 c2, .slice none 0 0]) rfl (by kernel_rfl) (by kernel_rfl) (by kernel_rfl) (fun _ _ _ h => h) (Or.inl ⟨by kernel_rfl, ?_⟩) (by assumption) ?_
      · (intro w hSw; (try dsimp only at hSw); go_simp; have y0 := gcell hSw e0; have y1 := gcell hSw e1; have y2 := gcell hSw e2; have y3 := gcell hSw e3; have y4 := gcell hSw e4; clear hSw; go_simp; first | done | with_reducible rfl)
      try go_simp
      refine wpAnyH_take (i := 4) (oi := _) (v := .agg #[.string ⟨#[]⟩, .int .i64 0, .int .i64 0, .slice A1 n1 c1, .slice none 0 0]) rfl (by kernel_rfl) (by kernel_rfl) (by kernel_rfl) (fun _ _ _ h => h) (Or.inl ⟨by kernel_rfl, ?_⟩) (by assumption) ?_
      · (intro w hSw; (try dsimp only at hSw); go_simp; have y0 := gcell hSw d0; have y1 := gcell hSw d1; have y2 := gcell hSw d2; have y3 := gcell hSw d3; have y4 := gcell hSw d4; clear hSw; go_simp; first | done | with_reducible rfl)
      try go_simp
      refine wpAnyH_ready (rs := [5]) (by kernel_rfl) (by simp) ?_
      refine AllReadyH.cons (o := _) rfl (fun K hK => ?_) AllReadyH.nil
      go_simp
      refine (clash_k ⟨[], 0, 0, A2, n2, c2, none, 0, 0⟩ ⟨[], 0, 0, A1, n1, c1, none, 0, 0⟩ b a _ (JB.out.kept gz) (JA.out.kept gz)).mono ?_
      rintro e wz5 ⟨rfl, g⟩
      rw [HSY.out]
      replace gz := gz.trans g
      clear g
      first | (refine hK.out _ _ ?_ (fun hHeld => ?_)) | (go_wp2_with fail; refine hK.out _ _ ?_ (fun hHeld => ?_))
      · (try dsimp only); (repeat (first | assumption | exact grown_refl _ | refine grown_dr ?_ | refine grown_dn ?_ | refine grown_al ?_))
      clear hK K
      refine wpAnyH_take (i := 6) (oi := _) (v := ?_) rfl (by kernel_rfl) (by kernel_rfl) (by kernel_rfl) (fun _ _ _ h => h) (Or.inl ⟨by kernel_rfl, ?_⟩) (by assumption) ?_
      rotate_left 1
      · (intro w hSw; (try dsimp only at hSw); go_simp; first | done | with_reducible rfl)
      try go_simp
      refine wpAnyH_take (i := 7) (oi := _) (v := ?_) rfl (by kernel_rfl) (by kernel_rfl) (by kernel_rfl) (fun _ _ _ h => h) (Or.inl ⟨by rfl, ?_⟩) (by assumption) ?_
      rotate_left 1
      · (intro w hSw; (try dsimp only at hSw); go_simp; first | done | with_reducible rfl)
      try go_simp
      refine wpAnyH_take (i := 8) (oi := _) (v := ?_) rfl (by kernel_rfl) (by kernel_rfl) (by kernel_rfl) (fun _ _ _ h => h) (Or.inl ⟨by rfl, ?_⟩) (by assumption) ?_
      rotate_left 1
      · (intro w hSw; (try dsimp only at hSw); go_simp; first | done | with_reducible rfl)
      try go_simp
      refine wpAnyH_take (i := 9) (oi := _) (v := .agg #[.string ⟨#[]⟩, .int .i64 0, .int .i64 0, .slice A1 n1 c1, .slice none 0 0]) rfl (by kernel_rfl) (by kernel_rfl) (by kernel_rfl) (fun _ _ _ h => h) (Or.inl ⟨by kernel_rfl, ?_⟩) (by assumption) ?_
      · (intro w hSw; (try dsimp only at hSw); go_simp; have y0 := gcell hSw d0; have y1 := gcell hSw d1; have y2 := gcell hSw d2; have y3 := gcell hSw d3; have y4 := gcell hSw d4; clear hSw; go_simp; first | done | with_reducible rfl)
      try go_simp
      refine wpAnyH_take (i := 10) (oi := _) (v := .agg #[.string ⟨#[]⟩, .int .i64 0, .int .i64 0, .slice A1 n1 c1, .slice none 0 0]) rfl (by kernel_rfl) (by kernel_rfl) (by kernel_rfl) (fun _ _ _ h => h) (Or.inl ⟨by kernel_rfl, ?_⟩) (by assumption) ?_
      · (intro w hSw; (try dsimp only at hSw); go_simp; have y0 := gcell hSw d0; have y1 := gcell hSw d1; have y2 := gcell hSw d2; have y3 := gcell hSw d3; have y4 := gcell hSw d4; clear hSw; go_simp; first | done | with_reducible rfl)
      try go_simp
      refine wpAnyH_take (i := 12) (oi := _) (v := ?_) rfl (by kernel_rfl) (by kernel_rfl) (by kernel_rfl) (fun _ _ _ h => h) (Or.inl ⟨by kernel_rfl, ?_⟩) (by assumption) ?_
      rotate_left 1
      · (intro w hSw; (try dsimp only at hSw); go_simp; first | done | with_reducible rfl)
      try go_simp
      refine wpAnyH_take (i := 13) (oi := _) (v := .slice A1 n1 c1) rfl (by kernel_rfl) (by kernel_rfl) (by kernel_rfl) (fun _ _ _ h => h) (Or.inl ⟨by kernel_rfl, ?_⟩) (by assumption) ?_
      · (intro w hSw; (try dsimp only at hSw); go_simp; have y3 := gcell hSw d3; clear hSw; go_simp; first | done | with_reducible rfl)
      try go_simp
      refine wpAnyH_take (i := 14) (oi := _) (v := ?_) rfl (by kernel_rfl) (by kernel_rfl) (by kernel_rfl) (fun _ _ _ h => h) (Or.inl ⟨by kernel_rfl, ?_⟩) (by assumption) ?_
      rotate_left 1
      · (intro w hSw; (try dsimp only at hSw); go_simp; first | done | with_reducible rfl)
      try go_simp
      refine wpAnyH_take (i := 15) (oi := _) (v := ?_) rfl (by kernel_rfl) (by kernel_rfl) (by kernel_rfl) (fun _ _ _ h => h) (Or.inl ⟨by kernel_rfl, ?_⟩) (by assumption) ?_
      rotate_left 1
      · (intro w hSw; (try dsimp only at hSw); go_simp; first | done | with_reducible rfl)
      try go_simp
      refine wpAnyH_ready (rs := [11]) (by kernel_rfl) (by simp) ?_
      refine AllReadyH.cons (o := _) rfl (fun K hK => ?_) AllReadyH.nil
      go_simp
      refine (clash_k ⟨[], 0, 0, A1, n1, c1, none, 0, 0⟩ ⟨[], 0, 0, A1, n1, c1, none, 0, 0⟩ a a _ (JA.out.kept gz) (JA.out.kept gz)).mono ?_
      rintro e wz11 ⟨rfl, g⟩
      rw [HSE.out]
      replace gz := gz.trans g
      clear g
      first | (refine hK.out _ _ ?_ (fun hHeld => ?_)) | (go_wp2_with fail; refine hK.out _ _ ?_ (fun hHeld => ?_))
      · (try dsimp only); (repeat (first | assumption | exact grown_refl _ | refine grown_dr ?_ | refine grown_dn ?_ | refine grown_al ?_))
      clear hK K
      refine wpAnyH_take (i := 16) (oi := _) (v := ?_) rfl (by kernel_rfl) (by kernel_rfl) (by kernel_rfl) (fun _ _ _ h => h) (Or.inl ⟨by kernel_rfl, ?_⟩) (by assumption) ?_
      rotate_left 1
      · (intro w hSw; (try dsimp only at hSw); go_simp; first | done | with_reducible rfl)
      try go_simp
      refine wpAnyH_take (i := 17) (oi := _) (v := ?_) rfl (by kernel_rfl) (by kernel_rfl) (by kernel_rfl) (fun _ _ _ h => h) (Or.inl ⟨by rfl, ?_⟩) (by assumption) ?_
      rotate_left 1
      · (intro w hSw; (try dsimp only at hSw); go_simp; first | done | with_reducible rfl)
      try go_simp
      refine wpAnyH_take (i := 18) (oi := _) (v := ?_) rfl (by kernel_rfl) (by kernel_rfl) (by kernel_rfl) (fun _ _ _ h => h) (Or.inl ⟨by rfl, ?_⟩) (by assumption) ?_
      rotate_left 1
      · (intro w hSw; (try dsimp only at hSw); go_simp; first | done | with_reducible rfl)
      try go_simp
      refine wpAnyH_take (i := 19) (oi := _) (v := .agg #[.string ⟨#[]⟩, .int .i64 0, .int .i64 0, .slice A1 n1 c1, .slice none 0 0]) rfl (by kernel_rfl) (by kernel_rfl) (by kernel_rfl) (fun _ _ _ h => h) (Or.inl ⟨by kernel_rfl, ?_⟩) (by assumption) ?_
      · (intro w hSw; (try dsimp only at hSw); go_simp; have y0 := gcell hSw d0; have y1 := gcell hSw d1; have y2 := gcell hSw d2; have y3 := gcell hSw d3; have y4 := gcell hSw d4; clear hSw; go_simp; first | done | with_reducible rfl)
      try go_simp
      refine wpAnyH_take (i := 20) (oi := _) (v := ?_) rfl (by kernel_rfl) (by kernel_rfl) (by kernel_rfl) (fun _ _ _ h => h) (Or.inl ⟨by kernel_rfl, ?_⟩) (by assumption) ?_
      rotate_left 1
      · (intro w hSw; (try dsimp only at hSw); go_simp; first | done | with_reducible rfl)
      try go_simp
      refine wpAnyH_ready (rs := [21]) (by kernel_rfl) (by simp) ?_
      refine AllReadyH.cons (o := _) rfl (fun K hK => ?_) AllReadyH.nil
      go_simp
      refine (clash_k ⟨[], 0, 0, A1, n1, c1, none, 0, 0⟩ ⟨[], 0, 0, none, 0, 0, none, 0, 0⟩ a [] _ (JA.out.kept gz) (Ints.nil_ _)).mono ?_
      rintro e wz21 ⟨rfl, g⟩
      rw [show (([] : List Int).any fun n => decide (n ∈ a)) = false from rfl]
      replace gz := gz.trans g
      clear g
      first | (refine hK.out _ _ ?_ (fun hHeld => ?_)) | (go_wp2_with fail; refine hK.out _ _ ?_ (fun hHeld => ?_))
      · (try dsimp only); (repeat (first | assumption | exact grown_refl _ | refine grown_dr ?_ | refine grown_dn ?_ | refine grown_al ?_))
      clear hK K
      refine wpAnyH_take (i := 22) (oi := _) (v := ?_) rfl (by kernel_rfl) (by kernel_rfl) (by kernel_rfl) (fun _ _ _ h => h) (Or.inl ⟨by kernel_rfl, ?_⟩) (by assumption) ?_
      rotate_left 1
      · (intro w hSw; (try dsimp only at hSw); go_simp; first | done | with_reducible rfl)
      try go_simp
      refine wpAnyH_take (i := 23) (oi := _) (v := ?_) rfl (by kernel_rfl) (by kernel_rfl) (by kernel_rfl) (fun _ _ _ h => h) (Or.inl ⟨by rfl, ?_⟩) (by assumption) ?_
      rotate_left 1
      · (intro w hSw; (try dsimp only at hSw); go_simp; first | done | with_reducible rfl)
      try go_simp
      refine wpAnyH_take (i := 24) (oi := _) (v := ?_) rfl (by kernel_rfl) (by kernel_rfl) (by kernel_rfl) (fun _ _ _ h => h) (Or.inl ⟨by rfl, ?_⟩) (by assumption) ?_
      rotate_left 1
      · (intro w hSw; (try dsimp only at hSw); go_simp; first | done | with_reducible rfl)
      try go_simp
      refine wpAnyH_take (i := 25) (oi := _) (v := ?_) rfl (by kernel_rfl) (by kernel_rfl) (by kernel_rfl) (fun _ _ _ h => h) (Or.inl ⟨by kernel_rfl, ?_⟩) (by assumption) ?_
      rotate_left 1
      · (intro w hSw; (try dsimp only at hSw); go_simp; first | done | with_reducible rfl)
      try go_simp
      refine wpAnyH_take (i := 26) (oi := _) (v := ?_) rfl (by kernel_rfl) (by kernel_rfl) (by kernel_rfl) (fun _ _ _ h => h) (Or.inl ⟨by kernel_rfl, ?_⟩) (by assumption) ?_
      rotate_left 1
      · (intro w hSw; (try dsimp only at hSw); go_simp; first | done | with_reducible rfl)
      try go_simp
      refine wpAnyH_take (i := 27) (oi := _) (v := ?_) rfl (by kernel_rfl) (by kernel_rfl) (by kernel_rfl) (fun _ _ _ h => h) (Or.inl ⟨by kernel_rfl, ?_⟩) (by assumption) ?_
      rotate_left 1
      · (intro w hSw; (try dsimp only at hSw); go_simp; first | done | with_reducible rfl)
      try go_simp
      refine wpAnyH_take (i := 28) (oi := _) (v := undef) rfl (by kernel_rfl) (by kernel_rfl) (by kernel_rfl) (fun _ _ _ h => h) (Or.inr ⟨by kernel_rfl, rfl⟩) (by assumption) ?_
      try go_simp
      refine wpAnyH_take (i := 29) (oi := _) (v := undef) rfl (by kernel_rfl) (by kernel_rfl) (by kernel_rfl) (fun _ _ _ h => h) (Or.inr ⟨by kernel_rfl, rfl⟩) (by assumption) ?_
      try go_simp
      refine wpAnyH_take (i := 30) (oi := _) (v := undef) rfl (by kernel_rfl) (by kernel_rfl) (by kernel_rfl) (fun _ _ _ h => h) (Or.inr ⟨by kernel_rfl, rfl⟩) (by assumption) ?_
      try go_simp
      refine wpAnyH_take (i := 31) (oi := _) (v := ?_) rfl (by kernel_rfl) (by kernel_rfl) (by kernel_rfl) (fun _ _ _ h => h) (Or.inl ⟨by kernel_rfl, ?_⟩) (by assumption) ?_
      rotate_left 1
      · (intro w hSw; (try dsimp only at hSw); go_simp; first | done | with_reducible rfl)
      try go_simp
      refine wpAnyH_take (i := 32) (oi := _) (v := ?_) rfl (by kernel_rfl) (by kernel_rfl) (by kernel_rfl) (fun _ _ _ h => h) (Or.inl ⟨by rfl, ?_⟩) (by assumption) ?_
      rotate_left 1
      · (intro w hSw; (try dsimp only at hSw); go_simp; first | done | with_reducible rfl)
      try go_simp
      refine wpAnyH_take (i := 33) (oi := _) (v := ?_) rfl (by kernel_rfl) (by kernel_rfl) (by kernel_rfl) (fun _ _ _ h => h) (Or.inl ⟨by rfl, ?_⟩) (by assumption) ?_
      rotate_left 1
      · (intro w hSw; (try dsimp only at hSw); go_simp; first | done | with_reducible rfl)
      try go_simp
      refine wpAnyH_take (i := 34) (oi := _) (v := .agg #[.string ⟨#[]⟩, .int .i64 0, .int .i64 0, .slice A4 (n1 + 1) c4, .slice none 0 0]) rfl (by kernel_rfl) (by kernel_rfl) (by kernel_rfl) (fun _ _ _ h => h) (Or.inl ⟨by kernel_rfl, ?_⟩) (by assumption) ?_
      · (intro w hSw; (try dsimp only at hSw); go_simp; have y0 := gcell hSw k0; have y1 := gcell hSw k1; have y2 := gcell hSw k2; have y3 := gcell hSw k3; have y4 := gcell hSw k4; clear hSw; go_simp; first | done | with_reducible rfl)
      try go_simp
      refine wpAnyH_take (i := 35) (oi := _) (v := ?_) rfl (by kernel_rfl) (by kernel_rfl) (by kernel_rfl) (fun _ _ _ h => h) (Or.inl ⟨by kernel_rfl, ?_⟩) (by assumption) ?_
      rotate_left 1
      · (intro w hSw; (try dsimp only at hSw); go_simp; first | done | with_reducible rfl)
      try go_simp
      refine wpAnyH_take (i := 36) (oi := _) (v := ?_) rfl (by kernel_rfl) (by kernel_rfl) (by kernel_rfl) (fun _ _ _ h => h) (Or.inl ⟨by kernel_rfl, ?_⟩) (by assumption) ?_
      rotate_left 1
      · (intro w hSw; (try dsimp only at hSw); go_simp; first | done | with_reducible rfl)
      try go_simp
      refine wpAnyH_take (i := 37) (oi := _) (v := ?_) rfl (by kernel_rfl) (by kernel_rfl) (by kernel_rfl) (fun _ _ _ h => h) (Or.inl ⟨by kernel_rfl, ?_⟩) (by assumption) ?_
      rotate_left 1
      · (intro w hSw; (try dsimp only at hSw); go_simp; first | done | with_reducible rfl)
      try go_simp
      refine wpAnyH_take (i := 38) (oi := _) (v := ?_) rfl (by kernel_rfl) (by kernel_rfl) (by kernel_rfl) (fun _ _ _ h => h) (Or.inl ⟨by kernel_rfl, ?_⟩) (by assumption) ?_
      rotate_left 1
      · (intro w hSw; (try dsimp only at hSw); go_simp; first | done | with_reducible rfl)
      try go_simp
      refine wpAnyH_ready (rs := [39]) (by kernel_rfl) (by simp) ?_
      refine AllReadyH.cons (o := _) rfl (fun K hK => ?_) AllReadyH.nil
      go_simp
      go_wp2_with fail
      obtain ⟨wz39, ez, HZ, gy⟩ := row_of wz21 3 #[.int .i64 (x % 8 + 1)]
      rw [← ez]
      replace gz := gz.trans gy
      clear ez gy
      generalize wz21.heap.size = Z at *
      first | (refine hK.out _ _ ?_ (fun hHeld => ?_)) | (go_wp2_with fail; refine hK.out _ _ ?_ (fun hHeld => ?_))
      · (try dsimp only); (repeat (first | assumption | exact grown_refl _ | refine grown_dr ?_ | refine grown_dn ?_ | refine grown_al ?_))
      clear hK K
      refine wpAnyH_take (i := 40) (oi := _) (v := ?_) rfl (by kernel_rfl) (by kernel_rfl) (by kernel_rfl) (fun _ _ _ h => h) (Or.inl ⟨by kernel_rfl, ?_⟩) (by assumption) ?_
      rotate_left 1
      · (intro w hSw; (try dsimp only at hSw); go_simp; first | done | with_reducible rfl)
      try go_simp
      refine wpAnyH_ready (rs := [41]) (by kernel_rfl) (by simp) ?_
      refine AllReadyH.cons (o := _) rfl (fun K hK => ?_) AllReadyH.nil
      go_simp
      refine (clash_k ⟨[], 0, 0, A4, n1 + 1, c4, none, 0, 0⟩ ⟨[], 0, 0, some ⟨Z, 0, none⟩, 1, 1, none, 0, 0⟩ (a ++ [x % 8 + 1]) [x % 8 + 1] _ (JM.out.kept gz) (ints_row (l := [x % 8 + 1]) HZ rfl rfl (by simp) HI.out)).mono ?_
      rintro e wz41 ⟨rfl, g⟩
      rw [HME.out]
      replace gz := gz.trans g
      clear g
      first | (refine hK.out _ _ ?_ (fun hHeld => ?_)) | (go_wp2_with fail; refine hK.out _ _ ?_ (fun hHeld => ?_))
      · (try dsimp only); (repeat (first | assumption | exact grown_refl _ | refine grown_dr ?_ | refine grown_dn ?_ | refine grown_al ?_))
      clear hK K
      refine wpAnyH_take (i := 42) (oi := _) (v := ?_) rfl (by kernel_rfl) (by kernel_rfl) (by kernel_rfl) (fun _ _ _ h => h) (Or.inl ⟨by rfl, ?_⟩) (by assumption) ?_
      rotate_left 1
      · (intro w hSw; (try dsimp only at hSw); go_simp; first | done | with_reducible rfl)
      try go_simp
      refine wpAnyH_take (i := 43) (oi := _) (v := ?_) rfl (by kernel_rfl) (by kernel_rfl) (by kernel_rfl) (fun _ _ _ h => h) (Or.inl ⟨by rfl, ?_⟩) (by assumption) ?_
      rotate_left 1
      · (intro w hSw; (try dsimp only at hSw); go_simp; first | done | with_reducible rfl)
      try go_simp
      refine wpAnyH_done (by kernel_rfl) ?_ _
      refine NoPanic.normal ?_
      go_simp
      have GZ := Lib.hid (GE.out.trans gz)
      clear gz
      go_wp2_with fail
      go_ret
      exact ⟨rfl, GZ.out⟩
    · replace HMO := Lib.hid (HMO.out rfl)
      go_upto_region 6 with fail
      have gz : wb.grownBy wb.drew none := grown_dr (grown_refl _)
      refine wp_region_noPanic ?_
      refine wp_region_held_drew (S := (fun w' => wb.grownBy w' none)) (by kernel_rfl) ?_ (fun hHeld => ?_)
      · (try dsimp only); (repeat (first | assumption | exact grown_refl _ | refine grown_dr ?_ | refine grown_dn ?_ | refine grown_al ?_))
      refine wpAnyH_take (i := 0) (oi := _) (v := ?_) rfl (by kernel_rfl) (by kernel_rfl) (by kernel_rfl) (fun _ _ _ h => h) (Or.inl ⟨by rfl, ?_⟩) (by assumption) ?_
      rotate_left 1
      · (intro w hSw; (try dsimp only at hSw); go_simp; first | done | with_reducible rfl)
      try go_simp
      refine wpAnyH_take (i := 1) (oi := _) (v := ?_) rfl (by kernel_rfl) (by kernel_rfl) (by kernel_rfl) (fun _ _ _ h => h) (Or.inl ⟨by rfl, ?_⟩) (by assumption) ?_
      rotate_left 1
      · (intro w hSw; (try dsimp only at hSw); go_simp; first | done | with_reducible rfl)
      try go_simp
      refine wpAnyH_take (i := 2) (oi := _) (v := ?_) rfl (by kernel_rfl) (by kernel_rfl) (by kernel_rfl) (fun _ _ _ h => h) (Or.inl ⟨by kernel_rfl, ?_⟩) (by assumption) ?_
      rotate_left 1
      · (intro w hSw; (try dsimp only at hSw); go_simp; first | done | with_reducible rfl)
      try go_simp
      refine wpAnyH_take (i := 3) (oi := _) (v := .agg #[.string ⟨#[]⟩, .int .i64 0, .int .i64 0, .slice A2 n2 c2, .slice none 0 0]) rfl (by kernel_rfl) (by kernel_rfl) (by kernel_rfl) (fun _ _ _ h => h) (Or.inl ⟨by kernel_rfl, ?_⟩) (by assumption) ?_
      · (intro w hSw; (try dsimp only at hSw); go_simp; have y0 := gcell hSw e0; have y1 := gcell hSw e1; have y2 := gcell hSw e2; have y3 := gcell hSw e3; have y4 := gcell hSw e4; clear hSw; go_simp; first | done | with_reducible rfl)
      try go_simp
      refine wpAnyH_take (i := 4) (oi := _) (v := .agg #[.string ⟨#[]⟩, .int .i64 0, .int .i64 0, .slice A1 n1 c1, .slice none 0 0]) rfl (by kernel_rfl) (by kernel_rfl) (by kernel_rfl) (fun _ _ _ h => h) (Or.inl ⟨by kernel_rfl, ?_⟩) (by assumption) ?_
      · (intro w hSw; (try dsimp only at hSw); go_simp; have y0 := gcell hSw d0; have y1 := gcell hSw d1; have y2 := gcell hSw d2; have y3 := gcell hSw d3; have y4 := gcell hSw d4; clear hSw; go_simp; first | done | with_reducible rfl)
      try go_simp
      refine wpAnyH_ready (rs := [5]) (by kernel_rfl) (by simp) ?_
      refine AllReadyH.cons (o := _) rfl (fun K hK => ?_) AllReadyH.nil
      go_simp
      refine (clash_k ⟨[], 0, 0, A2, n2, c2, none, 0, 0⟩ ⟨[], 0, 0, A1, n1, c1, none, 0, 0⟩ b a _ (JB.out.kept gz) (JA.out.kept gz)).mono ?_
      rintro e wz5 ⟨rfl, g⟩
      rw [HSY.out]
      replace gz := gz.trans g
      clear g
      first | (refine hK.out _ _ ?_ (fun hHeld => ?_)) | (go_wp2_with fail; refine hK.out _ _ ?_ (fun hHeld => ?_))
      · (try dsimp only); (repeat (first | assumption | exact grown_refl _ | refine grown_dr ?_ | refine grown_dn ?_ | refine grown_al ?_))
      clear hK K
      refine wpAnyH_take (i := 6) (oi := _) (v := ?_) rfl (by kernel_rfl) (by kernel_rfl) (by kernel_rfl) (fun _ _ _ h => h) (Or.inl ⟨by kernel_rfl, ?_⟩) (by assumption) ?_
      rotate_left 1
      · (intro w hSw; (try dsimp only at hSw); go_simp; first | done | with_reducible rfl)
      try go_simp
      refine wpAnyH_take (i := 7) (oi := _) (v := ?_) rfl (by kernel_rfl) (by kernel_rfl) (by kernel_rfl) (fun _ _ _ h => h) (Or.inl ⟨by rfl, ?_⟩) (by assumption) ?_
      rotate_left 1
      · (intro w hSw; (try dsimp only at hSw); go_simp; first | done | with_reducible rfl)
      try go_simp
      refine wpAnyH_take (i := 8) (oi := _) (v := ?_) rfl (by kernel_rfl) (by kernel_rfl) (by kernel_rfl) (fun _ _ _ h => h) (Or.inl ⟨by rfl, ?_⟩) (by assumption) ?_
      rotate_left 1
      · (intro w hSw; (try dsimp only at hSw); go_simp; first | done | with_reducible rfl)
      try go_simp
      refine wpAnyH_take (i := 9) (oi := _) (v := .agg #[.string ⟨#[]⟩, .int .i64 0, .int .i64 0, .slice A1 n1 c1, .slice none 0 0]) rfl (by kernel_rfl) (by kernel_rfl) (by kernel_rfl) (fun _ _ _ h => h) (Or.inl ⟨by kernel_rfl, ?_⟩) (by assumption) ?_
      · (intro w hSw; (try dsimp only at hSw); go_simp; have y0 := gcell hSw d0; have y1 := gcell hSw d1; have y2 := gcell hSw d2; have y3 := gcell hSw d3; have y4 := gcell hSw d4; clear hSw; go_simp; first | done | with_reducible rfl)
      try go_simp
      refine wpAnyH_take (i := 10) (oi := _) (v := .agg #[.string ⟨#[]⟩, .int .i64 0, .int .i64 0, .slice A1 n1 c1, .slice none 0 0]) rfl (by kernel_rfl) (by kernel_rfl) (by kernel_rfl) (fun _ _ _ h => h) (Or.inl ⟨by kernel_rfl, ?_⟩) (by assumption) ?_
      · (intro w hSw; (try dsimp only at hSw); go_simp; have y0 := gcell hSw d0; have y1 := gcell hSw d1; have y2 := gcell hSw d2; have y3 := gcell hSw d3; have y4 := gcell hSw d4; clear hSw; go_simp; first | done | with_reducible rfl)
      try go_simp
      refine wpAnyH_take (i := 12) (oi := _) (v := ?_) rfl (by kernel_rfl) (by kernel_rfl) (by kernel_rfl) (fun _ _ _ h => h) (Or.inl ⟨by kernel_rfl, ?_⟩) (by assumption) ?_
      rotate_left 1
      · (intro w hSw; (try dsimp only at hSw); go_simp; first | done | with_reducible rfl)
      try go_simp
      refine wpAnyH_take (i := 13) (oi := _) (v := .slice A1 n1 c1) rfl (by kernel_rfl) (by kernel_rfl) (by kernel_rfl) (fun _ _ _ h => h) (Or.inl ⟨by kernel_rfl, ?_⟩) (by assumption) ?_
      · (intro w hSw; (try dsimp only at hSw); go_simp; have y3 := gcell hSw d3; clear hSw; go_simp; first | done | with_reducible rfl)
      try go_simp
      refine wpAnyH_take (i := 14) (oi := _) (v := ?_) rfl (by kernel_rfl) (by kernel_rfl) (by kernel_rfl) (fun _ _ _ h => h) (Or.inl ⟨by kernel_rfl, ?_⟩) (by assumption) ?_
      rotate_left 1
      · (intro w hSw; (try dsimp only at hSw); go_simp; first | done | with_reducible rfl)
      try go_simp
      refine wpAnyH_take (i := 15) (oi := _) (v := ?_) rfl (by kernel_rfl) (by kernel_rfl) (by kernel_rfl) (fun _ _ _ h => h) (Or.inl ⟨by kernel_rfl, ?_⟩) (by assumption) ?_
      rotate_left 1
      · (intro w hSw; (try dsimp only at hSw); go_simp; first | done | with_reducible rfl)
      try go_simp
      refine wpAnyH_ready (rs := [11]) (by kernel_rfl) (by simp) ?_
      refine AllReadyH.cons (o := _) rfl (fun K hK => ?_) AllReadyH.nil
      go_simp
      refine (clash_k ⟨[], 0, 0, A1, n1, c1, none, 0, 0⟩ ⟨[], 0, 0, A1, n1, c1, none, 0, 0⟩ a a _ (JA.out.kept gz) (JA.out.kept gz)).mono ?_
      rintro e wz11 ⟨rfl, g⟩
      rw [HSE.out]
      replace gz := gz.trans g
      clear g
      first | (refine hK.out _ _ ?_ (fun hHeld => ?_)) | (go_wp2_with fail; refine hK.out _ _ ?_ (fun hHeld => ?_))
      · (try dsimp only); (repeat (first | assumption | exact grown_refl _ | refine grown_dr ?_ | refine grown_dn ?_ | refine grown_al ?_))
      clear hK K
      refine wpAnyH_take (i := 16) (oi := _) (v := ?_) rfl (by kernel_rfl) (by kernel_rfl) (by kernel_rfl) (fun _ _ _ h => h) (Or.inl ⟨by kernel_rfl, ?_⟩) (by assumption) ?_
      rotate_left 1
      · (intro w hSw; (try dsimp only at hSw); go_simp; first | done | with_reducible rfl)
      try go_simp
      refine wpAnyH_take (i := 17) (oi := _) (v := ?_) rfl (by kernel_rfl) (by kernel_rfl) (by kernel_rfl) (fun _ _ _ h => h) (Or.inl ⟨by rfl, ?_⟩) (by assumption) ?_
      rotate_left 1
      · (intro w hSw; (try dsimp only at hSw); go_simp; first | done | with_reducible rfl)
      try go_simp
      refine wpAnyH_take (i := 18) (oi := _) (v := ?_) rfl (by kernel_rfl) (by kernel_rfl) (by kernel_rfl) (fun _ _ _ h => h) (Or.inl ⟨by rfl, ?_⟩) (by assumption) ?_
      rotate_left 1
      · (intro w hSw; (try dsimp only at hSw); go_simp; first | done | with_reducible rfl)
      try go_simp
      refine wpAnyH_take (i := 19) (oi := _) (v := .agg #[.string ⟨#[]⟩, .int .i64 0, .int .i64 0, .slice A1 n1 c1, .slice none 0 0]) rfl (by kernel_rfl) (by kernel_rfl) (by kernel_rfl) (fun _ _ _ h => h) (Or.inl ⟨by kernel_rfl, ?_⟩) (by assumption) ?_
      · (intro w hSw; (try dsimp only at hSw); go_simp; have y0 := gcell hSw d0; have y1 := gcell hSw d1; have y2 := gcell hSw d2; have y3 := gcell hSw d3; have y4 := gcell hSw d4; clear hSw; go_simp; first | done | with_reducible rfl)
      try go_simp
      refine wpAnyH_take (i := 20) (oi := _) (v := ?_) rfl (by kernel_rfl) (by kernel_rfl) (by kernel_rfl) (fun _ _ _ h => h) (Or.inl ⟨by kernel_rfl, ?_⟩) (by assumption) ?_
      rotate_left 1
      · (intro w hSw; (try dsimp only at hSw); go_simp; first | done | with_reducible rfl)
      try go_simp
      refine wpAnyH_ready (rs := [21]) (by kernel_rfl) (by simp) ?_
      refine AllReadyH.cons (o := _) rfl (fun K hK => ?_) AllReadyH.nil
      go_simp
      refine (clash_k ⟨[], 0, 0, A1, n1, c1, none, 0, 0⟩ ⟨[], 0, 0, none, 0, 0, none, 0, 0⟩ a [] _ (JA.out.kept gz) (Ints.nil_ _)).mono ?_
      rintro e wz21 ⟨rfl, g⟩
      rw [show (([] : List Int).any fun n => decide (n ∈ a)) = false from rfl]
      replace gz := gz.trans g
      clear g
      first | (refine hK.out _ _ ?_ (fun hHeld => ?_)) | (go_wp2_with fail; refine hK.out _ _ ?_ (fun hHeld => ?_))
      · (try dsimp only); (repeat (first | assumption | exact grown_refl _ | refine grown_dr ?_ | refine grown_dn ?_ | refine grown_al ?_))
      clear hK K
      refine wpAnyH_take (i := 22) (oi := _) (v := ?_) rfl (by kernel_rfl) (by kernel_rfl) (by kernel_rfl) (fun _ _ _ h => h) (Or.inl ⟨by kernel_rfl, ?_⟩) (by assumption) ?_
      rotate_left 1
      · (intro w hSw; (try dsimp only at hSw); go_simp; first | done | with_reducible rfl)
      try go_simp
      refine wpAnyH_take (i := 23) (oi := _) (v := ?_) rfl (by kernel_rfl) (by kernel_rfl) (by kernel_rfl) (fun _ _ _ h => h) (Or.inl ⟨by rfl, ?_⟩) (by assumption) ?_
      rotate_left 1
      · (intro w hSw; (try dsimp only at hSw); go_simp; first | done | with_reducible rfl)
      try go_simp
      refine wpAnyH_take (i := 24) (oi := _) (v := ?_) rfl (by kernel_rfl) (by kernel_rfl) (by kernel_rfl) (fun _ _ _ h => h) (Or.inl ⟨by rfl, ?_⟩) (by assumption) ?_
      rotate_left 1
      · (intro w hSw; (try dsimp only at hSw); go_simp; first | done | with_reducible rfl)
      try go_simp
      refine wpAnyH_take (i := 25) (oi := _) (v := ?_) rfl (by kernel_rfl) (by kernel_rfl) (by kernel_rfl) (fun _ _ _ h => h) (Or.inl ⟨by kernel_rfl, ?_⟩) (by assumption) ?_
      rotate_left 1
      · (intro w hSw; (try dsimp only at hSw); go_simp; first | done | with_reducible rfl)
      try go_simp
      refine wpAnyH_take (i := 26) (oi := _) (v := ?_) rfl (by kernel_rfl) (by kernel_rfl) (by kernel_rfl) (fun _ _ _ h => h) (Or.inl ⟨by kernel_rfl, ?_⟩) (by assumption) ?_
      rotate_left 1
      · (intro w hSw; (try dsimp only at hSw); go_simp; first | done | with_reducible rfl)
      try go_simp
      refine wpAnyH_take (i := 27) (oi := _) (v := ?_) rfl (by kernel_rfl) (by kernel_rfl) (by kernel_rfl) (fun _ _ _ h => h) (Or.inl ⟨by kernel_rfl, ?_⟩) (by assumption) ?_
      rotate_left 1
      · (intro w hSw; (try dsimp only at hSw); go_simp; first | done | with_reducible rfl)
      try go_simp
      refine wpAnyH_take (i := 28) (oi := _) (v := .agg #[.string ⟨#[]⟩, .int .i64 0, .int .i64 0, .slice A4 (n1 + 1) c4, .slice none 0 0]) rfl (by kernel_rfl) (by kernel_rfl) (by kernel_rfl) (fun _ _ _ h => h) (Or.inl ⟨by kernel_rfl, ?_⟩) (by assumption) ?_
      · (intro w hSw; (try dsimp only at hSw); go_simp; have y0 := gcell hSw k0; have y1 := gcell hSw k1; have y2 := gcell hSw k2; have y3 := gcell hSw k3; have y4 := gcell hSw k4; clear hSw; go_simp; first | done | with_reducible rfl)
      try go_simp
      refine wpAnyH_take (i := 29) (oi := _) (v := .agg #[.string ⟨#[]⟩, .int .i64 0, .int .i64 0, .slice A2 n2 c2, .slice none 0 0]) rfl (by kernel_rfl) (by kernel_rfl) (by kernel_rfl) (fun _ _ _ h => h) (Or.inl ⟨by kernel_rfl, ?_⟩) (by assumption) ?_
      · (intro w hSw; (try dsimp only at hSw); go_simp; have y0 := gcell hSw e0; have y1 := gcell hSw e1; have y2 := gcell hSw e2; have y3 := gcell hSw e3; have y4 := gcell hSw e4; clear hSw; go_simp; first | done | with_reducible rfl)
      try go_simp
      refine wpAnyH_ready (rs := [30]) (by kernel_rfl) (by simp) ?_
      refine AllReadyH.cons (o := _) rfl (fun K hK => ?_) AllReadyH.nil
      go_simp
      refine (clash_k ⟨[], 0, 0, A4, n1 + 1, c4, none, 0, 0⟩ ⟨[], 0, 0, A2, n2, c2, none, 0, 0⟩ (a ++ [x % 8 + 1]) b _ (JM.out.kept gz) (JB.out.kept gz)).mono ?_
      rintro e wz30 ⟨rfl, g⟩
      rw [HMO.out]
      replace gz := gz.trans g
      clear g
      first | (refine hK.out _ _ ?_ (fun hHeld => ?_)) | (go_wp2_with fail; refine hK.out _ _ ?_ (fun hHeld => ?_))
      · (try dsimp only); (repeat (first | assumption | exact grown_refl _ | refine grown_dr ?_ | refine grown_dn ?_ | refine grown_al ?_))
      clear hK K
      refine wpAnyH_take (i := 31) (oi := _) (v := ?_) rfl (by kernel_rfl) (by kernel_rfl) (by kernel_rfl) (fun _ _ _ h => h) (Or.inl ⟨by kernel_rfl, ?_⟩) (by assumption) ?_
      rotate_left 1
      · (intro w hSw; (try dsimp only at hSw); go_simp; first | done | with_reducible rfl)
      try go_simp
      refine wpAnyH_take (i := 32) (oi := _) (v := ?_) rfl (by kernel_rfl) (by kernel_rfl) (by kernel_rfl) (fun _ _ _ h => h) (Or.inl ⟨by rfl, ?_⟩) (by assumption) ?_
      rotate_left 1
      · (intro w hSw; (try dsimp only at hSw); go_simp; first | done | with_reducible rfl)
      try go_simp
      refine wpAnyH_take (i := 33) (oi := _) (v := ?_) rfl (by kernel_rfl) (by kernel_rfl) (by kernel_rfl) (fun _ _ _ h => h) (Or.inl ⟨by rfl, ?_⟩) (by assumption) ?_
      rotate_left 1
      · (intro w hSw; (try dsimp only at hSw); go_simp; first | done | with_reducible rfl)
      try go_simp
      refine wpAnyH_take (i := 34) (oi := _) (v := .agg #[.string ⟨#[]⟩, .int .i64 0, .int .i64 0, .slice A4 (n1 + 1) c4, .slice none 0 0]) rfl (by kernel_rfl) (by kernel_rfl) (by kernel_rfl) (fun _ _ _ h => h) (Or.inl ⟨by kernel_rfl, ?_⟩) (by assumption) ?_
      · (intro w hSw; (try dsimp only at hSw); go_simp; have y0 := gcell hSw k0; have y1 := gcell hSw k1; have y2 := gcell hSw k2; have y3 := gcell hSw k3; have y4 := gcell hSw k4; clear hSw; go_simp; first | done | with_reducible rfl)
      try go_simp
      refine wpAnyH_take (i := 35) (oi := _) (v := ?_) rfl (by kernel_rfl) (by kernel_rfl) (by kernel_rfl) (fun _ _ _ h => h) (Or.inl ⟨by kernel_rfl, ?_⟩) (by assumption) ?_
      rotate_left 1
      · (intro w hSw; (try dsimp only at hSw); go_simp; first | done | with_reducible rfl)
      try go_simp
      refine wpAnyH_take (i := 36) (oi := _) (v := ?_) rfl (by kernel_rfl) (by kernel_rfl) (by kernel_rfl) (fun _ _ _ h => h) (Or.inl ⟨by kernel_rfl, ?_⟩) (by assumption) ?_
      rotate_left 1
      · (intro w hSw; (try dsimp only at hSw); go_simp; first | done | with_reducible rfl)
      try go_simp
      refine wpAnyH_take (i := 37) (oi := _) (v := ?_) rfl (by kernel_rfl) (by kernel_rfl) (by kernel_rfl) (fun _ _ _ h => h) (Or.inl ⟨by kernel_rfl, ?_⟩) (by assumption) ?_
      rotate_left 1
      · (intro w hSw; (try dsimp only at hSw); go_simp; first | done | with_reducible rfl)
      try go_simp
      refine wpAnyH_take (i := 38) (oi := _) (v := ?_) rfl (by kernel_rfl) (by kernel_rfl) (by kernel_rfl) (fun _ _ _ h => h) (Or.inl ⟨by kernel_rfl, ?_⟩) (by assumption) ?_
      rotate_left 1
      · (intro w hSw; (try dsimp only at hSw); go_simp; first | done | with_reducible rfl)
      try go_simp
      refine wpAnyH_ready (rs := [39]) (by kernel_rfl) (by simp) ?_
      refine AllReadyH.cons (o := _) rfl (fun K hK => ?_) AllReadyH.nil
      go_simp
      go_wp2_with fail
      obtain ⟨wz39, ez, HZ, gy⟩ := row_of wz30 3 #[.int .i64 (x % 8 + 1)]
      rw [← ez]
      replace gz := gz.trans gy
      clear ez gy
      generalize wz30.heap.size = Z at *
      first | (refine hK.out _ _ ?_ (fun hHeld => ?_)) | (go_wp2_with fail; refine hK.out _ _ ?_ (fun hHeld => ?_))
      · (try dsimp only); (repeat (first | assumption | exact grown_refl _ | refine grown_dr ?_ | refine grown_dn ?_ | refine grown_al ?_))
      clear hK K
      refine wpAnyH_take (i := 40) (oi := _) (v := ?_) rfl (by kernel_rfl) (by kernel_rfl) (by kernel_rfl) (fun _ _ _ h => h) (Or.inl ⟨by kernel_rfl, ?_⟩) (by assumption) ?_
      rotate_left 1
      · (intro w hSw; (try dsimp only at hSw); go_simp; first | done | with_reducible rfl)
      try go_simp
      refine wpAnyH_ready (rs := [41]) (by kernel_rfl) (by simp) ?_
      refine AllReadyH.cons (o := _) rfl (fun K hK => ?_) AllReadyH.nil
      go_simp
      refine (clash_k ⟨[], 0, 0, A4, n1 + 1, c4, none, 0, 0⟩ ⟨[], 0, 0, some ⟨Z, 0, none⟩, 1, 1, none, 0, 0⟩ (a ++ [x % 8 + 1]) [x % 8 + 1] _ (JM.out.kept gz) (ints_row (l := [x % 8 + 1]) HZ rfl rfl (by simp) HI.out)).mono ?_
      rintro e wz41 ⟨rfl, g⟩
      rw [HME.out]
      replace gz := gz.trans g
      clear g
      first | (refine hK.out _ _ ?_ (fun hHeld => ?_)) | (go_wp2_with fail; refine hK.out _ _ ?_ (fun hHeld => ?_))
      · (try dsimp only); (repeat (first | assumption | exact grown_refl _ | refine grown_dr ?_ | refine grown_dn ?_ | refine grown_al ?_))
      clear hK K
      refine wpAnyH_take (i := 42) (oi := _) (v := ?_) rfl (by kernel_rfl) (by kernel_rfl) (by kernel_rfl) (fun _ _ _ h => h) (Or.inl ⟨by rfl, ?_⟩) (by assumption) ?_
      rotate_left 1
      · (intro w hSw; (try dsimp only at hSw); go_simp; first | done | with_reducible rfl)
      try go_simp
      refine wpAnyH_take (i := 43) (oi := _) (v := ?_) rfl (by kernel_rfl) (by kernel_rfl) (by kernel_rfl) (fun _ _ _ h => h) (Or.inl ⟨by rfl, ?_⟩) (by assumption) ?_
      rotate_left 1
      · (intro w hSw; (try dsimp only at hSw); go_simp; first | done | with_reducible rfl)
      try go_simp
      refine wpAnyH_done (by kernel_rfl) ?_ _
      refine NoPanic.normal ?_
      go_simp
      have GZ := Lib.hid (GE.out.trans gz)
      clear gz
      go_wp2_with fail
      go_ret
      exact ⟨rfl, GZ.out⟩
  · have hp : decide ((0 : Int) < (n1 : Int)) = false := by simp; omega
    replace HSE : Hid ((a.any fun n => decide (n ∈ a)) = false) := Lib.hid (by rw [HSE.out, N1.out]; simp; omega)
    have hf : (0 < n1) = False := by simp; omega
    clear hn
    cases K
    · go_upto_region 6 with fail
      have gz : wb.grownBy wb.drew none := grown_dr (grown_refl _)
      refine wp_region_noPanic ?_
      refine wp_region_held_drew (S := (fun w' => wb.grownBy w' none)) (by kernel_rfl) ?_ (fun hHeld => ?_)
      · (try dsimp only); (repeat (first | assumption | exact grown_refl _ | refine grown_dr ?_ | refine grown_dn ?_ | refine grown_al ?_))
      refine wpAnyH_take (i := 0) (oi := _) (v := ?_) rfl (by kernel_rfl) (by kernel_rfl) (by kernel_rfl) (fun _ _ _ h => h) (Or.inl ⟨by rfl, ?_⟩) (by assumption) ?_
      rotate_left 1
      · (intro w hSw; (try dsimp only at hSw); go_simp; first | done | with_reducible rfl)
      try go_simp
      refine wpAnyH_take (i := 1) (oi := _) (v := ?_) rfl (by kernel_rfl) (by kernel_rfl) (by kernel_rfl) (fun _ _ _ h => h) (Or.inl ⟨by rfl, ?_⟩) (by assumption) ?_
      rotate_left 1
      · (intro w hSw; (try dsimp only at hSw); go_simp; first | done | with_reducible rfl)
      try go_simp
      refine wpAnyH_take (i := 2) (oi := _) (v := ?_) rfl (by kernel_rfl) (by kernel_rfl) (by kernel_rfl) (fun _ _ _ h => h) (Or.inl ⟨by kernel_rfl, ?_⟩) (by assumption) ?_
      rotate_left 1
      · (intro w hSw; (try dsimp only at hSw); go_simp; first | done | with_reducible rfl)
      try go_simp
      refine wpAnyH_take (i := 3) (oi := _) (v := .agg #[.string ⟨#[]⟩, .int .i64 0, .int .i64 0, .slice A2 n2 c2, .slice none 0 0]) rfl (by kernel_rfl) (by kernel_rfl) (by kernel_rfl) (fun _ _ _ h => h) (Or.inl ⟨by kernel_rfl, ?_⟩) (by assumption) ?_
      · (intro w hSw; (try dsimp only at hSw); go_simp; have y0 := gcell hSw e0; have y1 := gcell hSw e1; have y2 := gcell hSw e2; have y3 := gcell hSw e3; have y4 := gcell hSw e4; clear hSw; go_simp; first | done | with_reducible rfl)
      try go_simp
      refine wpAnyH_take (i := 4) (oi := _) (v := .agg #[.string ⟨#[]⟩, .int .i64 0, .int .i64 0, .slice A1 n1 c1, .slice none 0 0]) rfl (by kernel_rfl) (by kernel_rfl) (by kernel_rfl) (fun _ _ _ h => h) (Or.inl ⟨by kernel_rfl, ?_⟩) (by assumption) ?_
      · (intro w hSw; (try dsimp only at hSw); go_simp; have y0 := gcell hSw d0; have y1 := gcell hSw d1; have y2 := gcell hSw d2; have y3 := gcell hSw d3; have y4 := gcell hSw d4; clear hSw; go_simp; first | done | with_reducible rfl)
      try go_simp
      refine wpAnyH_ready (rs := [5]) (by kernel_rfl) (by simp) ?_
      refine AllReadyH.cons (o := _) rfl (fun K hK => ?_) AllReadyH.nil
      go_simp
      refine (clash_k ⟨[], 0, 0, A2, n2, c2, none, 0, 0⟩ ⟨[], 0, 0, A1, n1, c1, none, 0, 0⟩ b a _ (JB.out.kept gz) (JA.out.kept gz)).mono ?_
      rintro e wz5 ⟨rfl, g⟩
      rw [HSY.out]
      replace gz := gz.trans g
      clear g
      first | (refine hK.out _ _ ?_ (fun hHeld => ?_)) | (go_wp2_with fail; refine hK.out _ _ ?_ (fun hHeld => ?_))
      · (try dsimp only); (repeat (first | assumption | exact grown_refl _ | refine grown_dr ?_ | refine grown_dn ?_ | refine grown_al ?_))
      clear hK K
      refine wpAnyH_take (i := 6) (oi := _) (v := ?_) rfl (by kernel_rfl) (by kernel_rfl) (by kernel_rfl) (fun _ _ _ h => h) (Or.inl ⟨by kernel_rfl, ?_⟩) (by assumption) ?_
      rotate_left 1
      · (intro w hSw; (try dsimp only at hSw); go_simp; first | done | with_reducible rfl)
      try go_simp
      refine wpAnyH_take (i := 7) (oi := _) (v := ?_) rfl (by kernel_rfl) (by kernel_rfl) (by kernel_rfl) (fun _ _ _ h => h) (Or.inl ⟨by rfl, ?_⟩) (by assumption) ?_
      rotate_left 1
      · (intro w hSw; (try dsimp only at hSw); go_simp; first | done | with_reducible rfl)
      try go_simp
      refine wpAnyH_take (i := 8) (oi := _) (v := ?_) rfl (by kernel_rfl) (by kernel_rfl) (by kernel_rfl) (fun _ _ _ h => h) (Or.inl ⟨by rfl, ?_⟩) (by assumption) ?_
      rotate_left 1
      · (intro w hSw; (try dsimp only at hSw); go_simp; first | done | with_reducible rfl)
      try go_simp
      refine wpAnyH_take (i := 9) (oi := _) (v := .agg #[.string ⟨#[]⟩, .int .i64 0, .int .i64 0, .slice A1 n1 c1, .slice none 0 0]) rfl (by kernel_rfl) (by kernel_rfl) (by kernel_rfl) (fun _ _ _ h => h) (Or.inl ⟨by kernel_rfl, ?_⟩) (by assumption) ?_
      · (intro w hSw; (try dsimp only at hSw); go_simp; have y0 := gcell hSw d0; have y1 := gcell hSw d1; have y2 := gcell hSw d2; have y3 := gcell hSw d3; have y4 := gcell hSw d4; clear hSw; go_simp; first | done | with_reducible rfl)
      try go_simp
      refine wpAnyH_take (i := 10) (oi := _) (v := .agg #[.string ⟨#[]⟩, .int .i64 0, .int .i64 0, .slice A1 n1 c1, .slice none 0 0]) rfl (by kernel_rfl) (by kernel_rfl) (by kernel_rfl) (fun _ _ _ h => h) (Or.inl ⟨by kernel_rfl, ?_⟩) (by assumption) ?_
      · (intro w hSw; (try dsimp only at hSw); go_simp; have y0 := gcell hSw d0; have y1 := gcell hSw d1; have y2 := gcell hSw d2; have y3 := gcell hSw d3; have y4 := gcell hSw d4; clear hSw; go_simp; first | done | with_reducible rfl)
      try go_simp
      refine wpAnyH_take (i := 12) (oi := _) (v := ?_) rfl (by kernel_rfl) (by kernel_rfl) (by kernel_rfl) (fun _ _ _ h => h) (Or.inl ⟨by kernel_rfl, ?_⟩) (by assumption) ?_
      rotate_left 1
      · (intro w hSw; (try dsimp only at hSw); go_simp; first | done | with_reducible rfl)
      try go_simp
      refine wpAnyH_take (i := 13) (oi := _) (v := .slice A1 n1 c1) rfl (by kernel_rfl) (by kernel_rfl) (by kernel_rfl) (fun _ _ _ h => h) (Or.inl ⟨by kernel_rfl, ?_⟩) (by assumption) ?_
      · (intro w hSw; (try dsimp only at hSw); go_simp; have y3 := gcell hSw d3; clear hSw; go_simp; first | done | with_reducible rfl)
      try go_simp
      refine wpAnyH_take (i := 14) (oi := _) (v := ?_) rfl (by kernel_rfl) (by kernel_rfl) (by kernel_rfl) (fun _ _ _ h => h) (Or.inl ⟨by kernel_rfl, ?_⟩) (by assumption) ?_
      rotate_left 1
      · (intro w hSw; (try dsimp only at hSw); go_simp; first | done | with_reducible rfl)
      try go_simp
      refine wpAnyH_take (i := 15) (oi := _) (v := ?_) rfl (by kernel_rfl) (by kernel_rfl) (by kernel_rfl) (fun _ _ _ h => h) (Or.inl ⟨by kernel_rfl, ?_⟩) (by assumption) ?_
      rotate_left 1
      · (intro w hSw; (try dsimp only at hSw); go_simp; first | done | with_reducible rfl)
      try go_simp
      refine wpAnyH_ready (rs := [11]) (by kernel_rfl) (by simp) ?_
      refine AllReadyH.cons (o := _) rfl (fun K hK => ?_) AllReadyH.nil
      go_simp
      refine (clash_k ⟨[], 0, 0, A1, n1, c1, none, 0, 0⟩ ⟨[], 0, 0, A1, n1, c1, none, 0, 0⟩ a a _ (JA.out.kept gz) (JA.out.kept gz)).mono ?_
      rintro e wz11 ⟨rfl, g⟩
      rw [HSE.out]
      replace gz := gz.trans g
      clear g
      first | (refine hK.out _ _ ?_ (fun hHeld => ?_)) | (go_wp2_with fail; refine hK.out _ _ ?_ (fun hHeld => ?_))
      · (try dsimp only); (repeat (first | assumption | exact grown_refl _ | refine grown_dr ?_ | refine grown_dn ?_ | refine grown_al ?_))
      clear hK K
      refine wpAnyH_take (i := 16) (oi := _) (v := ?_) rfl (by kernel_rfl) (by kernel_rfl) (by kernel_rfl) (fun _ _ _ h => h) (Or.inl ⟨by kernel_rfl, ?_⟩) (by assumption) ?_
      rotate_left 1
      · (intro w hSw; (try dsimp only at hSw); go_simp; first | done | with_reducible rfl)
      try go_simp
      refine wpAnyH_take (i := 17) (oi := _) (v := ?_) rfl (by kernel_rfl) (by kernel_rfl) (by kernel_rfl) (fun _ _ _ h => h) (Or.inl ⟨by rfl, ?_⟩) (by assumption) ?_
      rotate_left 1
      · (intro w hSw; (try dsimp only at hSw); go_simp; first | done | with_reducible rfl)
      try go_simp
      refine wpAnyH_take (i := 18) (oi := _) (v := ?_) rfl (by kernel_rfl) (by kernel_rfl) (by kernel_rfl) (fun _ _ _ h => h) (Or.inl ⟨by rfl, ?_⟩) (by assumption) ?_
      rotate_left 1
      · (intro w hSw; (try dsimp only at hSw); go_simp; first | done | with_reducible rfl)
      try go_simp
      refine wpAnyH_take (i := 19) (oi := _) (v := .agg #[.string ⟨#[]⟩, .int .i64 0, .int .i64 0, .slice A1 n1 c1, .slice none 0 0]) rfl (by kernel_rfl) (by kernel_rfl) (by kernel_rfl) (fun _ _ _ h => h) (Or.inl ⟨by kernel_rfl, ?_⟩) (by assumption) ?_
      · (intro w hSw; (try dsimp only at hSw); go_simp; have y0 := gcell hSw d0; have y1 := gcell hSw d1; have y2 := gcell hSw d2; have y3 := gcell hSw d3; have y4 := gcell hSw d4; clear hSw; go_simp; first | done | with_reducible rfl)
      try go_simp
      refine wpAnyH_take (i := 20) (oi := _) (v := ?_) rfl (by kernel_rfl) (by kernel_rfl) (by kernel_rfl) (fun _ _ _ h => h) (Or.inl ⟨by kernel_rfl, ?_⟩) (by assumption) ?_
      rotate_left 1
      · (intro w hSw; (try dsimp only at hSw); go_simp; first | done | with_reducible rfl)
      try go_simp
      refine wpAnyH_ready (rs := [21]) (by kernel_rfl) (by simp) ?_
      refine AllReadyH.cons (o := _) rfl (fun K hK => ?_) AllReadyH.nil
      go_simp
      refine (clash_k ⟨[], 0, 0, A1, n1, c1, none, 0, 0⟩ ⟨[], 0, 0, none, 0, 0, none, 0, 0⟩ a [] _ (JA.out.kept gz) (Ints.nil_ _)).mono ?_
      rintro e wz21 ⟨rfl, g⟩
      rw [show (([] : List Int).any fun n => decide (n ∈ a)) = false from rfl]
      replace gz := gz.trans g
      clear g
      first | (refine hK.out _ _ ?_ (fun hHeld => ?_)) | (go_wp2_with fail; refine hK.out _ _ ?_ (fun hHeld => ?_))
      · (try dsimp only); (repeat (first | assumption | exact grown_refl _ | refine grown_dr ?_ | refine grown_dn ?_ | refine grown_al ?_))
      clear hK K
      refine wpAnyH_take (i := 22) (oi := _) (v := ?_) rfl (by kernel_rfl) (by kernel_rfl) (by kernel_rfl) (fun _ _ _ h => h) (Or.inl ⟨by kernel_rfl, ?_⟩) (by assumption) ?_
      rotate_left 1
      · (intro w hSw; (try dsimp only at hSw); go_simp; first | done | with_reducible rfl)
      try go_simp
      refine wpAnyH_take (i := 23) (oi := _) (v := ?_) rfl (by kernel_rfl) (by kernel_rfl) (by kernel_rfl) (fun _ _ _ h => h) (Or.inl ⟨by rfl, ?_⟩) (by assumption) ?_
      rotate_left 1
      · (intro w hSw; (try dsimp only at hSw); go_simp; first | done | with_reducible rfl)
      try go_simp
      refine wpAnyH_take (i := 24) (oi := _) (v := ?_) rfl (by kernel_rfl) (by kernel_rfl) (by kernel_rfl) (fun _ _ _ h => h) (Or.inl ⟨by rfl, ?_⟩) (by assumption) ?_
      rotate_left 1
      · (intro w hSw; (try dsimp only at hSw); go_simp; first | done | with_reducible rfl)
      try go_simp
      refine wpAnyH_take (i := 25) (oi := _) (v := ?_) rfl (by kernel_rfl) (by kernel_rfl) (by kernel_rfl) (fun _ _ _ h => h) (Or.inl ⟨by kernel_rfl, ?_⟩) (by assumption) ?_
      rotate_left 1
      · (intro w hSw; (try dsimp only at hSw); go_simp; first | done | with_reducible rfl)
      try go_simp
      refine wpAnyH_take (i := 26) (oi := _) (v := ?_) rfl (by kernel_rfl) (by kernel_rfl) (by kernel_rfl) (fun _ _ _ h => h) (Or.inl ⟨by kernel_rfl, ?_⟩) (by assumption) ?_
      rotate_left 1
      · (intro w hSw; (try dsimp only at hSw); go_simp; first | done | with_reducible rfl)
      try go_simp
      refine wpAnyH_take (i := 27) (oi := _) (v := ?_) rfl (by kernel_rfl) (by kernel_rfl) (by kernel_rfl) (fun _ _ _ h => h) (Or.inl ⟨by kernel_rfl, ?_⟩) (by assumption) ?_
      rotate_left 1
      · (intro w hSw; (try dsimp only at hSw); go_simp; first | done | with_reducible rfl)
      try go_simp
      refine wpAnyH_take (i := 28) (oi := _) (v := undef) rfl (by kernel_rfl) (by kernel_rfl) (by kernel_rfl) (fun _ _ _ h => h) (Or.inr ⟨by kernel_rfl, rfl⟩) (by assumption) ?_
      try go_simp
      refine wpAnyH_take (i := 29) (oi := _) (v := undef) rfl (by kernel_rfl) (by kernel_rfl) (by kernel_rfl) (fun _ _ _ h => h) (Or.inr ⟨by kernel_rfl, rfl⟩) (by assumption) ?_
      try go_simp
      refine wpAnyH_take (i := 30) (oi := _) (v := undef) rfl (by kernel_rfl) (by kernel_rfl) (by kernel_rfl) (fun _ _ _ h => h) (Or.inr ⟨by kernel_rfl, rfl⟩) (by assumption) ?_
      try go_simp
      refine wpAnyH_take (i := 31) (oi := _) (v := ?_) rfl (by kernel_rfl) (by kernel_rfl) (by kernel_rfl) (fun _ _ _ h => h) (Or.inl ⟨by kernel_rfl, ?_⟩) (by assumption) ?_
      rotate_left 1
      · (intro w hSw; (try dsimp only at hSw); go_simp; first | done | with_reducible rfl)
      try go_simp
      refine wpAnyH_take (i := 32) (oi := _) (v := ?_) rfl (by kernel_rfl) (by kernel_rfl) (by kernel_rfl) (fun _ _ _ h => h) (Or.inl ⟨by rfl, ?_⟩) (by assumption) ?_
      rotate_left 1
      · (intro w hSw; (try dsimp only at hSw); go_simp; first | done | with_reducible rfl)
      try go_simp
      refine wpAnyH_take (i := 33) (oi := _) (v := ?_) rfl (by kernel_rfl) (by kernel_rfl) (by kernel_rfl) (fun _ _ _ h => h) (Or.inl ⟨by rfl, ?_⟩) (by assumption) ?_
      rotate_left 1
      · (intro w hSw; (try dsimp only at hSw); go_simp; first | done | with_reducible rfl)
      try go_simp
      refine wpAnyH_take (i := 34) (oi := _) (v := .agg #[.string ⟨#[]⟩, .int .i64 0, .int .i64 0, .slice A4 (n1 + 1) c4, .slice none 0 0]) rfl (by kernel_rfl) (by kernel_rfl) (by kernel_rfl) (fun _ _ _ h => h) (Or.inl ⟨by kernel_rfl, ?_⟩) (by assumption) ?_
      · (intro w hSw; (try dsimp only at hSw); go_simp; have y0 := gcell hSw k0; have y1 := gcell hSw k1; have y2 := gcell hSw k2; have y3 := gcell hSw k3; have y4 := gcell hSw k4; clear hSw; go_simp; first | done | with_reducible rfl)
      try go_simp
      refine wpAnyH_take (i := 35) (oi := _) (v := ?_) rfl (by kernel_rfl) (by kernel_rfl) (by kernel_rfl) (fun _ _ _ h => h) (Or.inl ⟨by kernel_rfl, ?_⟩) (by assumption) ?_
      rotate_left 1
      · (intro w hSw; (try dsimp only at hSw); go_simp; first | done | with_reducible rfl)
      try go_simp
      refine wpAnyH_take (i := 36) (oi := _) (v := ?_) rfl (by kernel_rfl) (by kernel_rfl) (by kernel_rfl) (fun _ _ _ h => h) (Or.inl ⟨by kernel_rfl, ?_⟩) (by assumption) ?_
      rotate_left 1
      · (intro w hSw; (try dsimp only at hSw); go_simp; first | done | with_reducible rfl)
      try go_simp
      refine wpAnyH_take (i := 37) (oi := _) (v := ?_) rfl (by kernel_rfl) (by kernel_rfl) (by kernel_rfl) (fun _ _ _ h => h) (Or.inl ⟨by kernel_rfl, ?_⟩) (by assumption) ?_
      rotate_left 1
      · (intro w hSw; (try dsimp only at hSw); go_simp; first | done | with_reducible rfl)
      try go_simp
      refine wpAnyH_take (i := 38) (oi := _) (v := ?_) rfl (by kernel_rfl) (by kernel_rfl) (by kernel_rfl) (fun _ _ _ h => h) (Or.inl ⟨by kernel_rfl, ?_⟩) (by assumption) ?_
      rotate_left 1
      · (intro w hSw; (try dsimp only at hSw); go_simp; first | done | with_reducible rfl)
      try go_simp
      refine wpAnyH_ready (rs := [39]) (by kernel_rfl) (by simp) ?_
      refine AllReadyH.cons (o := _) rfl (fun K hK => ?_) AllReadyH.nil
      go_simp
      go_wp2_with fail
      obtain ⟨wz39, ez, HZ, gy⟩ := row_of wz21 3 #[.int .i64 (x % 8 + 1)]
      rw [← ez]
      replace gz := gz.trans gy
      clear ez gy
      generalize wz21.heap.size = Z at *
      first | (refine hK.out _ _ ?_ (fun hHeld => ?_)) | (go_wp2_with fail; refine hK.out _ _ ?_ (fun hHeld => ?_))
      · (try dsimp only); (repeat (first | assumption | exact grown_refl _ | refine grown_dr ?_ | refine grown_dn ?_ | refine grown_al ?_))
      clear hK K
      refine wpAnyH_take (i := 40) (oi := _) (v := ?_) rfl (by kernel_rfl) (by kernel_rfl) (by kernel_rfl) (fun _ _ _ h => h) (Or.inl ⟨by kernel_rfl, ?_⟩) (by assumption) ?_
      rotate_left 1
      · (intro w hSw; (try dsimp only at hSw); go_simp; first | done | with_reducible rfl)
      try go_simp
      refine wpAnyH_ready (rs := [41]) (by kernel_rfl) (by simp) ?_
      refine AllReadyH.cons (o := _) rfl (fun K hK => ?_) AllReadyH.nil
      go_simp
      refine (clash_k ⟨[], 0, 0, A4, n1 + 1, c4, none, 0, 0⟩ ⟨[], 0, 0, some ⟨Z, 0, none⟩, 1, 1, none, 0, 0⟩ (a ++ [x % 8 + 1]) [x % 8 + 1] _ (JM.out.kept gz) (ints_row (l := [x % 8 + 1]) HZ rfl rfl (by simp) HI.out)).mono ?_
      rintro e wz41 ⟨rfl, g⟩
      rw [HME.out]
      replace gz := gz.trans g
      clear g
      first | (refine hK.out _ _ ?_ (fun hHeld => ?_)) | (go_wp2_with fail; refine hK.out _ _ ?_ (fun hHeld => ?_))
      · (try dsimp only); (repeat (first | assumption | exact grown_refl _ | refine grown_dr ?_ | refine grown_dn ?_ | refine grown_al ?_))
      clear hK K
      refine wpAnyH_take (i := 42) (oi := _) (v := ?_) rfl (by kernel_rfl) (by kernel_rfl) (by kernel_rfl) (fun _ _ _ h => h) (Or.inl ⟨by rfl, ?_⟩) (by assumption) ?_
      rotate_left 1
      · (intro w hSw; (try dsimp only at hSw); go_simp; first | done | with_reducible rfl)
      try go_simp
      refine wpAnyH_take (i := 43) (oi := _) (v := ?_) rfl (by kernel_rfl) (by kernel_rfl) (by kernel_rfl) (fun _ _ _ h => h) (Or.inl ⟨by rfl, ?_⟩) (by assumption) ?_
      rotate_left 1
      · (intro w hSw; (try dsimp only at hSw); go_simp; first | done | with_reducible rfl)
      try go_simp
      refine wpAnyH_done (by kernel_rfl) ?_ _
      refine NoPanic.normal ?_
      go_simp
      have GZ := Lib.hid (GE.out.trans gz)
      clear gz
      go_wp2_with fail
      go_ret
      exact ⟨rfl, GZ.out⟩
    · replace HMO := Lib.hid (HMO.out rfl)
      go_upto_region 6 with fail
      have gz : wb.grownBy wb.drew none := grown_dr (grown_refl _)
      refine wp_region_noPanic ?_
      refine wp_region_held_drew (S := (fun w' => wb.grownBy w' none)) (by kernel_rfl) ?_ (fun hHeld => ?_)
      · (try dsimp only); (repeat (first | assumption | exact grown_refl _ | refine grown_dr ?_ | refine grown_dn ?_ | refine grown_al ?_))
      refine wpAnyH_take (i := 0) (oi := _) (v := ?_) rfl (by kernel_rfl) (by kernel_rfl) (by kernel_rfl) (fun _ _ _ h => h) (Or.inl ⟨by rfl, ?_⟩) (by assumption) ?_
      rotate_left 1
      · (intro w hSw; (try dsimp only at hSw); go_simp; first | done | with_reducible rfl)
      try go_simp
      refine wpAnyH_take (i := 1) (oi := _) (v := ?_) rfl (by kernel_rfl) (by kernel_rfl) (by kernel_rfl) (fun _ _ _ h => h) (Or.inl ⟨by rfl, ?_⟩) (by assumption) ?_
      rotate_left 1
      · (intro w hSw; (try dsimp only at hSw); go_simp; first | done | with_reducible rfl)
      try go_simp
      refine wpAnyH_take (i := 2) (oi := _) (v := ?_) rfl (by kernel_rfl) (by kernel_rfl) (by kernel_rfl) (fun _ _ _ h => h) (Or.inl ⟨by kernel_rfl, ?_⟩) (by assumption) ?_
      rotate_left 1
      · (intro w hSw; (try dsimp only at hSw); go_simp; first | done | with_reducible rfl)
      try go_simp
      refine wpAnyH_take (i := 3) (oi := _) (v := .agg #[.string ⟨#[]⟩, .int .i64 0, .int .i64 0, .slice A2 n2 c2, .slice none 0 0]) rfl (by kernel_rfl) (by kernel_rfl) (by kernel_rfl) (fun _ _ _ h => h) (Or.inl ⟨by kernel_rfl, ?_⟩) (by assumption) ?_
      · (intro w hSw; (try dsimp only at hSw); go_simp; have y0 := gcell hSw e0; have y1 := gcell hSw e1; have y2 := gcell hSw e2; have y3 := gcell hSw e3; have y4 := gcell hSw e4; clear hSw; go_simp; first | done | with_reducible rfl)
      try go_simp
      refine wpAnyH_take (i := 4) (oi := _) (v := .agg #[.string ⟨#[]⟩, .int .i64 0, .int .i64 0, .slice A1 n1 c1, .slice none 0 0]) rfl (by kernel_rfl) (by kernel_rfl) (by kernel_rfl) (fun _ _ _ h => h) (Or.inl ⟨by kernel_rfl, ?_⟩) (by assumption) ?_
      · (intro w hSw; (try dsimp only at hSw); go_simp; have y0 := gcell hSw d0; have y1 := gcell hSw d1; have y2 := gcell hSw d2; have y3 := gcell hSw d3; have y4 := gcell hSw d4; clear hSw; go_simp; first | done | with_reducible rfl)
      try go_simp
      refine wpAnyH_ready (rs := [5]) (by kernel_rfl) (by simp) ?_
      refine AllReadyH.cons (o := _) rfl (fun K hK => ?_) AllReadyH.nil
      go_simp
      refine (clash_k ⟨[], 0, 0, A2, n2, c2, none, 0, 0⟩ ⟨[], 0, 0, A1, n1, c1, none, 0, 0⟩ b a _ (JB.out.kept gz) (JA.out.kept gz)).mono ?_
      rintro e wz5 ⟨rfl, g⟩
      rw [HSY.out]
      replace gz := gz.trans g
      clear g
      first | (refine hK.out _ _ ?_ (fun hHeld => ?_)) | (go_wp2_with fail; refine hK.out _ _ ?_ (fun hHeld => ?_))
      · (try dsimp only); (repeat (first | assumption | exact grown_refl _ | refine grown_dr ?_ | refine grown_dn ?_ | refine grown_al ?_))
      clear hK K
      refine wpAnyH_take (i := 6) (oi := _) (v := ?_) rfl (by kernel_rfl) (by kernel_rfl) (by kernel_rfl) (fun _ _ _ h => h) (Or.inl ⟨by kernel_rfl, ?_⟩) (by assumption) ?_
      rotate_left 1
      · (intro w hSw; (try dsimp only at hSw); go_simp; first | done | with_reducible rfl)
      try go_simp
      refine wpAnyH_take (i := 7) (oi := _) (v := ?_) rfl (by kernel_rfl) (by kernel_rfl) (by kernel_rfl) (fun _ _ _ h => h) (Or.inl ⟨by rfl, ?_⟩) (by assumption) ?_
      rotate_left 1
      · (intro w hSw; (try dsimp only at hSw); go_simp; first | done | with_reducible rfl)
      try go_simp
      refine wpAnyH_take (i := 8) (oi := _) (v := ?_) rfl (by kernel_rfl) (by kernel_rfl) (by kernel_rfl) (fun _ _ _ h => h) (Or.inl ⟨by rfl, ?_⟩) (by assumption) ?_
      rotate_left 1
      · (intro w hSw; (try dsimp only at hSw); go_simp; first | done | with_reducible rfl)
      try go_simp
      refine wpAnyH_take (i := 9) (oi := _) (v := .agg #[.string ⟨#[]⟩, .int .i64 0, .int .i64 0, .slice A1 n1 c1, .slice none 0 0]) rfl (by kernel_rfl) (by kernel_rfl) (by kernel_rfl) (fun _ _ _ h => h) (Or.inl ⟨by kernel_rfl, ?_⟩) (by assumption) ?_
      · (intro w hSw; (try dsimp only at hSw); go_simp; have y0 := gcell hSw d0; have y1 := gcell hSw d1; have y2 := gcell hSw d2; have y3 := gcell hSw d3; have y4 := gcell hSw d4; clear hSw; go_simp; first | done | with_reducible rfl)
      try go_simp
      refine wpAnyH_take (i := 10) (oi := _) (v := .agg #[.string ⟨#[]⟩, .int .i64 0, .int .i64 0, .slice A1 n1 c1, .slice none 0 0]) rfl (by kernel_rfl) (by kernel_rfl) (by kernel_rfl) (fun _ _ _ h => h) (Or.inl ⟨by kernel_rfl, ?_⟩) (by assumption) ?_
      · (intro w hSw; (try dsimp only at hSw); go_simp; have y0 := gcell hSw d0; have y1 := gcell hSw d1; have y2 := gcell hSw d2; have y3 := gcell hSw d3; have y4 := gcell hSw d4; clear hSw; go_simp; first | done | with_reducible rfl)
      try go_simp
      refine wpAnyH_take (i := 12) (oi := _) (v := ?_) rfl (by kernel_rfl) (by kernel_rfl) (by kernel_rfl) (fun _ _ _ h => h) (Or.inl ⟨by kernel_rfl, ?_⟩) (by assumption) ?_
      rotate_left 1
      · (intro w hSw; (try dsimp only at hSw); go_simp; first | done | with_reducible rfl)
      try go_simp
      refine wpAnyH_take (i := 13) (oi := _) (v := .slice A1 n1 c1) rfl (by kernel_rfl) (by kernel_rfl) (by kernel_rfl) (fun _ _ _ h => h) (Or.inl ⟨by kernel_rfl, ?_⟩) (by assumption) ?_
      · (intro w hSw; (try dsimp only at hSw); go_simp; have y3 := gcell hSw d3; clear hSw; go_simp; first | done | with_reducible rfl)
      try go_simp
      refine wpAnyH_take (i := 14) (oi := _) (v := ?_) rfl (by kernel_rfl) (by kernel_rfl) (by kernel_rfl) (fun _ _ _ h => h) (Or.inl ⟨by kernel_rfl, ?_⟩) (by assumption) ?_
      rotate_left 1
      · (intro w hSw; (try dsimp only at hSw); go_simp; first | done | with_reducible rfl)
      try go_simp
      refine wpAnyH_take (i := 15) (oi := _) (v := ?_) rfl (by kernel_rfl) (by kernel_rfl) (by kernel_rfl) (fun _ _ _ h => h) (Or.inl ⟨by kernel_rfl, ?_⟩) (by assumption) ?_
      rotate_left 1
      · (intro w hSw; (try dsimp only at hSw); go_simp; first | done | with_reducible rfl)
      try go_simp
      refine wpAnyH_ready (rs := [11]) (by kernel_rfl) (by simp) ?_
      refine AllReadyH.cons (o := _) rfl (fun K hK => ?_) AllReadyH.nil
      go_simp
      refine (clash_k ⟨[], 0, 0, A1, n1, c1, none, 0, 0⟩ ⟨[], 0, 0, A1, n1, c1, none, 0, 0⟩ a a _ (JA.out.kept gz) (JA.out.kept gz)).mono ?_
      rintro e wz11 ⟨rfl, g⟩
      rw [HSE.out]
      replace gz := gz.trans g
      clear g
      first | (refine hK.out _ _ ?_ (fun hHeld => ?_)) | (go_wp2_with fail; refine hK.out _ _ ?_ (fun hHeld => ?_))
      · (try dsimp only); (repeat (first | assumption | exact grown_refl _ | refine grown_dr ?_ | refine grown_dn ?_ | refine grown_al ?_))
      clear hK K
      refine wpAnyH_take (i := 16) (oi := _) (v := ?_) rfl (by kernel_rfl) (by kernel_rfl) (by kernel_rfl) (fun _ _ _ h => h) (Or.inl ⟨by kernel_rfl, ?_⟩) (by assumption) ?_
      rotate_left 1
      · (intro w hSw; (try dsimp only at hSw); go_simp; first | done | with_reducible rfl)
      try go_simp
      refine wpAnyH_take (i := 17) (oi := _) (v := ?_) rfl (by kernel_rfl) (by kernel_rfl) (by kernel_rfl) (fun _ _ _ h => h) (Or.inl ⟨by rfl, ?_⟩) (by assumption) ?_
      rotate_left 1
      · (intro w hSw; (try dsimp only at hSw); go_simp; first | done | with_reducible rfl)
      try go_simp
      refine wpAnyH_take (i := 18) (oi := _) (v := ?_) rfl (by kernel_rfl) (by kernel_rfl) (by kernel_rfl) (fun _ _ _ h => h) (Or.inl ⟨by rfl, ?_⟩) (by assumption) ?_
      rotate_left 1
      · (intro w hSw; (try dsimp only at hSw); go_simp; first | done | with_reducible rfl)
      try go_simp
      refine wpAnyH_take (i := 19) (oi := _) (v := .agg #[.string ⟨#[]⟩, .int .i64 0, .int .i64 0, .slice A1 n1 c1, .slice none 0 0]) rfl (by kernel_rfl) (by kernel_rfl) (by kernel_rfl) (fun _ _ _ h => h) (Or.inl ⟨by kernel_rfl, ?_⟩) (by assumption) ?_
      · (intro w hSw; (try dsimp only at hSw); go_simp; have y0 := gcell hSw d0; have y1 := gcell hSw d1; have y2 := gcell hSw d2; have y3 := gcell hSw d3; have y4 := gcell hSw d4; clear hSw; go_simp; first | done | with_reducible rfl)
      try go_simp
      refine wpAnyH_take (i := 20) (oi := _) (v := ?_) rfl (by kernel_rfl) (by kernel_rfl) (by kernel_rfl) (fun _ _ _ h => h) (Or.inl ⟨by kernel_rfl, ?_⟩) (by assumption) ?_
      rotate_left 1
      · (intro w hSw; (try dsimp only at hSw); go_simp; first | done | with_reducible rfl)
      try go_simp
      refine wpAnyH_ready (rs := [21]) (by kernel_rfl) (by simp) ?_
      refine AllReadyH.cons (o := _) rfl (fun K hK => ?_) AllReadyH.nil
      go_simp
      refine (clash_k ⟨[], 0, 0, A1, n1, c1, none, 0, 0⟩ ⟨[], 0, 0, none, 0, 0, none, 0, 0⟩ a [] _ (JA.out.kept gz) (Ints.nil_ _)).mono ?_
      rintro e wz21 ⟨rfl, g⟩
      rw [show (([] : List Int).any fun n => decide (n ∈ a)) = false from rfl]
      replace gz := gz.trans g
      clear g
      first | (refine hK.out _ _ ?_ (fun hHeld => ?_)) | (go_wp2_with fail; refine hK.out _ _ ?_ (fun hHeld => ?_))
      · (try dsimp only); (repeat (first | assumption | exact grown_refl _ | refine grown_dr ?_ | refine grown_dn ?_ | refine grown_al ?_))
      clear hK K
      refine wpAnyH_take (i := 22) (oi := _) (v := ?_) rfl (by kernel_rfl) (by kernel_rfl) (by kernel_rfl) (fun _ _ _ h => h) (Or.inl ⟨by kernel_rfl, ?_⟩) (by assumption) ?_
      rotate_left 1
      · (intro w hSw; (try dsimp only at hSw); go_simp; first | done | with_reducible rfl)
      try go_simp
      refine wpAnyH_take (i := 23) (oi := _) (v := ?_) rfl (by kernel_rfl) (by kernel_rfl) (by kernel_rfl) (fun _ _ _ h => h) (Or.inl ⟨by rfl, ?_⟩) (by assumption) ?_
      rotate_left 1
      · (intro w hSw; (try dsimp only at hSw); go_simp; first | done | with_reducible rfl)
      try go_simp
      refine wpAnyH_take (i := 24) (oi := _) (v := ?_) rfl (by kernel_rfl) (by kernel_rfl) (by kernel_rfl) (fun _ _ _ h => h) (Or.inl ⟨by rfl, ?_⟩) (by assumption) ?_
      rotate_left 1
      · (intro w hSw; (try dsimp only at hSw); go_simp; first | done | with_reducible rfl)
      try go_simp
      refine wpAnyH_take (i := 25) (oi := _) (v := ?_) rfl (by kernel_rfl) (by kernel_rfl) (by kernel_rfl) (fun _ _ _ h => h) (Or.inl ⟨by kernel_rfl, ?_⟩) (by assumption) ?_
      rotate_left 1
      · (intro w hSw; (try dsimp only at hSw); go_simp; first | done | with_reducible rfl)
      try go_simp
      refine wpAnyH_take (i := 26) (oi := _) (v := ?_) rfl (by kernel_rfl) (by kernel_rfl) (by kernel_rfl) (fun _ _ _ h => h) (Or.inl ⟨by kernel_rfl, ?_⟩) (by assumption) ?_
      rotate_left 1
      · (intro w hSw; (try dsimp only at hSw); go_simp; first | done | with_reducible rfl)
      try go_simp
      refine wpAnyH_take (i := 27) (oi := _) (v := ?_) rfl (by kernel_rfl) (by kernel_rfl) (by kernel_rfl) (fun _ _ _ h => h) (Or.inl ⟨by kernel_rfl, ?_⟩) (by assumption) ?_
      rotate_left 1
      · (intro w hSw; (try dsimp only at hSw); go_simp; first | done | with_reducible rfl)
      try go_simp
      refine wpAnyH_take (i := 28) (oi := _) (v := .agg #[.string ⟨#[]⟩, .int .i64 0, .int .i64 0, .slice A4 (n1 + 1) c4, .slice none 0 0]) rfl (by kernel_rfl) (by kernel_rfl) (by kernel_rfl) (fun _ _ _ h => h) (Or.inl ⟨by kernel_rfl, ?_⟩) (by assumption) ?_
      · (intro w hSw; (try dsimp only at hSw); go_simp; have y0 := gcell hSw k0; have y1 := gcell hSw k1; have y2 := gcell hSw k2; have y3 := gcell hSw k3; have y4 := gcell hSw k4; clear hSw; go_simp; first | done | with_reducible rfl)
      try go_simp
      refine wpAnyH_take (i := 29) (oi := _) (v := .agg #[.string ⟨#[]⟩, .int .i64 0, .int .i64 0, .slice A2 n2 c2, .slice none 0 0]) rfl (by kernel_rfl) (by kernel_rfl) (by kernel_rfl) (fun _ _ _ h => h) (Or.inl ⟨by kernel_rfl, ?_⟩) (by assumption) ?_
      · (intro w hSw; (try dsimp only at hSw); go_simp; have y0 := gcell hSw e0; have y1 := gcell hSw e1; have y2 := gcell hSw e2; have y3 := gcell hSw e3; have y4 := gcell hSw e4; clear hSw; go_simp; first | done | with_reducible rfl)
      try go_simp
      refine wpAnyH_ready (rs := [30]) (by kernel_rfl) (by simp) ?_
      refine AllReadyH.cons (o := _) rfl (fun K hK => ?_) AllReadyH.nil
      go_simp
      refine (clash_k ⟨[], 0, 0, A4, n1 + 1, c4, none, 0, 0⟩ ⟨[], 0, 0, A2, n2, c2, none, 0, 0⟩ (a ++ [x % 8 + 1]) b _ (JM.out.kept gz) (JB.out.kept gz)).mono ?_
      rintro e wz30 ⟨rfl, g⟩
      rw [HMO.out]
      replace gz := gz.trans g
      clear g
      first | (refine hK.out _ _ ?_ (fun hHeld => ?_)) | (go_wp2_with fail; refine hK.out _ _ ?_ (fun hHeld => ?_))
      · (try dsimp only); (repeat (first | assumption | exact grown_refl _ | refine grown_dr ?_ | refine grown_dn ?_ | refine grown_al ?_))
      clear hK K
      refine wpAnyH_take (i := 31) (oi := _) (v := ?_) rfl (by kernel_rfl) (by kernel_rfl) (by kernel_rfl) (fun _ _ _ h => h) (Or.inl ⟨by kernel_rfl, ?_⟩) (by assumption) ?_
      rotate_left 1
      · (intro w hSw; (try dsimp only at hSw); go_simp; first | done | with_reducible rfl)
      try go_simp
      refine wpAnyH_take (i := 32) (oi := _) (v := ?_) rfl (by kernel_rfl) (by kernel_rfl) (by kernel_rfl) (fun _ _ _ h => h) (Or.inl ⟨by rfl, ?_⟩) (by assumption) ?_
      rotate_left 1
      · (intro w hSw; (try dsimp only at hSw); go_simp; first | done | with_reducible rfl)
      try go_simp
      refine wpAnyH_take (i := 33) (oi := _) (v := ?_) rfl (by kernel_rfl) (by kernel_rfl) (by kernel_rfl) (fun _ _ _ h => h) (Or.inl ⟨by rfl, ?_⟩) (by assumption) ?_
      rotate_left 1
      · (intro w hSw; (try dsimp only at hSw); go_simp; first | done | with_reducible rfl)
      try go_simp
      refine wpAnyH_take (i := 34) (oi := _) (v := .agg #[.string ⟨#[]⟩, .int .i64 0, .int .i64 0, .slice A4 (n1 + 1) c4, .slice none 0 0]) rfl (by kernel_rfl) (by kernel_rfl) (by kernel_rfl) (fun _ _ _ h => h) (Or.inl ⟨by kernel_rfl, ?_⟩) (by assumption) ?_
      · (intro w hSw; (try dsimp only at hSw); go_simp; have y0 := gcell hSw k0; have y1 := gcell hSw k1; have y2 := gcell hSw k2; have y3 := gcell hSw k3; have y4 := gcell hSw k4; clear hSw; go_simp; first | done | with_reducible rfl)
      try go_simp
      refine wpAnyH_take (i := 35) (oi := _) (v := ?_) rfl (by kernel_rfl) (by kernel_rfl) (by kernel_rfl) (fun _ _ _ h => h) (Or.inl ⟨by kernel_rfl, ?_⟩) (by assumption) ?_
      rotate_left 1
      · (intro w hSw; (try dsimp only at hSw); go_simp; first | done | with_reducible rfl)
      try go_simp
      refine wpAnyH_take (i := 36) (oi := _) (v := ?_) rfl (by kernel_rfl) (by kernel_rfl) (by kernel_rfl) (fun _ _ _ h => h) (Or.inl ⟨by kernel_rfl, ?_⟩) (by assumption) ?_
      rotate_left 1
      · (intro w hSw; (try dsimp only at hSw); go_simp; first | done | with_reducible rfl)
      try go_simp
      refine wpAnyH_take (i := 37) (oi := _) (v := ?_) rfl (by kernel_rfl) (by kernel_rfl) (by kernel_rfl) (fun _ _ _ h => h) (Or.inl ⟨by kernel_rfl, ?_⟩) (by assumption) ?_
      rotate_left 1
      · (intro w hSw; (try dsimp only at hSw); go_simp; first | done | with_reducible rfl)
      try go_simp
      refine wpAnyH_take (i := 38) (oi := _) (v := ?_) rfl (by kernel_rfl) (by kernel_rfl) (by kernel_rfl) (fun _ _ _ h => h) (Or.inl ⟨by kernel_rfl, ?_⟩) (by assumption) ?_
      rotate_left 1
      · (intro w hSw; (try dsimp only at hSw); go_simp; first | done | with_reducible rfl)
      try go_simp
      refine wpAnyH_ready (rs := [39]) (by kernel_rfl) (by simp) ?_
      refine AllReadyH.cons (o := _) rfl (fun K hK => ?_) AllReadyH.nil
      go_simp
      go_wp2_with fail
      obtain ⟨wz39, ez, HZ, gy⟩ := row_of wz30 3 #[.int .i64 (x % 8 + 1)]
      rw [← ez]
      replace gz := gz.trans gy
      clear ez gy
      generalize wz30.heap.size = Z at *
      first | (refine hK.out _ _ ?_ (fun hHeld => ?_)) | (go_wp2_with fail; refine hK.out _ _ ?_ (fun hHeld => ?_))
      · (try dsimp only); (repeat (first | assumption | exact grown_refl _ | refine grown_dr ?_ | refine grown_dn ?_ | refine grown_al ?_))
      clear hK K
      refine wpAnyH_take (i := 40) (oi := _) (v := ?_) rfl (by kernel_rfl) (by kernel_rfl) (by kernel_rfl) (fun _ _ _ h => h) (Or.inl ⟨by kernel_rfl, ?_⟩) (by assumption) ?_
      rotate_left 1
      · (intro w hSw; (try dsimp only at hSw); go_simp; first | done | with_reducible rfl)
      try go_simp
      refine wpAnyH_ready (rs := [41]) (by kernel_rfl) (by simp) ?_
      refine AllReadyH.cons (o := _) rfl (fun K hK => ?_) AllReadyH.nil
      go_simp
      refine (clash_k ⟨[], 0, 0, A4, n1 + 1, c4, none, 0, 0⟩ ⟨[], 0, 0, some ⟨Z, 0, none⟩, 1, 1, none, 0, 0⟩ (a ++ [x % 8 + 1]) [x % 8 + 1] _ (JM.out.kept gz) (ints_row (l := [x % 8 + 1]) HZ rfl rfl (by simp) HI.out)).mono ?_
      rintro e wz41 ⟨rfl, g⟩
      rw [HME.out]
      replace gz := gz.trans g
      clear g
      first | (refine hK.out _ _ ?_ (fun hHeld => ?_)) | (go_wp2_with fail; refine hK.out _ _ ?_ (fun hHeld => ?_))
      · (try dsimp only); (repeat (first | assumption | exact grown_refl _ | refine grown_dr ?_ | refine grown_dn ?_ | refine grown_al ?_))
      clear hK K
      refine wpAnyH_take (i := 42) (oi := _) (v := ?_) rfl (by kernel_rfl) (by kernel_rfl) (by kernel_rfl) (fun _ _ _ h => h) (Or.inl ⟨by rfl, ?_⟩) (by assumption) ?_
      rotate_left 1
      · (intro w hSw; (try dsimp only at hSw); go_simp; first | done | with_reducible rfl)
      try go_simp
      refine wpAnyH_take (i := 43) (oi := _) (v := ?_) rfl (by kernel_rfl) (by kernel_rfl) (by kernel_rfl) (fun _ _ _ h => h) (Or.inl ⟨by rfl, ?_⟩) (by assumption) ?_
      rotate_left 1
      · (intro w hSw; (try dsimp only at hSw); go_simp; first | done | with_reducible rfl)
      try go_simp
      refine wpAnyH_done (by kernel_rfl) ?_ _
      refine NoPanic.normal ?_
      go_simp
      have GZ := Lib.hid (GE.out.trans gz)
      clear gz
      go_wp2_with fail
      go_ret
      exact ⟨rfl, GZ.out⟩
end Go.Proofs.Ytnkemoicgadefaa
