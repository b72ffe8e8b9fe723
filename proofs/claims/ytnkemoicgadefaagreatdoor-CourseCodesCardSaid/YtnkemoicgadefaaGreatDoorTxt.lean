/-
  Catalogs as they come, and the law's texts.
-/
import Derived.Test.YtnkemoicgadefaaGreatDoorOdw
namespace Go.Proofs.YtnkemoicgadefaaGreatDoor
open Go.RowKit
attribute [local go_sem] get_mk extract_mk
/-- strings of whatever lengths -/
structure RawS (w : World) (A : Option Addr) (n c : Nat) (l : List Str) : Prop where
  v : Vals w A n c 1 (l.map fun s => Value.string ⟨s.toArray⟩)
  ok : ∀ x ∈ l, x.length ≤ 9223372036854775807
theorem RawS.kept {w w' : World} {A : Option Addr} {n c : Nat} {l : List Str} (h : RawS w A n c l) (g : w.grownBy w' none) : RawS w' A n c l := ⟨h.v.kept g, h.ok⟩
theorem RawS.len {w : World} {A : Option Addr} {n c : Nat} {l : List Str} (h : RawS w A n c l) : n = l.length := by have := h.v.len; simpa using this
theorem RawS.at {w : World} {A : Option Addr} {n c : Nat} {l : List Str} (h : RawS w A n c l) (j : Nat) (hj : j < n) : ∃ (ad : Addr) (x : Str), l[j]? = some x ∧ x.length ≤ 9223372036854775807 ∧ A = some ad ∧ ad.block < w.heap.size ∧ w.cell? (ad.add j) = some (.string ⟨x.toArray⟩) := by
  obtain ⟨ad, v, e, hv, hb, hc⟩ := h.v.at j hj
  rw [List.getElem?_map] at hv
  obtain ⟨x, hx, rfl⟩ := Option.map_eq_some_iff.1 hv
  exact ⟨ad, x, hx, h.ok x (List.mem_of_getElem? hx), e, hb, hc⟩
/-- at most 7 strings of at most 12 bytes -/
def txtV (l : List Str) : List Str := (l.take 7).map fun s => s.take 12
theorem txt_snoc {l : List Str} {k : Nat} {x : Str} (h : l[k]? = some x) (hk : k < 7) : txtV (l.take (k + 1)) = txtV (l.take k) ++ [x.take 12] := by
  unfold txtV
  rw [List.take_take, List.take_take, Nat.min_eq_right (by omega), Nat.min_eq_right (by omega), take_snoc h]
  simp
theorem txt_len (l : List Str) : (txtV l).length ≤ 7 := by unfold txtV; simp; omega
theorem txt_ok (l : List Str) : ∀ x ∈ txtV l, x.length ≤ 1152921504606846976 := fun x hx => by
  obtain ⟨z, _, rfl⟩ := List.mem_map.1 hx
  simp
  omega
set_option maxRecDepth 100000 in
set_option maxHeartbeats 4000000 in
theorem texts_r (A : Option Addr) (n c : Nat) (l : List Str) (w : World) (h : RawS w A n c l) :
    Calls Tryz.prog 23 #[.slice A n c] w fun e w' => ∃ v, e = .returned v ∧ OwnS w' w.heap.size v (txtV l) ∧ w.grownBy w' none := by
  have HA := Lib.hid (fun W (g : w.grownBy W none) => h.kept g)
  have HL := Lib.hid h.len
  have hle := h.v.le
  have hcap := h.v.cap
  clear h
  go_enter Tryz.func23, Tryz.ntmps23
  go_wp2_with fail
  go_loopw [3, 4] (fun y z wr => ∃ k : Nat, k ≤ n ∧ k ≤ 7 ∧ z = .int .i64 (k : Int) ∧ Hid (OwnS wr w.heap.size y (txtV (l.take k))) ∧ Hid (w.grownBy wr none)) (fun _ z _ => n - (intOf z).toNat)
  case atStart => exact ⟨0, Nat.zero_le _, by omega, rfl, Lib.hid (World.ownsRow_nil _ _ 9 1), Lib.hid (grown_refl _)⟩
  case round =>
    obtain ⟨k, hk, hk7, rfl, HO, HG⟩ := hrel
    generalize u3 = y at *
    by_cases hlt : k < n
    · by_cases h7 : k < 7
      · obtain ⟨ad, x, hx, hxl, rfl, _, cx0⟩ := (HA.out _ (grown_refl _)).at k hlt
        have HX := Lib.hid hx
        have HXL := Lib.hid hxl
        have HTS := Lib.hid (txt_snoc hx h7)
        obtain ⟨r, hr⟩ : ∃ r, r = min x.length 12 := ⟨_, rfl⟩
        have r1 : min (x.length : Int) 12 = (r : Int) := by omega
        have r2 : (0 : Int) ≤ (r : Int) := by omega
        have r3 : (r : Int) ≤ (x.length : Int) := by omega
        have HXR : Hid (x.take r = x.take 12) := Lib.hid (by rw [hr, List.take_eq_take_iff]; omega)
        have HRL : Hid ((x.take 12).length ≤ 1152921504606846976) := Lib.hid (by simp; omega)
        clear hx hxl hr
        have k1 : (0 : Int) ≤ (k : Int) := by omega
        have k2 : (k : Int) < (n : Int) := by omega
        have k3 : decide ((k : Int) < (n : Int)) = true := decide_eq_true k2
        have k4 : decide ((k : Int) < 7) = true := decide_eq_true (by omega)
        have k5 : IntKind.i64.wrap (k : Int) = (k : Int) := by rw [IntKind.wrap_i64]; omega
        have k6 : IntKind.i64.wrap ((k : Int) + 1) = (k : Int) + 1 := by rw [IntKind.wrap_i64]; omega
        have HTL := Lib.hid (txt_len (l.take k))
        have HOd : Hid (OwnS wr.drew w.heap.size y (txtV (l.take k))) := Lib.hid (own_keep HO.out (grown_dr (grown_refl _)) (fun _ e => by cases e))
        have gd := HG.out.trans (grown_dr (grown_refl wr))
        clear HO HG
        go_upto_region 5 with fail
        refine wp_region_noPanic ?_
        refine wp_region_held_drew (S := (fun W => w.grownBy W none)) (by kernel_rfl) ?_ (fun hHeld => ?_)
        · (try dsimp only); exact gd
        generalize wr.drew = wx at *
        refine wpAnyH_take (i := 0) (oi := _) (v := ?_) rfl (by kernel_rfl) (by kernel_rfl) (by kernel_rfl) (fun _ _ _ h => h) (Or.inl ⟨by rfl, ?_⟩) (by assumption) ?_
        rotate_left 1
        · (intro w hSw; (try dsimp only at hSw); go_simp; first | done | with_reducible rfl)
        try go_simp
        refine wpAnyH_take (i := 1) (oi := _) (v := ?_) rfl (by kernel_rfl) (by kernel_rfl) (by kernel_rfl) (fun _ _ _ h => h) (Or.inl ⟨by rfl, ?_⟩) (by assumption) ?_
        rotate_left 1
        · (intro w hSw; (try dsimp only at hSw); go_simp; first | done | with_reducible rfl)
        try go_simp
        refine wpAnyH_take (i := 2) (oi := _) (v := ?_) rfl (by kernel_rfl) (by kernel_rfl) (by kernel_rfl) (fun _ _ _ h => h) (Or.inl ⟨by rfl, ?_⟩) (by assumption) ?_
        rotate_left 1
        · (intro w hSw; (try dsimp only at hSw); go_simp; first | done | with_reducible rfl)
        try go_simp
        refine wpAnyH_take (i := 3) (oi := _) (v := ?_) rfl (by kernel_rfl) (by kernel_rfl) (by kernel_rfl) (fun _ _ _ h => h) (Or.inl ⟨by rfl, ?_⟩) (by assumption) ?_
        rotate_left 1
        · (intro w hSw; (try dsimp only at hSw); go_simp; first | done | with_reducible rfl)
        try go_simp
        refine wpAnyH_take (i := 4) (oi := _) (v := .string ⟨x.toArray⟩) rfl (by kernel_rfl) (by kernel_rfl) (by kernel_rfl) (fun _ _ _ h => h) (Or.inl ⟨by kernel_rfl, ?_⟩) (by assumption) ?_
        · (intro w hSw; (try dsimp only at hSw); go_simp; have y0 := gcell hSw cx0; clear hSw; go_simp; first | done | with_reducible rfl)
        try go_simp
        refine wpAnyH_take (i := 5) (oi := _) (v := ?_) rfl (by kernel_rfl) (by kernel_rfl) (by kernel_rfl) (fun _ _ _ h => h) (Or.inl ⟨by rfl, ?_⟩) (by assumption) ?_
        rotate_left 1
        · (intro w hSw; (try dsimp only at hSw); go_simp; first | done | with_reducible rfl)
        try go_simp
        refine wpAnyH_take (i := 6) (oi := _) (v := ?_) rfl (by kernel_rfl) (by kernel_rfl) (by kernel_rfl) (fun _ _ _ h => h) (Or.inl ⟨by rfl, ?_⟩) (by assumption) ?_
        rotate_left 1
        · (intro w hSw; (try dsimp only at hSw); go_simp; first | done | with_reducible rfl)
        try go_simp
        refine wpAnyH_take (i := 7) (oi := _) (v := ?_) rfl (by kernel_rfl) (by kernel_rfl) (by kernel_rfl) (fun _ _ _ h => h) (Or.inl ⟨by rfl, ?_⟩) (by assumption) ?_
        rotate_left 1
        · (intro w hSw; (try dsimp only at hSw); go_simp; first | done | with_reducible rfl)
        try go_simp
        refine wpAnyH_take (i := 8) (oi := _) (v := .string ⟨x.toArray⟩) rfl (by kernel_rfl) (by kernel_rfl) (by kernel_rfl) (fun _ _ _ h => h) (Or.inl ⟨by kernel_rfl, ?_⟩) (by assumption) ?_
        · (intro w hSw; (try dsimp only at hSw); go_simp; have y0 := gcell hSw cx0; clear hSw; go_simp; first | done | with_reducible rfl)
        try go_simp
        refine wpAnyH_take (i := 9) (oi := _) (v := ?_) rfl (by kernel_rfl) (by kernel_rfl) (by kernel_rfl) (fun _ _ _ h => h) (Or.inl ⟨by rfl, ?_⟩) (by assumption) ?_
        rotate_left 1
        · (intro w hSw; (try dsimp only at hSw); go_simp; first | done | with_reducible rfl)
        try go_simp
        refine wpAnyH_take (i := 10) (oi := _) (v := .int .i64 (r : Int)) rfl (by kernel_rfl) (by kernel_rfl) (by kernel_rfl) (fun _ _ _ h => h) (Or.inl ⟨by kernel_rfl, ?_⟩) (by assumption) ?_
        · (intro w hSw; (try dsimp only at hSw); go_simp; first | done | with_reducible rfl)
        try go_simp
        refine wpAnyH_take (i := 11) (oi := _) (v := .string ⟨(x.take r).toArray⟩) rfl (by kernel_rfl) (by kernel_rfl) (by kernel_rfl) (fun _ _ _ h => h) (Or.inl ⟨by kernel_rfl, ?_⟩) (by assumption) ?_
        · (intro w hSw; (try dsimp only at hSw); go_simp; first | done | with_reducible rfl)
        try go_simp
        refine wpAnyH_ready (rs := [12]) (by kernel_rfl) (by simp) ?_
        refine AllReadyH.cons (o := _) rfl (fun K hK => ?_) ?_
        · clear hHeld
          obtain ⟨w3, e3, HN, g3⟩ := row_of wx 9 #[.string ⟨(x.take r).toArray⟩]
          go_simp
          first | (refine hK.out _ _ ?_ (fun hHeld => ?_)) | (go_wp2_with fail; refine hK.out _ _ ?_ (fun hHeld => ?_))
          · (try dsimp only); rw [← e3]; exact gd.trans g3
          clear hK K
          rw [← e3]
          have HV := Lib.hid (strs_row (l := [x.take r]) HN rfl rfl (by simp) (fun z hz => by rw [List.mem_singleton.1 hz, HXR.out]; exact HRL.out))
          replace HOd := Lib.hid (own_keep HOd.out g3 (fun _ e => by cases e))
          replace gd := gd.trans g3
          clear e3 g3 HN
          generalize wx.heap.size = Z at *

          refine wpAnyH_ready (rs := [13]) (by kernel_rfl) (by simp) ?_
          refine AllReadyH.cons (o := _) rfl (fun K hK => ?_) ?_
          · clear hHeld
            refine step_append_vals elt9 rfl (.tmp 15) (.tmp 27) rfl w.heap.size y (txtV (l.take k)).length _ rfl HOd.out _ 1 1 _ rfl HV.out.v (by have := HTL.out; omega) gd.size ?_
            intro v2 w8 ho hg hb hv
            replace gd := gd.andThen hg (fun r e => .inl (World.ownsRow.lt HOd.out r e).1)
            replace ho := Lib.hid ho
            clear hg hb hv
            first | (refine hK.out _ _ ?_ (fun hHeld => ?_)) | (go_wp2_with fail; refine hK.out _ _ ?_ (fun hHeld => ?_))
            · (try dsimp only); exact gd
            clear hK K
            refine wpAnyH_take (i := 14) (oi := _) (v := ?_) rfl (by kernel_rfl) (by kernel_rfl) (by kernel_rfl) (fun _ _ _ h => h) (Or.inl ⟨by rfl, ?_⟩) (by assumption) ?_
            rotate_left 1
            · (intro w hSw; (try dsimp only at hSw); go_simp; first | done | with_reducible rfl)
            try go_simp
            refine wpAnyH_done (by kernel_rfl) ?_ _
            refine NoPanic.normal ?_
            go_simp
            go_wp2_with fail
            refine ⟨⟨k + 1, by omega, by omega, by go_num, Lib.hid (by rw [HTS.out, ← HXR.out]; unfold OwnS; rw [List.length_append, List.map_append]; exact ho.out), Lib.hid gd⟩, by simp [intOf]; omega⟩
          exact AllReadyH.nil
        exact AllReadyH.nil
      · obtain rfl : k = 7 := by omega
        have HE : Hid (txtV (l.take 7) = txtV l) := Lib.hid (by unfold txtV; rw [List.take_take]; rfl)
        have k3 : decide (((7 : Nat) : Int) < (n : Int)) = true := decide_eq_true (by omega)
        have k4 : decide (((7 : Nat) : Int) < 7) = false := by simp
        have k7 : ((7 : Nat) : Int) < (n : Int) := by omega
        go_wp2_with fail
        go_ret
        exact ⟨y, rfl, by rw [← HE.out]; exact HO.out, HG.out⟩
    · obtain rfl : n = k := by omega
      have HE : Hid (txtV (l.take n) = txtV l) := Lib.hid (by rw [HL.out, List.take_length])
      have k3 : decide ((n : Int) < (n : Int)) = false := decide_eq_false (by omega)
      go_wp2_with fail
      go_ret
      exact ⟨y, rfl, by rw [← HE.out]; exact HO.out, HG.out⟩
end Go.Proofs.YtnkemoicgadefaaGreatDoor
