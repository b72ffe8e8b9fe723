/-
  The reference's Encode.
-/
import Derived.Test.YtnkemoicgadefaaGreatDoorCen
import Derived.Test.YtnkemoicgadefaaGreatDoorWB
namespace Go.Proofs.YtnkemoicgadefaaGreatDoor
open Go.RowKit
open Wire (serI serT serL)
attribute [local go_sem] get_mk extract_mk
theorem rints_of {w : World} {A : Option Addr} {n c : Nat} {l : List Int} (h : Ints w A n c l) (hf : (l.flatMap serI).length < 1000000) :
    Calls Tryz.prog 37 #[.slice A n c] w fun e w' => e = .returned (.string ⟨(serL serI l).toArray⟩) ∧ w.grownBy w' none :=
  Wire.rInts A c n l w h.len h.ok hf (by have := flat_two serI_two l; have := h.len; omega) (fun h0 => by
    obtain ⟨ad, e, h1, h2⟩ := h.v.cell h0
    exact ⟨ad, e, h1, fun j x hx => h2 j _ (by rw [List.getElem?_map, hx]; rfl)⟩)
theorem rtexts_of {w : World} {A : Option Addr} {n c : Nat} {l : List Str} (h : Strs w A n c l) (hf : (l.flatMap serT).length < 1000000) :
    Calls Tryz.prog 38 #[.slice A n c] w fun e w' => e = .returned (.string ⟨(serL serT l).toArray⟩) ∧ w.grownBy w' none :=
  Wire.rTexts A c n l w h.len (fun x hx => by have := flat_mem (f := serT) hx; have := serT_two x; omega) hf (by have := flat_two (fun v => Nat.le_trans (Nat.le_add_left _ _) (serT_two v)) l; have := h.len; omega) (fun h0 => by
    obtain ⟨ad, e, h1, h2⟩ := h.v.cell h0
    exact ⟨ad, e, h1, fun j x hx => h2 j _ (by rw [List.getElem?_map, hx]; rfl)⟩)
set_option maxRecDepth 100000 in
set_option maxHeartbeats 8000000 in
theorem encode_r (A : Option Addr) (n c : Nat) (vs : List V) (l : List O) (w : World) (h : Offs w A n c vs l) (hl : (serC l).length ≤ 2000) :
    Calls Tryz.prog 9 #[.slice A n c] w fun e w' => e = .returned (.string ⟨(serC l).toArray⟩) ∧ w.grownBy w' none := by
  have HA := Lib.hid (fun W (g : w.grownBy W none) => h.kept g)
  have HLN := Lib.hid h.len
  have HLL := Lib.hid hl
  have hle := h.v.le
  have hcap := h.v.cap
  have H0 := Lib.hid (Wire.rInt (n : Int) ⟨by omega, by omega⟩ w)
  clear h hl
  go_enter Tryz.func9, Tryz.ntmps9
  go_wp2_with (go_at_call 35; refine H0.out.mono ?_; rintro e w2 ⟨rfl, g2⟩; replace g2 := Lib.hid g2)
  go_loopw [3, 4] (fun y z wr => ∃ k : Nat, k ≤ n ∧ z = .int .i64 (k : Int) ∧ y = .string ⟨(serI n ++ (l.take k).flatMap serO).toArray⟩ ∧ Hid (w.grownBy wr none)) (fun _ z _ => n - (intOf z).toNat)
  case atStart => exact ⟨0, Nat.zero_le _, rfl, by simp, g2⟩
  case round =>
    obtain ⟨k, hk, rfl, rfl, HG⟩ := hrel
    by_cases hlt : k < n
    · obtain ⟨ad, v, o, ho, _, rfl, _, hv, x0, x1, x2, x3, x4⟩ := (HA.out _ HG.out).at k hlt
      obtain ⟨vc_, vr, vp, sA, sn, sc, nA, nn, nc⟩ := v
      have hcd := hv.code
      have hcr := hv.cr
      have hpl := hv.pl
      simp only at x0 x1 x2 x3 x4 hcd hcr hpl
      subst hcd hcr hpl
      have hok := hv.ok
      have HSL := Lib.hid hv.slots
      have HND := Lib.hid hv.needs
      have hfit := serO_fit (List.mem_of_getElem? ho) HLL.out
      have hf1 : (o.slots.flatMap serI).length < 1000000 := by omega
      have hf2 : (o.needs.flatMap serT).length < 1000000 := by omega
      have K1 := Lib.hid (fun W (_ : wr.grownBy W none) => Wire.rText o.code (by omega) W)
      have K2 := Lib.hid (fun W (_ : wr.grownBy W none) => Wire.rInt o.cr hok.2.1 W)
      have K3 := Lib.hid (fun W (_ : wr.grownBy W none) => Wire.rInt o.pl hok.2.2 W)
      have K4 := Lib.hid (fun W (g : wr.grownBy W none) => rints_of (HSL.out.kept g) hf1)
      have K5 := Lib.hid (fun W (g : wr.grownBy W none) => rtexts_of (HND.out.kept g) hf2)
      have HTS := Lib.hid (take_ser ho)
      have hsum : (serO o).length = (serT o.code).length + ((serI o.cr).length + ((serI o.pl).length + ((serL serI o.slots).length + (serL serT o.needs).length))) := by simp only [serO, List.length_append]
      have hpre := take_fit k HLL.out
      rw [← HLN.out] at hpre
      have HSM : Hid ((serI n ++ (l.take k).flatMap serO).length + (serT o.code).length + (serI o.cr).length + (serI o.pl).length + (serL serI o.slots).length + (serL serT o.needs).length ≤ 2000000) := Lib.hid (by simp only [List.length_append]; omega)
      have HTE : Hid (serI n ++ (l.take (k + 1)).flatMap serO = (((((serI n ++ (l.take k).flatMap serO) ++ serT o.code) ++ serI o.cr) ++ serI o.pl) ++ serL serI o.slots) ++ serL serT o.needs) := Lib.hid (by
        rw [HTS.out]
        simp only [serO, List.append_assoc])
      clear hv ho hok hfit hf1 hf2 hsum hpre HTS
      obtain ⟨S2, hS2⟩ : ∃ S2, S2 = serI n ++ (l.take (k + 1)).flatMap serO := ⟨_, rfl⟩
      rw [← hS2] at HTE
      have S2E := Lib.hid hS2.symm
      clear hS2
      generalize serI n ++ (l.take k).flatMap serO = S at *
      generalize serT o.code = a1 at *
      generalize serI o.cr = a2 at *
      generalize serI o.pl = a3 at *
      generalize serL serI o.slots = a4 at *
      generalize serL serT o.needs = a5 at *
      have k1 : (0 : Int) ≤ (k : Int) := by omega
      have k2 : (k : Int) < (n : Int) := by omega
      have k3 : decide ((k : Int) < (n : Int)) = true := decide_eq_true k2
      have k6 : IntKind.i64.wrap ((k : Int) + 1) = (k : Int) + 1 := by rw [IntKind.wrap_i64]; omega
      go_wp2_with fail
      have gz : wr.grownBy wr.drew none := grown_dr (grown_refl _)
      refine wp_region_noPanic ?_
      refine wp_region_held_drew (S := (fun w' => wr.grownBy w' none)) (by kernel_rfl) ?_ (fun hHeld => ?_)
      · (try dsimp only); (repeat (first | assumption | exact grown_refl _ | refine grown_dr ?_ | refine grown_dn ?_ | refine grown_al ?_))
      refine wpAnyH_take (i := 0) (oi := _) (v := ?_) rfl (by kernel_rfl) (by kernel_rfl) (by kernel_rfl) (fun _ _ _ h => h) (Or.inl ⟨by rfl, ?_⟩) (by assumption) ?_
      rotate_left 1
      · (intro w hSw; (try dsimp only at hSw); go_simp; first | done | with_reducible rfl)
      try go_simp
      refine wpAnyH_take (i := 1) (oi := _) (v := ?_) rfl (by kernel_rfl) (by kernel_rfl) (by kernel_rfl) (fun _ _ _ h => h) (Or.inl ⟨by rfl, ?_⟩) (by assumption) ?_
      rotate_left 1
      · (intro w hSw; (try dsimp only at hSw); go_simp; first | done | with_reducible rfl)
      try go_simp
      refine wpAnyH_take (i := 2) (oi := _) (v := ?_) rfl (by kernel_rfl) (by kernel_rfl) (by kernel_rfl) (fun _ _ _ h => h) (Or.inl ⟨by rfl, ?_⟩) (by assumption) ?_
      rotate_left 1
      · (intro w hSw; (try dsimp only at hSw); go_simp; first | done | with_reducible rfl)
      try go_simp
      refine wpAnyH_take (i := 3) (oi := _) (v := ?_) rfl (by kernel_rfl) (by kernel_rfl) (by kernel_rfl) (fun _ _ _ h => h) (Or.inl ⟨by rfl, ?_⟩) (by assumption) ?_
      rotate_left 1
      · (intro w hSw; (try dsimp only at hSw); go_simp; first | done | with_reducible rfl)
      try go_simp
      refine wpAnyH_take (i := 4) (oi := _) (v := ?_) rfl (by kernel_rfl) (by kernel_rfl) (by kernel_rfl) (fun _ _ _ h => h) (Or.inl ⟨by rfl, ?_⟩) (by assumption) ?_
      rotate_left 1
      · (intro w hSw; (try dsimp only at hSw); go_simp; first | done | with_reducible rfl)
      try go_simp
      refine wpAnyH_take (i := 5) (oi := _) (v := .string ⟨o.code.toArray⟩) rfl (by kernel_rfl) (by kernel_rfl) (by kernel_rfl) (fun _ _ _ h => h) (Or.inl ⟨by kernel_rfl, ?_⟩) (by assumption) ?_
      · (intro w hSw; (try dsimp only at hSw); go_simp; have y0 := gcell hSw x0; clear hSw; go_simp; first | done | with_reducible rfl)
      try go_simp
      refine wpAnyH_take (i := 8) (oi := _) (v := ?_) rfl (by kernel_rfl) (by kernel_rfl) (by kernel_rfl) (fun _ _ _ h => h) (Or.inl ⟨by rfl, ?_⟩) (by assumption) ?_
      rotate_left 1
      · (intro w hSw; (try dsimp only at hSw); go_simp; first | done | with_reducible rfl)
      try go_simp
      refine wpAnyH_take (i := 9) (oi := _) (v := ?_) rfl (by kernel_rfl) (by kernel_rfl) (by kernel_rfl) (fun _ _ _ h => h) (Or.inl ⟨by rfl, ?_⟩) (by assumption) ?_
      rotate_left 1
      · (intro w hSw; (try dsimp only at hSw); go_simp; first | done | with_reducible rfl)
      try go_simp
      refine wpAnyH_take (i := 10) (oi := _) (v := ?_) rfl (by kernel_rfl) (by kernel_rfl) (by kernel_rfl) (fun _ _ _ h => h) (Or.inl ⟨by rfl, ?_⟩) (by assumption) ?_
      rotate_left 1
      · (intro w hSw; (try dsimp only at hSw); go_simp; first | done | with_reducible rfl)
      try go_simp
      refine wpAnyH_take (i := 11) (oi := _) (v := ?_) rfl (by kernel_rfl) (by kernel_rfl) (by kernel_rfl) (fun _ _ _ h => h) (Or.inl ⟨by rfl, ?_⟩) (by assumption) ?_
      rotate_left 1
      · (intro w hSw; (try dsimp only at hSw); go_simp; first | done | with_reducible rfl)
      try go_simp
      refine wpAnyH_take (i := 12) (oi := _) (v := .int .i64 o.cr) rfl (by kernel_rfl) (by kernel_rfl) (by kernel_rfl) (fun _ _ _ h => h) (Or.inl ⟨by kernel_rfl, ?_⟩) (by assumption) ?_
      · (intro w hSw; (try dsimp only at hSw); go_simp; have y0 := gcell hSw x1; clear hSw; go_simp; first | done | with_reducible rfl)
      try go_simp
      refine wpAnyH_take (i := 15) (oi := _) (v := ?_) rfl (by kernel_rfl) (by kernel_rfl) (by kernel_rfl) (fun _ _ _ h => h) (Or.inl ⟨by rfl, ?_⟩) (by assumption) ?_
      rotate_left 1
      · (intro w hSw; (try dsimp only at hSw); go_simp; first | done | with_reducible rfl)
      try go_simp
      refine wpAnyH_take (i := 16) (oi := _) (v := ?_) rfl (by kernel_rfl) (by kernel_rfl) (by kernel_rfl) (fun _ _ _ h => h) (Or.inl ⟨by rfl, ?_⟩) (by assumption) ?_
      rotate_left 1
      · (intro w hSw; (try dsimp only at hSw); go_simp; first | done | with_reducible rfl)
      try go_simp
      refine wpAnyH_take (i := 17) (oi := _) (v := ?_) rfl (by kernel_rfl) (by kernel_rfl) (by kernel_rfl) (fun _ _ _ h => h) (Or.inl ⟨by rfl, ?_⟩) (by assumption) ?_
      rotate_left 1
      · (intro w hSw; (try dsimp only at hSw); go_simp; first | done | with_reducible rfl)
      try go_simp
      refine wpAnyH_take (i := 18) (oi := _) (v := ?_) rfl (by kernel_rfl) (by kernel_rfl) (by kernel_rfl) (fun _ _ _ h => h) (Or.inl ⟨by rfl, ?_⟩) (by assumption) ?_
      rotate_left 1
      · (intro w hSw; (try dsimp only at hSw); go_simp; first | done | with_reducible rfl)
      try go_simp
      refine wpAnyH_take (i := 19) (oi := _) (v := .int .i64 o.pl) rfl (by kernel_rfl) (by kernel_rfl) (by kernel_rfl) (fun _ _ _ h => h) (Or.inl ⟨by kernel_rfl, ?_⟩) (by assumption) ?_
      · (intro w hSw; (try dsimp only at hSw); go_simp; have y0 := gcell hSw x2; clear hSw; go_simp; first | done | with_reducible rfl)
      try go_simp
      refine wpAnyH_take (i := 22) (oi := _) (v := ?_) rfl (by kernel_rfl) (by kernel_rfl) (by kernel_rfl) (fun _ _ _ h => h) (Or.inl ⟨by rfl, ?_⟩) (by assumption) ?_
      rotate_left 1
      · (intro w hSw; (try dsimp only at hSw); go_simp; first | done | with_reducible rfl)
      try go_simp
      refine wpAnyH_take (i := 23) (oi := _) (v := ?_) rfl (by kernel_rfl) (by kernel_rfl) (by kernel_rfl) (fun _ _ _ h => h) (Or.inl ⟨by rfl, ?_⟩) (by assumption) ?_
      rotate_left 1
      · (intro w hSw; (try dsimp only at hSw); go_simp; first | done | with_reducible rfl)
      try go_simp
      refine wpAnyH_take (i := 24) (oi := _) (v := ?_) rfl (by kernel_rfl) (by kernel_rfl) (by kernel_rfl) (fun _ _ _ h => h) (Or.inl ⟨by rfl, ?_⟩) (by assumption) ?_
      rotate_left 1
      · (intro w hSw; (try dsimp only at hSw); go_simp; first | done | with_reducible rfl)
      try go_simp
      refine wpAnyH_take (i := 25) (oi := _) (v := ?_) rfl (by kernel_rfl) (by kernel_rfl) (by kernel_rfl) (fun _ _ _ h => h) (Or.inl ⟨by rfl, ?_⟩) (by assumption) ?_
      rotate_left 1
      · (intro w hSw; (try dsimp only at hSw); go_simp; first | done | with_reducible rfl)
      try go_simp
      refine wpAnyH_take (i := 26) (oi := _) (v := .slice sA sn sc) rfl (by kernel_rfl) (by kernel_rfl) (by kernel_rfl) (fun _ _ _ h => h) (Or.inl ⟨by kernel_rfl, ?_⟩) (by assumption) ?_
      · (intro w hSw; (try dsimp only at hSw); go_simp; have y0 := gcell hSw x3; clear hSw; go_simp; first | done | with_reducible rfl)
      try go_simp
      refine wpAnyH_take (i := 29) (oi := _) (v := ?_) rfl (by kernel_rfl) (by kernel_rfl) (by kernel_rfl) (fun _ _ _ h => h) (Or.inl ⟨by rfl, ?_⟩) (by assumption) ?_
      rotate_left 1
      · (intro w hSw; (try dsimp only at hSw); go_simp; first | done | with_reducible rfl)
      try go_simp
      refine wpAnyH_take (i := 30) (oi := _) (v := ?_) rfl (by kernel_rfl) (by kernel_rfl) (by kernel_rfl) (fun _ _ _ h => h) (Or.inl ⟨by rfl, ?_⟩) (by assumption) ?_
      rotate_left 1
      · (intro w hSw; (try dsimp only at hSw); go_simp; first | done | with_reducible rfl)
      try go_simp
      refine wpAnyH_take (i := 31) (oi := _) (v := ?_) rfl (by kernel_rfl) (by kernel_rfl) (by kernel_rfl) (fun _ _ _ h => h) (Or.inl ⟨by rfl, ?_⟩) (by assumption) ?_
      rotate_left 1
      · (intro w hSw; (try dsimp only at hSw); go_simp; first | done | with_reducible rfl)
      try go_simp
      refine wpAnyH_take (i := 32) (oi := _) (v := ?_) rfl (by kernel_rfl) (by kernel_rfl) (by kernel_rfl) (fun _ _ _ h => h) (Or.inl ⟨by rfl, ?_⟩) (by assumption) ?_
      rotate_left 1
      · (intro w hSw; (try dsimp only at hSw); go_simp; first | done | with_reducible rfl)
      try go_simp
      refine wpAnyH_take (i := 33) (oi := _) (v := .slice nA nn nc) rfl (by kernel_rfl) (by kernel_rfl) (by kernel_rfl) (fun _ _ _ h => h) (Or.inl ⟨by kernel_rfl, ?_⟩) (by assumption) ?_
      · (intro w hSw; (try dsimp only at hSw); go_simp; have y0 := gcell hSw x4; clear hSw; go_simp; first | done | with_reducible rfl)
      try go_simp
      refine wpAnyH_ready (rs := [6]) (by kernel_rfl) (by simp) ?_
      refine AllReadyH.cons (o := _) rfl (fun K hK => ?_) AllReadyH.nil
      go_simp
      refine (K1.out _ gz).mono ?_
      rintro e w2 ⟨rfl, g⟩
      replace gz := gz.trans g
      clear g
      first | (refine hK.out _ _ ?_ (fun hHeld => ?_)) | (go_wp2_with fail; refine hK.out _ _ ?_ (fun hHeld => ?_))
      · (try dsimp only); (repeat (first | assumption | exact grown_refl _ | refine grown_dr ?_ | refine grown_dn ?_ | refine grown_al ?_))
      clear hK K
      refine wpAnyH_take (i := 7) (oi := _) (v := .string ⟨(S ++ a1).toArray⟩) rfl (by kernel_rfl) (by kernel_rfl) (by kernel_rfl) (fun _ _ _ h => h) (Or.inl ⟨by kernel_rfl, ?_⟩) (by assumption) ?_
      · (intro w hSw; (try dsimp only at hSw); go_simp; go_simp; rw [if_neg (by have := HSM.out; (try simp only [List.length_append]); omega)]; first | done | (rw [Wire.str_app]; done) | (rw [Wire.str_app]; simp only [List.append_assoc]))
      try go_simp
      refine wpAnyH_ready (rs := [13]) (by kernel_rfl) (by simp) ?_
      refine AllReadyH.cons (o := _) rfl (fun K hK => ?_) AllReadyH.nil
      go_simp
      refine (K2.out _ gz).mono ?_
      rintro e w2 ⟨rfl, g⟩
      replace gz := gz.trans g
      clear g
      first | (refine hK.out _ _ ?_ (fun hHeld => ?_)) | (go_wp2_with fail; refine hK.out _ _ ?_ (fun hHeld => ?_))
      · (try dsimp only); (repeat (first | assumption | exact grown_refl _ | refine grown_dr ?_ | refine grown_dn ?_ | refine grown_al ?_))
      clear hK K
      refine wpAnyH_take (i := 14) (oi := _) (v := .string ⟨((S ++ a1) ++ a2).toArray⟩) rfl (by kernel_rfl) (by kernel_rfl) (by kernel_rfl) (fun _ _ _ h => h) (Or.inl ⟨by kernel_rfl, ?_⟩) (by assumption) ?_
      · (intro w hSw; (try dsimp only at hSw); go_simp; go_simp; rw [if_neg (by have := HSM.out; (try simp only [List.length_append]); omega)]; first | done | (rw [Wire.str_app]; done) | (rw [Wire.str_app]; simp only [List.append_assoc]))
      try go_simp
      refine wpAnyH_ready (rs := [20]) (by kernel_rfl) (by simp) ?_
      refine AllReadyH.cons (o := _) rfl (fun K hK => ?_) AllReadyH.nil
      go_simp
      refine (K3.out _ gz).mono ?_
      rintro e w2 ⟨rfl, g⟩
      replace gz := gz.trans g
      clear g
      first | (refine hK.out _ _ ?_ (fun hHeld => ?_)) | (go_wp2_with fail; refine hK.out _ _ ?_ (fun hHeld => ?_))
      · (try dsimp only); (repeat (first | assumption | exact grown_refl _ | refine grown_dr ?_ | refine grown_dn ?_ | refine grown_al ?_))
      clear hK K
      refine wpAnyH_take (i := 21) (oi := _) (v := .string ⟨(((S ++ a1) ++ a2) ++ a3).toArray⟩) rfl (by kernel_rfl) (by kernel_rfl) (by kernel_rfl) (fun _ _ _ h => h) (Or.inl ⟨by kernel_rfl, ?_⟩) (by assumption) ?_
      · (intro w hSw; (try dsimp only at hSw); go_simp; go_simp; rw [if_neg (by have := HSM.out; (try simp only [List.length_append]); omega)]; first | done | (rw [Wire.str_app]; done) | (rw [Wire.str_app]; simp only [List.append_assoc]))
      try go_simp
      refine wpAnyH_ready (rs := [27]) (by kernel_rfl) (by simp) ?_
      refine AllReadyH.cons (o := _) rfl (fun K hK => ?_) AllReadyH.nil
      go_simp
      refine (K4.out _ gz).mono ?_
      rintro e w2 ⟨rfl, g⟩
      replace gz := gz.trans g
      clear g
      first | (refine hK.out _ _ ?_ (fun hHeld => ?_)) | (go_wp2_with fail; refine hK.out _ _ ?_ (fun hHeld => ?_))
      · (try dsimp only); (repeat (first | assumption | exact grown_refl _ | refine grown_dr ?_ | refine grown_dn ?_ | refine grown_al ?_))
      clear hK K
      refine wpAnyH_take (i := 28) (oi := _) (v := .string ⟨((((S ++ a1) ++ a2) ++ a3) ++ a4).toArray⟩) rfl (by kernel_rfl) (by kernel_rfl) (by kernel_rfl) (fun _ _ _ h => h) (Or.inl ⟨by kernel_rfl, ?_⟩) (by assumption) ?_
      · (intro w hSw; (try dsimp only at hSw); go_simp; go_simp; rw [if_neg (by have := HSM.out; (try simp only [List.length_append]); omega)]; first | done | (rw [Wire.str_app]; done) | (rw [Wire.str_app]; simp only [List.append_assoc]))
      try go_simp
      refine wpAnyH_ready (rs := [34]) (by kernel_rfl) (by simp) ?_
      refine AllReadyH.cons (o := _) rfl (fun K hK => ?_) AllReadyH.nil
      go_simp
      refine (K5.out _ gz).mono ?_
      rintro e w2 ⟨rfl, g⟩
      replace gz := gz.trans g
      clear g
      first | (refine hK.out _ _ ?_ (fun hHeld => ?_)) | (go_wp2_with fail; refine hK.out _ _ ?_ (fun hHeld => ?_))
      · (try dsimp only); (repeat (first | assumption | exact grown_refl _ | refine grown_dr ?_ | refine grown_dn ?_ | refine grown_al ?_))
      clear hK K
      refine wpAnyH_take (i := 35) (oi := _) (v := .string ⟨(((((S ++ a1) ++ a2) ++ a3) ++ a4) ++ a5).toArray⟩) rfl (by kernel_rfl) (by kernel_rfl) (by kernel_rfl) (fun _ _ _ h => h) (Or.inl ⟨by kernel_rfl, ?_⟩) (by assumption) ?_
      · (intro w hSw; (try dsimp only at hSw); go_simp; go_simp; rw [if_neg (by have := HSM.out; (try simp only [List.length_append]); omega)]; first | done | (rw [Wire.str_app]; done) | (rw [Wire.str_app]; simp only [List.append_assoc]))
      try go_simp
      refine wpAnyH_take (i := 36) (oi := _) (v := ?_) rfl (by kernel_rfl) (by kernel_rfl) (by kernel_rfl) (fun _ _ _ h => h) (Or.inl ⟨by rfl, ?_⟩) (by assumption) ?_
      rotate_left 1
      · (intro w hSw; (try dsimp only at hSw); go_simp; first | done | with_reducible rfl)
      try go_simp
      refine wpAnyH_done (by kernel_rfl) ?_ _
      refine NoPanic.normal ?_
      go_simp
      go_wp2_with fail
      exact ⟨⟨k + 1, by omega, by go_num, by rw [S2E.out, HTE.out]; simp only [List.append_assoc], Lib.hid (HG.out.trans gz)⟩, by simp [intOf]; omega⟩
    · obtain rfl : k = n := by omega
      have k3 : decide ((k : Int) < (k : Int)) = false := by simp
      have HT : Hid (serI k ++ (l.take k).flatMap serO = serC l) := Lib.hid (by
        have := HLN.out
        rw [List.take_of_length_le (by omega), this]
        rfl)
      rw [HT.out]
      go_wp2_with fail
      go_ret
      exact ⟨rfl, HG.out⟩
end Go.Proofs.YtnkemoicgadefaaGreatDoor
