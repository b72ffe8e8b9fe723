/-
  WireWrites: the walk.
-/
import Derived.Test.YtmohcanfkcopiaaDoorVal
import Derived.Test.YtmohcanfkcopiaaDoorRefList
namespace Go.Proofs.YtmohcanfkcopiaaDoor
open Go.RowKit
attribute [local go_sem] get_mk extract_mk

theorem kept_list {α : Type} {f : α → Value} {A : Option Addr} {l : List α} {w w' : World} (h : 0 < l.length → ∃ ad, A = some ad ∧ ad.block < w.heap.size ∧ ∀ j x, l[j]? = some x → w.cell? (ad.add j) = some (f x)) (hg : w.grownBy w' none) :
    0 < l.length → ∃ ad, A = some ad ∧ ad.block < w'.heap.size ∧ ∀ j x, l[j]? = some x → w'.cell? (ad.add j) = some (f x) := fun h0 => by
  obtain ⟨ad, e, hb, hc⟩ := h h0
  exact ⟨ad, e, Nat.lt_of_lt_of_le hb hg.size, fun j x hx => ((below_of_grown hg).cell (p := ad.add j) (by rw [add_block]; exact hb)).trans (hc j x hx)⟩
set_option maxRecDepth 100000 in
set_option maxHeartbeats 2000000 in
theorem writes_walk (v : Val) (w : World) (hb : Base w) (hv : v.ok w) : Calls Tryd.prog 3 #[.slice v.A v.ln v.lc, .slice v.B v.tn v.tc] w fun e w' => e = .returned (.bool true) ∧ w.grownBy w' none := by
  have Hs := Lib.hid (sane w hb)
  have Hv := Lib.hid hv
  have Hb := Lib.hid hb
  have e3 : (0 : Int) ≤ min (v.ln : Int) 40 := by omega
  have e4 : min (v.ln : Int) 40 ≤ (v.lc : Int) := by have := hv.lle; omega
  have e9 : v.ln ≤ v.lc := hv.lle
  have e10 : v.lc ≤ 9223372036854775807 := hv.lcm
  clear hb hv
  go_enter Tryd.func3, Tryd.ntmps3
  go_wp2_with fail
  refine Hs.out.mono ?_
  rintro e w0 ⟨rfl, g0⟩
  clear Hs
  have HB : Hid (∀ w', w0.grownBy w' none → Base w') := Lib.hid (fun w' g => Hb.out.none_ (g0.trans g))
  have HV : Hid (∀ w', w0.grownBy w' none → v.ok w') := Lib.hid (fun w' g => Hv.out.kept (g0.trans g))
  have g1 : w0.grownBy w0 none := World.grownBy.refl _ _
  go_wp2_with fail
  refine wp_region_noPanic ?_
  refine wp_region_held_drew (S := (fun w' => w0.grownBy w' none)) (by kernel_rfl) ?_ (fun hHeld => ?_)
  · (try dsimp only); (first | assumption | (exact grown_dr (by assumption)))
  refine wpAnyH_take (i := 0) (oi := _) (v := ?_) rfl (by kernel_rfl) (by kernel_rfl) (by kernel_rfl) (fun _ _ _ h => h) (Or.inl ⟨by rfl, ?_⟩) (by assumption) ?_
  rotate_left 1
  · (intro w hSw; (try dsimp only at hSw); go_simp; first | done | with_reducible rfl)
  try simp only [Act.put]
  refine wpAnyH_take (i := 1) (oi := _) (v := ?_) rfl (by kernel_rfl) (by kernel_rfl) (by kernel_rfl) (fun _ _ _ h => h) (Or.inl ⟨by rfl, ?_⟩) (by assumption) ?_
  rotate_left 1
  · (intro w hSw; (try dsimp only at hSw); go_simp; first | done | with_reducible rfl)
  try simp only [Act.put]
  refine wpAnyH_take (i := 2) (oi := _) (v := ?_) rfl (by kernel_rfl) (by kernel_rfl) (by kernel_rfl) (fun _ _ _ h => h) (Or.inl ⟨by rfl, ?_⟩) (by assumption) ?_
  rotate_left 1
  · (intro w hSw; (try dsimp only at hSw); go_simp; first | done | with_reducible rfl)
  try simp only [Act.put]
  refine wpAnyH_take (i := 3) (oi := _) (v := ?_) rfl (by kernel_rfl) (by kernel_rfl) (by kernel_rfl) (fun _ _ _ h => h) (Or.inl ⟨by rfl, ?_⟩) (by assumption) ?_
  rotate_left 1
  · (intro w hSw; (try dsimp only at hSw); go_simp; first | done | with_reducible rfl)
  try simp only [Act.put]
  refine wpAnyH_take (i := 4) (oi := _) (v := ?_) rfl (by kernel_rfl) (by kernel_rfl) (by kernel_rfl) (fun _ _ _ h => h) (Or.inl ⟨by rfl, ?_⟩) (by assumption) ?_
  rotate_left 1
  · (intro w hSw; (try dsimp only at hSw); go_simp; first | done | with_reducible rfl)
  try simp only [Act.put]
  refine wpAnyH_take (i := 5) (oi := _) (v := ?_) rfl (by kernel_rfl) (by kernel_rfl) (by kernel_rfl) (fun _ _ _ h => h) (Or.inl ⟨by rfl, ?_⟩) (by assumption) ?_
  rotate_left 1
  · (intro w hSw; (try dsimp only at hSw); go_simp; first | done | with_reducible rfl)
  try simp only [Act.put]
  refine wpAnyH_ready (rs := [6]) (by kernel_rfl) (by simp) ?_
  refine AllReadyH.cons (o := _) rfl (fun K hK => ?_) AllReadyH.nil
  go_simp
  refine (ser_cut v _ (HV.out _ (by assumption))).mono ?_
  rintro e w5 ⟨A5, c5, rfl, o5, g5⟩
  have g05 := World.grownBy.trans (a := w0) (by assumption) g5
  first | (refine hK.out _ _ ?_ (fun hHeld => ?_)) | (go_wp2_with fail; refine hK.out _ _ ?_ (fun hHeld => ?_))
  · (try dsimp only); (first | assumption | (exact grown_dr (by assumption)))
  clear hK K
  refine wpAnyH_take (i := 7) (oi := _) (v := ?_) rfl (by kernel_rfl) (by kernel_rfl) (by kernel_rfl) (fun _ _ _ h => h) (Or.inl ⟨by rfl, ?_⟩) (by assumption) ?_
  rotate_left 1
  · (intro w hSw; (try dsimp only at hSw); go_simp; first | done | with_reducible rfl)
  try simp only [Act.put]
  refine wpAnyH_take (i := 8) (oi := _) (v := ?_) rfl (by kernel_rfl) (by kernel_rfl) (by kernel_rfl) (fun _ _ _ h => h) (Or.inl ⟨by rfl, ?_⟩) (by assumption) ?_
  rotate_left 1
  · (intro w hSw; (try dsimp only at hSw); go_simp; first | done | with_reducible rfl)
  try simp only [Act.put]
  refine wpAnyH_done (by kernel_rfl) ?_ _
  refine NoPanic.normal ?_
  go_wp2_with fail
  have gW := Lib.hid (g0.trans g05)
  have HB5 : Hid (∀ w', w5.grownBy w' none → Base w') := Lib.hid (fun w' g => HB.out _ (g05.trans g))
  have hv5 : v.ok w5 := HV.out _ g05
  have q1 : (min (v.ln : Int) 40).toNat = (v.l.take 40).length := by rw [List.length_take]; have := hv5.ll; omega
  have q2 : max (min (v.ln : Int) 40) 0 = ((v.l.take 40).length : Int) := by rw [List.length_take]; have := hv5.ll; omega
  simp only [q1, q2]
  clear q1 q2
  have hLi : ∀ x ∈ v.l.take 40, I64 x := fun x hx => hv5.li x (List.mem_of_mem_take hx)
  have hL40 : (v.l.take 40).length ≤ 40 := by rw [List.length_take]; omega
  have hLc : (v.l.take 40).length ≤ v.lc := by rw [List.length_take]; have := hv5.ll; omega
  have hLA : 0 < (v.l.take 40).length → ∃ ad, v.A = some ad ∧ ad.block < w5.heap.size ∧ ∀ j x, (v.l.take 40)[j]? = some x → w5.cell? (ad.add j) = some (.int .i64 x) := fun h0 => by
    obtain ⟨ad, e, h1, h2⟩ := hv5.lcell (by rw [List.length_take] at h0; have := hv5.ll; omega)
    refine ⟨ad, e, h1, fun j x hx => h2 j x ?_⟩
    rw [List.getElem?_take] at hx
    split at hx
    · exact hx
    · cases hx
  have hTc := cut_len v.t
  obtain ⟨A', c', e, hT1, hT2⟩ := own_slice o5
  injection e with e1 e2 e3
  subst e1
  subst e3
  have hTA : 0 < (cutL v.t).length → ∃ ad, A5 = some ad ∧ ad.block < w5.heap.size ∧ ∀ j x, (cutL v.t)[j]? = some x → w5.cell? (ad.add j) = some (.string ⟨x.toArray⟩) := fun h => own_read o5 h
  clear HB HV Hb Hv hv5 o5 hHeld g0 g05
  generalize v.l.take 40 = L at *
  generalize cutL v.t = T at *
  generalize v.ln = ln at *
  generalize v.lc = lc at *
  have hLs := flat_bound serI 21 L (fun x hx => by have := itoa_len (hLi x hx); unfold serI; simp; omega)
  have hTs := flat_bound serT 121 T (fun x hx => by
    have := hTc.2 x hx
    have := itoa_len (n := (x.length : Int)) ⟨by omega, by omega⟩
    unfold serT; simp; omega)
  have HLi := Lib.hid hLi
  have HLA : Hid (∀ w', w5.grownBy w' none → 0 < L.length → ∃ ad, v.A = some ad ∧ ad.block < w'.heap.size ∧ ∀ j x, L[j]? = some x → w'.cell? (ad.add j) = some (.int .i64 x)) := Lib.hid (fun w' g => kept_list hLA g)
  have HTA : Hid (∀ w', w5.grownBy w' none → 0 < T.length → ∃ ad, A5 = some ad ∧ ad.block < w'.heap.size ∧ ∀ j x, T[j]? = some x → w'.cell? (ad.add j) = some (.string ⟨x.toArray⟩)) := Lib.hid (fun w' g => kept_list hTA g)
  have HT := Lib.hid hTc.2
  have hT20 := hTc.1
  have HI : Hid (∀ w', w5.grownBy w' none → Calls Tryd.prog 16 #[.slice v.A L.length lc] w' fun e w'' => e = .returned (.string ⟨(serL serI L).toArray⟩) ∧ w'.grownBy w'' none) :=
    Lib.hid (fun w' g => wInts v.A lc _ L w' (HB5.out _ g) rfl hLi (by omega) hLc e10 (HLA.out _ g))
  have HIr : Hid (∀ w', w5.grownBy w' none → Calls Tryd.prog 17 #[.slice v.A L.length lc] w' fun e w'' => e = .returned (.string ⟨(serL serI L).toArray⟩) ∧ w'.grownBy w'' none) :=
    Lib.hid (fun w' g => rInts v.A lc _ L w' rfl hLi (by omega) (by omega) (HLA.out _ g))
  have HX : Hid (∀ w', w5.grownBy w' none → Calls Tryd.prog 18 #[.slice A5 T.length c5] w' fun e w'' => e = .returned (.string ⟨(serL serT T).toArray⟩) ∧ w'.grownBy w'' none) :=
    Lib.hid (fun w' g => wTexts A5 c5 _ T w' (HB5.out _ g) rfl (fun x hx => Nat.le_trans (HT.out x hx) (by decide)) (by omega) hT1 hT2 (HTA.out _ g))
  have HXr : Hid (∀ w', w5.grownBy w' none → Calls Tryd.prog 19 #[.slice A5 T.length c5] w' fun e w'' => e = .returned (.string ⟨(serL serT T).toArray⟩) ∧ w'.grownBy w'' none) :=
    Lib.hid (fun w' g => rTexts A5 c5 _ T w' rfl (fun x hx => Nat.le_trans (HT.out x hx) (by decide)) (by omega) (by omega) (HTA.out _ g))
  clear hLi hLA hTA hTc hLs hTs e3 e4 e9
  go_loopw [20] (fun i wr => ∃ k : Nat, k ≤ L.length ∧ i = .int .i64 k ∧ w5.grownBy wr none) (fun i _ => L.length - (intOf i).toNat)
  case atStart => exact ⟨0, by omega, rfl, World.grownBy.refl _ _⟩
  case round =>
    obtain ⟨k, hk, rfl, hg⟩ := hrel
    by_cases hlt : k < L.length
    · obtain ⟨ad, hAe, hab, hcell⟩ := HLA.out _ hg (by omega)
      obtain ⟨x, hx⟩ : ∃ x, L[k]? = some x := ⟨_, List.getElem?_eq_getElem (by omega)⟩
      have hcx := hcell k x hx
      have H1 : Hid (I64 x) := Lib.hid (HLi.out x (List.mem_of_getElem? hx))
      clear hcell hx
      simp only [hAe]
      have hi1 : (k : Int) < (L.length : Int) := by omega
      go_wp2_with (first
        | (go_at_call 12; refine (wInt x H1.out _ (HB5.out _ hg)).mono ?_; rintro e w6 ⟨rfl, g6⟩; have g56 := hg.trans g6)
        | (go_at_call 13; refine (rInt x H1.out _).mono ?_; rintro e w7 ⟨rfl, g7⟩; have g57 := g56.trans g7))
      exact ⟨⟨k + 1, by omega, by go_num, g57⟩, by simp [intOf]; omega⟩
    · obtain rfl : k = L.length := by omega
      go_wp2_with fail
      go_loopw [32] (fun i wr => ∃ k : Nat, k ≤ T.length ∧ i = .int .i64 k ∧ w5.grownBy wr none) (fun i _ => T.length - (intOf i).toNat)
      case atStart => exact ⟨0, by omega, rfl, hg⟩
      case round =>
        clear hg
        obtain ⟨k, hk, rfl, hg⟩ := hrel
        by_cases hlt : k < T.length
        · obtain ⟨ad, rfl, hab, hcell⟩ := HTA.out _ hg (by omega)
          obtain ⟨x, hx⟩ : ∃ x, T[k]? = some x := ⟨_, List.getElem?_eq_getElem (by omega)⟩
          have hcx := hcell k x hx
          have H1 : Hid (x.length ≤ 100) := Lib.hid (HT.out x (List.mem_of_getElem? hx))
          clear hcell hx
          have hi1 : (k : Int) < (T.length : Int) := by omega
          go_wp2_with (first
            | (go_at_call 14; refine (wText x (Nat.le_trans H1.out (by decide)) _ (HB5.out _ hg)).mono ?_; rintro e w6 ⟨rfl, g6⟩; have g56 := hg.trans g6)
            | (go_at_call 15; refine (rText x (Nat.le_trans H1.out (by decide)) _).mono ?_; rintro e w7 ⟨rfl, g7⟩; have g57 := g56.trans g7))
          exact ⟨⟨k + 1, by omega, by go_num, g57⟩, by simp [intOf]; omega⟩
        · obtain rfl : k = T.length := by omega
          go_wp2_with (first
            | (go_at_call 16; refine (HI.out _ hg).mono ?_; rintro e w6 ⟨rfl, g6⟩; have g56 := hg.trans g6)
            | (go_at_call 17; refine (HIr.out _ g56).mono ?_; rintro e w7 ⟨rfl, g7⟩; have g57 := g56.trans g7)
            | (go_at_call 18; refine (HX.out _ g57).mono ?_; rintro e w8 ⟨rfl, g8⟩; have g58 := g57.trans g8)
            | (go_at_call 19; refine (HXr.out _ g58).mono ?_; rintro e w9 ⟨rfl, g9⟩; have g59 := g58.trans g9))
          go_ret
          exact ⟨rfl, gW.out.trans g59⟩
end Go.Proofs.YtmohcanfkcopiaaDoor
