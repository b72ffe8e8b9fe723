/-
  The reference's SameAll.
  The law's Change.apply.
-/
import Derived.Test.YtnkemoicgadefaaGreatDoorRsm
import Derived.Test.YtnkemoicgadefaaGreatDoorWA
import Derived.Deep.QuietTactic
import Derived.BigQuiet
namespace Go.Proofs.YtnkemoicgadefaaGreatDoor
open Go.RowKit
attribute [local go_sem] get_mk extract_mk
set_option maxRecDepth 100000 in
set_option maxHeartbeats 4000000 in
theorem same_all_r (A : Option Addr) (n c : Nat) (us : List V) (B : Option Addr) (m d : Nat) (vs : List V) (l : List O) (w : World) (hu : Offs w A n c us l) (hv : Offs w B m d vs l) :
    Calls Tryz.prog 10 #[.slice A n c, .slice B m d] w fun e w' => e = .returned (.bool true) ∧ w.grownBy w' none := by
  have HA := Lib.hid (fun W (g : w.grownBy W none) => hu.kept g)
  have HB := Lib.hid (fun W (g : w.grownBy W none) => hv.kept g)
  obtain rfl : m = n := by rw [hu.len, hv.len]
  have hle := hu.v.le
  have hcap := hu.v.cap
  clear hu hv
  go_enter Tryz.func10, Tryz.ntmps10
  go_wp2_with fail
  go_loopw [5] (fun z wr => ∃ k : Nat, k ≤ m ∧ z = .int .i64 (k : Int) ∧ Hid (w.grownBy wr none)) (fun z _ => m - (intOf z).toNat)
  case atStart => exact ⟨0, Nat.zero_le _, rfl, Lib.hid (grown_refl _)⟩
  case round =>
    obtain ⟨k, hk, rfl, HG⟩ := hrel
    by_cases hlt : k < m
    · obtain ⟨ad, u, o, ho, _, rfl, _, hu, x0, x1, x2, x3, x4⟩ := (HA.out _ HG.out).at k hlt
      obtain ⟨bd, v, o', ho', _, rfl, _, hv, y0, y1, y2, y3, y4⟩ := (HB.out _ HG.out).at k hlt
      rw [ho] at ho'
      obtain rfl := Option.some.inj ho'
      have KS := Lib.hid (fun W (g : wr.grownBy W none) => same_r u v o W (hu.kept g) (hv.kept g))
      obtain ⟨uc, ur, up, sA, sn, sc, nA, nn, nc⟩ := u
      obtain ⟨vc_, vr, vp, tA, tn, tc, mA, mn, mc⟩ := v
      have h1 := hu.code
      have h2 := hu.cr
      have h3 := hu.pl
      have h4 := hv.code
      have h5 := hv.cr
      have h6 := hv.pl
      simp only at x0 x1 x2 x3 x4 y0 y1 y2 y3 y4 h1 h2 h3 h4 h5 h6
      subst h1 h2 h3
      subst h4 h5 h6
      clear hu hv ho ho'
      have k1 : (0 : Int) ≤ (k : Int) := by omega
      have k2 : (k : Int) < (m : Int) := by omega
      have k3 : decide ((k : Int) < (m : Int)) = true := decide_eq_true k2
      have k6 : IntKind.i64.wrap ((k : Int) + 1) = (k : Int) + 1 := by rw [IntKind.wrap_i64]; omega
      go_wp2_with fail
      have gz : wr.grownBy wr.drew none := grown_dr (grown_refl _)
      refine wp_region_noPanic ?_
      refine wp_region_held_drew (S := (fun w' => wr.grownBy w' none)) (by kernel_rfl) ?_ (fun hHeld => ?_)
      · (try dsimp only); (repeat (first | assumption | exact grown_refl _ | refine grown_dr ?_ | refine grown_dn ?_ | refine grown_al ?_))
      refine wpAnyH_take (i := 0) (oi := _) (v := ?_) rfl (by kernel_rfl) (by kernel_rfl) (by kernel_rfl) (fun _ _ _ h => h) (Or.inl ⟨by rfl, ?_⟩) (by assumption) ?_
      rotate_left 1
      · (intro w hSw; (try dsimp only at hSw); go_simp; first | done | with_reducible rfl)
      try go_simp
      refine wpAnyH_take (i := 1) (oi := _) (v := ?_) rfl (by kernel_rfl) (by kernel_rfl) (by kernel_rfl) (fun _ _ _ h => h) (Or.inl ⟨by rfl, ?_⟩) (by assumption) ?_
      rotate_left 1
      · (intro w hSw; (try dsimp only at hSw); go_simp; first | done | with_reducible rfl)
      try go_simp
      refine wpAnyH_take (i := 2) (oi := _) (v := ?_) rfl (by kernel_rfl) (by kernel_rfl) (by kernel_rfl) (fun _ _ _ h => h) (Or.inl ⟨by rfl, ?_⟩) (by assumption) ?_
      rotate_left 1
      · (intro w hSw; (try dsimp only at hSw); go_simp; first | done | with_reducible rfl)
      try go_simp
      refine wpAnyH_take (i := 3) (oi := _) (v := .agg #[.string ⟨o.code.toArray⟩, .int .i64 o.cr, .int .i64 o.pl, .slice sA sn sc, .slice nA nn nc]) rfl (by kernel_rfl) (by kernel_rfl) (by kernel_rfl) (fun _ _ _ h => h) (Or.inl ⟨by kernel_rfl, ?_⟩) (by assumption) ?_
      · (intro w hSw; (try dsimp only at hSw); go_simp; have y0 := gcell hSw x0; have y1 := gcell hSw x1; have y2 := gcell hSw x2; have y3 := gcell hSw x3; have y4 := gcell hSw x4; clear hSw; go_simp; first | done | with_reducible rfl)
      try go_simp
      refine wpAnyH_take (i := 4) (oi := _) (v := ?_) rfl (by kernel_rfl) (by kernel_rfl) (by kernel_rfl) (fun _ _ _ h => h) (Or.inl ⟨by rfl, ?_⟩) (by assumption) ?_
      rotate_left 1
      · (intro w hSw; (try dsimp only at hSw); go_simp; first | done | with_reducible rfl)
      try go_simp
      refine wpAnyH_take (i := 5) (oi := _) (v := ?_) rfl (by kernel_rfl) (by kernel_rfl) (by kernel_rfl) (fun _ _ _ h => h) (Or.inl ⟨by rfl, ?_⟩) (by assumption) ?_
      rotate_left 1
      · (intro w hSw; (try dsimp only at hSw); go_simp; first | done | with_reducible rfl)
      try go_simp
      refine wpAnyH_take (i := 6) (oi := _) (v := ?_) rfl (by kernel_rfl) (by kernel_rfl) (by kernel_rfl) (fun _ _ _ h => h) (Or.inl ⟨by rfl, ?_⟩) (by assumption) ?_
      rotate_left 1
      · (intro w hSw; (try dsimp only at hSw); go_simp; first | done | with_reducible rfl)
      try go_simp
      refine wpAnyH_take (i := 7) (oi := _) (v := .agg #[.string ⟨o.code.toArray⟩, .int .i64 o.cr, .int .i64 o.pl, .slice tA tn tc, .slice mA mn mc]) rfl (by kernel_rfl) (by kernel_rfl) (by kernel_rfl) (fun _ _ _ h => h) (Or.inl ⟨by kernel_rfl, ?_⟩) (by assumption) ?_
      · (intro w hSw; (try dsimp only at hSw); go_simp; have q0 := gcell hSw y0; have q1 := gcell hSw y1; have q2 := gcell hSw y2; have q3 := gcell hSw y3; have q4 := gcell hSw y4; clear hSw; go_simp; first | done | with_reducible rfl)
      try go_simp
      refine wpAnyH_ready (rs := [8]) (by kernel_rfl) (by simp) ?_
      refine AllReadyH.cons (o := _) rfl (fun K hK => ?_) AllReadyH.nil
      go_simp
      refine (KS.out _ gz).mono ?_
      rintro e w2 ⟨rfl, g⟩
      replace gz := gz.trans g
      clear g
      first | (refine hK.out _ _ ?_ (fun hHeld => ?_)) | (go_wp2_with fail; refine hK.out _ _ ?_ (fun hHeld => ?_))
      · (try dsimp only); (repeat (first | assumption | exact grown_refl _ | refine grown_dr ?_ | refine grown_dn ?_ | refine grown_al ?_))
      clear hK K
      refine wpAnyH_take (i := 9) (oi := _) (v := ?_) rfl (by kernel_rfl) (by kernel_rfl) (by kernel_rfl) (fun _ _ _ h => h) (Or.inl ⟨by rfl, ?_⟩) (by assumption) ?_
      rotate_left 1
      · (intro w hSw; (try dsimp only at hSw); go_simp; first | done | with_reducible rfl)
      try go_simp
      refine wpAnyH_done (by kernel_rfl) ?_ _
      refine NoPanic.normal ?_
      go_simp
      go_wp2_with fail
      exact ⟨⟨k + 1, by omega, by go_num, Lib.hid (HG.out.trans gz)⟩, by simp [intOf]; omega⟩
    · obtain rfl : k = m := by omega
      have k3 : decide ((k : Int) < (k : Int)) = false := by simp
      go_wp2_with fail
      go_ret
      exact ⟨rfl, HG.out⟩
end Go.Proofs.YtnkemoicgadefaaGreatDoor
namespace Go.Proofs.YtnkemoicgadefaaGreatDoor
open Go.RowKit
attribute [local go_sem] get_mk extract_mk
set_option maxRecDepth 100000 in
set_option maxHeartbeats 4000000 in
theorem apply_r (a x : Int) (t s : Str) (ha : 0 ≤ a) (ha2 : a < 65536) (hx : 0 ≤ x) (hx2 : x < 256) (ht : t.length ≤ 9223372036854775807) (hs : s.length ≤ 100000) (w : World) :
    Calls Tryz.prog 11 #[.agg #[.int .u16 a, .int .u8 x, .string ⟨t.toArray⟩], .string ⟨s.toArray⟩] w fun e w' => ∃ r : Str, e = .returned (.string ⟨r.toArray⟩) ∧ r.length ≤ s.length + 20 ∧ w.grownBy w' none := by
  obtain ⟨w1, e1, HP, g1⟩ := row_of w 26 #[.int .u16 a, .int .u8 x, .string ⟨t.toArray⟩]
  have E1 := Lib.hid e1
  have G1 := Lib.hid g1
  have c0 := HP.c 0 rfl
  have c1 := HP.c 1 rfl
  have c2 := HP.c 2 rfl
  have k1 : IntKind.i64.wrap ((s.length : Int) + 1) = (s.length : Int) + 1 := by rw [IntKind.wrap_i64]; omega
  have k2 : IntKind.i64.wrap a = a := by rw [IntKind.wrap_i64]; omega
  have k3 : IntKind.i64.wrap x = x := by rw [IntKind.wrap_i64]; omega
  have k4 : ((s.length : Int) + 1 = 0) = False := by simp; omega
  obtain ⟨p, hp⟩ : ∃ p : Nat, a.tmod ((s.length : Int) + 1) = (p : Int) := ⟨(a.tmod ((s.length : Int) + 1)).toNat, by
    have : 0 ≤ a.tmod ((s.length : Int) + 1) := Int.tmod_nonneg _ ha
    omega⟩
  have p1 : p ≤ s.length := by
    have : a.tmod ((s.length : Int) + 1) < (s.length : Int) + 1 := Int.tmod_lt_of_pos _ (by omega)
    omega
  obtain ⟨y, hy⟩ : ∃ y : Nat, x.tmod 5 = (y : Int) := ⟨(x.tmod 5).toNat, by
    have : 0 ≤ x.tmod 5 := Int.tmod_nonneg _ hx
    omega⟩
  have y1 : y ≤ 4 := by
    have : x.tmod 5 < 5 := Int.tmod_lt_of_pos _ (by omega)
    omega
  have k5 : IntKind.i64.wrap ((p : Int) + (y : Int)) = (p : Int) + (y : Int) := by rw [IntKind.wrap_i64]; omega
  obtain ⟨q, hq⟩ : ∃ q : Nat, min (t.length : Int) 20 = (q : Int) := ⟨min t.length 20, by omega⟩
  obtain ⟨z, hz⟩ : ∃ z : Nat, min (s.length : Int) ((p : Int) + (y : Int)) = (z : Int) := ⟨min s.length (p + y), by omega⟩
  have q1 : q ≤ t.length ∧ q ≤ 20 := by omega
  have z1 : p ≤ z ∧ z ≤ s.length := by omega
  obtain ⟨q2, q3⟩ := q1
  obtain ⟨z2, z3⟩ := z1
  have b1 : (0 : Int) ≤ (p : Int) := by omega
  have b2 : (p : Int) ≤ (s.length : Int) := by omega
  have b3 : (0 : Int) ≤ (q : Int) := by omega
  have b4 : (q : Int) ≤ (t.length : Int) := by omega
  have b5 : (0 : Int) ≤ (z : Int) := by omega
  have b6 : (z : Int) ≤ (s.length : Int) := by omega
  have HF := Lib.hid (show p ≤ s.length ∧ q ≤ t.length ∧ q ≤ 20 ∧ p ≤ z ∧ z ≤ s.length ∧ s.length ≤ 100000 from ⟨p1, q2, q3, z2, z3, hs⟩)
  clear e1 g1 HP
  go_enter Tryz.func11, Tryz.ntmps11
  go_wp2_with fail
  rw [← E1.out]
  clear E1 hx hx2 ha ha2 ht hs p1 y1 q2 q3 z2 z3
  have gz : w1.grownBy w1.drew none := grown_dr (grown_refl _)
  refine wp_region_noPanic ?_
  refine wp_region_held_drew (S := (fun w' => w1.grownBy w' none)) (by kernel_rfl) ?_ (fun hHeld => ?_)
  · (try dsimp only); (repeat (first | assumption | exact grown_refl _ | refine grown_dr ?_ | refine grown_dn ?_ | refine grown_al ?_))
  refine wpAnyH_take (i := 0) (oi := _) (v := ?_) rfl (by kernel_rfl) (by kernel_rfl) (by kernel_rfl) (fun _ _ _ h => h) (Or.inl ⟨by rfl, ?_⟩) (by assumption) ?_
  rotate_left 1
  · (intro w hSw; (try dsimp only at hSw); go_simp; first | done | with_reducible rfl)
  try go_simp
  refine wpAnyH_take (i := 1) (oi := _) (v := ?_) rfl (by kernel_rfl) (by kernel_rfl) (by kernel_rfl) (fun _ _ _ h => h) (Or.inl ⟨by rfl, ?_⟩) (by assumption) ?_
  rotate_left 1
  · (intro w hSw; (try dsimp only at hSw); go_simp; first | done | with_reducible rfl)
  try go_simp
  refine wpAnyH_take (i := 2) (oi := _) (v := .string ⟨(s.take p).toArray⟩) rfl (by kernel_rfl) (by kernel_rfl) (by kernel_rfl) (fun _ _ _ h => h) (Or.inl ⟨by kernel_rfl, ?_⟩) (by assumption) ?_
  · (intro w hSw; (try dsimp only at hSw); go_simp; skip)
  try go_simp
  refine wpAnyH_take (i := 3) (oi := _) (v := ?_) rfl (by kernel_rfl) (by kernel_rfl) (by kernel_rfl) (fun _ _ _ h => h) (Or.inl ⟨by rfl, ?_⟩) (by assumption) ?_
  rotate_left 1
  · (intro w hSw; (try dsimp only at hSw); go_simp; first | done | with_reducible rfl)
  try go_simp
  refine wpAnyH_take (i := 4) (oi := _) (v := .string ⟨t.toArray⟩) rfl (by kernel_rfl) (by kernel_rfl) (by kernel_rfl) (fun _ _ _ h => h) (Or.inl ⟨by kernel_rfl, ?_⟩) (by assumption) ?_
  · (intro w hSw; (try dsimp only at hSw); go_simp; have y0 := gcell hSw c2; clear hSw; go_simp; first | done | with_reducible rfl)
  try go_simp
  refine wpAnyH_take (i := 5) (oi := _) (v := ?_) rfl (by kernel_rfl) (by kernel_rfl) (by kernel_rfl) (fun _ _ _ h => h) (Or.inl ⟨by rfl, ?_⟩) (by assumption) ?_
  rotate_left 1
  · (intro w hSw; (try dsimp only at hSw); go_simp; first | done | with_reducible rfl)
  try go_simp
  refine wpAnyH_take (i := 6) (oi := _) (v := .string ⟨t.toArray⟩) rfl (by kernel_rfl) (by kernel_rfl) (by kernel_rfl) (fun _ _ _ h => h) (Or.inl ⟨by kernel_rfl, ?_⟩) (by assumption) ?_
  · (intro w hSw; (try dsimp only at hSw); go_simp; have y0 := gcell hSw c2; clear hSw; go_simp; first | done | with_reducible rfl)
  try go_simp
  refine wpAnyH_take (i := 7) (oi := _) (v := ?_) rfl (by kernel_rfl) (by kernel_rfl) (by kernel_rfl) (fun _ _ _ h => h) (Or.inl ⟨by rfl, ?_⟩) (by assumption) ?_
  rotate_left 1
  · (intro w hSw; (try dsimp only at hSw); go_simp; first | done | with_reducible rfl)
  try go_simp
  refine wpAnyH_take (i := 8) (oi := _) (v := ?_) rfl (by kernel_rfl) (by kernel_rfl) (by kernel_rfl) (fun _ _ _ h => h) (Or.inl ⟨by rfl, ?_⟩) (by assumption) ?_
  rotate_left 1
  · (intro w hSw; (try dsimp only at hSw); go_simp; first | done | with_reducible rfl)
  try go_simp
  refine wpAnyH_take (i := 9) (oi := _) (v := .string ⟨(t.take q).toArray⟩) rfl (by kernel_rfl) (by kernel_rfl) (by kernel_rfl) (fun _ _ _ h => h) (Or.inl ⟨by kernel_rfl, ?_⟩) (by assumption) ?_
  · (intro w hSw; (try dsimp only at hSw); go_simp; skip)
  try go_simp
  refine wpAnyH_take (i := 10) (oi := _) (v := .string ⟨(s.take p ++ t.take q).toArray⟩) rfl (by kernel_rfl) (by kernel_rfl) (by kernel_rfl) (fun _ _ _ h => h) (Or.inl ⟨by kernel_rfl, ?_⟩) (by assumption) ?_
  · (intro w hSw; (try dsimp only at hSw); go_simp; go_simp; rw [if_neg (by have := HF.out; (try simp only [List.length_append, List.length_take, List.length_drop]); omega)]; first | done | (rw [Wire.str_app]; done) | (rw [Wire.str_app]; simp only [List.append_assoc]))
  try go_simp
  refine wpAnyH_take (i := 11) (oi := _) (v := ?_) rfl (by kernel_rfl) (by kernel_rfl) (by kernel_rfl) (fun _ _ _ h => h) (Or.inl ⟨by rfl, ?_⟩) (by assumption) ?_
  rotate_left 1
  · (intro w hSw; (try dsimp only at hSw); go_simp; first | done | with_reducible rfl)
  try go_simp
  refine wpAnyH_take (i := 12) (oi := _) (v := ?_) rfl (by kernel_rfl) (by kernel_rfl) (by kernel_rfl) (fun _ _ _ h => h) (Or.inl ⟨by rfl, ?_⟩) (by assumption) ?_
  rotate_left 1
  · (intro w hSw; (try dsimp only at hSw); go_simp; first | done | with_reducible rfl)
  try go_simp
  refine wpAnyH_take (i := 13) (oi := _) (v := ?_) rfl (by kernel_rfl) (by kernel_rfl) (by kernel_rfl) (fun _ _ _ h => h) (Or.inl ⟨by rfl, ?_⟩) (by assumption) ?_
  rotate_left 1
  · (intro w hSw; (try dsimp only at hSw); go_simp; first | done | with_reducible rfl)
  try go_simp
  refine wpAnyH_take (i := 14) (oi := _) (v := ?_) rfl (by kernel_rfl) (by kernel_rfl) (by kernel_rfl) (fun _ _ _ h => h) (Or.inl ⟨by rfl, ?_⟩) (by assumption) ?_
  rotate_left 1
  · (intro w hSw; (try dsimp only at hSw); go_simp; first | done | with_reducible rfl)
  try go_simp
  refine wpAnyH_take (i := 15) (oi := _) (v := ?_) rfl (by kernel_rfl) (by kernel_rfl) (by kernel_rfl) (fun _ _ _ h => h) (Or.inl ⟨by rfl, ?_⟩) (by assumption) ?_
  rotate_left 1
  · (intro w hSw; (try dsimp only at hSw); go_simp; first | done | with_reducible rfl)
  try go_simp
  refine wpAnyH_take (i := 16) (oi := _) (v := .int .u8 x) rfl (by kernel_rfl) (by kernel_rfl) (by kernel_rfl) (fun _ _ _ h => h) (Or.inl ⟨by kernel_rfl, ?_⟩) (by assumption) ?_
  · (intro w hSw; (try dsimp only at hSw); go_simp; have y0 := gcell hSw c1; clear hSw; go_simp; first | done | with_reducible rfl)
  try go_simp
  refine wpAnyH_take (i := 17) (oi := _) (v := ?_) rfl (by kernel_rfl) (by kernel_rfl) (by kernel_rfl) (fun _ _ _ h => h) (Or.inl ⟨by rfl, ?_⟩) (by assumption) ?_
  rotate_left 1
  · (intro w hSw; (try dsimp only at hSw); go_simp; first | done | with_reducible rfl)
  try go_simp
  refine wpAnyH_take (i := 18) (oi := _) (v := ?_) rfl (by kernel_rfl) (by kernel_rfl) (by kernel_rfl) (fun _ _ _ h => h) (Or.inl ⟨by rfl, ?_⟩) (by assumption) ?_
  rotate_left 1
  · (intro w hSw; (try dsimp only at hSw); go_simp; first | done | with_reducible rfl)
  try go_simp
  refine wpAnyH_take (i := 19) (oi := _) (v := ?_) rfl (by kernel_rfl) (by kernel_rfl) (by kernel_rfl) (fun _ _ _ h => h) (Or.inl ⟨by rfl, ?_⟩) (by assumption) ?_
  rotate_left 1
  · (intro w hSw; (try dsimp only at hSw); go_simp; first | done | with_reducible rfl)
  try go_simp
  refine wpAnyH_take (i := 20) (oi := _) (v := ?_) rfl (by kernel_rfl) (by kernel_rfl) (by kernel_rfl) (fun _ _ _ h => h) (Or.inl ⟨by rfl, ?_⟩) (by assumption) ?_
  rotate_left 1
  · (intro w hSw; (try dsimp only at hSw); go_simp; first | done | with_reducible rfl)
  try go_simp
  refine wpAnyH_take (i := 21) (oi := _) (v := .string ⟨(s.drop z).toArray⟩) rfl (by kernel_rfl) (by kernel_rfl) (by kernel_rfl) (fun _ _ _ h => h) (Or.inl ⟨by kernel_rfl, ?_⟩) (by assumption) ?_
  · (intro w hSw; (try dsimp only at hSw); go_simp; skip)
  try go_simp
  refine wpAnyH_take (i := 22) (oi := _) (v := .string ⟨((s.take p ++ t.take q) ++ s.drop z).toArray⟩) rfl (by kernel_rfl) (by kernel_rfl) (by kernel_rfl) (fun _ _ _ h => h) (Or.inl ⟨by kernel_rfl, ?_⟩) (by assumption) ?_
  · (intro w hSw; (try dsimp only at hSw); go_simp; go_simp; rw [if_neg (by have := HF.out; (try simp only [List.length_append, List.length_take, List.length_drop]); omega)]; first | done | (rw [Wire.str_app]; done) | (rw [Wire.str_app]; simp only [List.append_assoc]))
  try go_simp
  refine wpAnyH_take (i := 23) (oi := _) (v := ?_) rfl (by kernel_rfl) (by kernel_rfl) (by kernel_rfl) (fun _ _ _ h => h) (Or.inl ⟨by rfl, ?_⟩) (by assumption) ?_
  rotate_left 1
  · (intro w hSw; (try dsimp only at hSw); go_simp; first | done | with_reducible rfl)
  try go_simp
  refine wpAnyH_done (by kernel_rfl) ?_ _
  refine NoPanic.normal ?_
  go_simp
  go_wp2_with fail
  go_ret
  exact ⟨s.take p ++ (t.take q ++ s.drop z), rfl, by have := HF.out; simp only [List.length_append, List.length_take, List.length_drop]; omega, G1.out.trans gz⟩
end Go.Proofs.YtnkemoicgadefaaGreatDoor
