/-
  The law DigestOne.
-/
import Derived.Test.YtljjmoeplfcblaaDOf
namespace Go.Proofs.Ytljjmoeplfcblaa
open Go.RowKit Go.Shelf
attribute [local go_sem] get_mk extract_mk
theorem bxor (a m : Nat) (ha : a < 256) (hm : m < 256) : bits .xor .u8 (a : Int) (m : Int) = ((a ^^^ m : Nat) : Int) := by
  have h : a ^^^ m < 256 := Nat.xor_lt_two_pow (n := 8) ha hm
  show IntKind.u8.wrap (((BitVec.ofInt 8 (a : Int)) ^^^ (BitVec.ofInt 8 (m : Int))).toNat : Int) = _
  rw [BitVec.ofInt_natCast, BitVec.ofInt_natCast, IntKind.wrap_u8, BitVec.toNat_xor, BitVec.toNat_ofNat, BitVec.toNat_ofNat, Nat.mod_eq_of_lt ha, Nat.mod_eq_of_lt hm]
  omega
theorem xor_other (b : UInt8) (m : Nat) (h1 : 1 ≤ m) (h2 : m < 256) : b.toNat ^^^ m < 256 ∧ UInt8.ofNat (b.toNat ^^^ m) ≠ b := by
  have h : b.toNat ^^^ m < 256 := Nat.xor_lt_two_pow (n := 8) (UInt8.toNat_lt _) h2
  refine ⟨h, fun e => ?_⟩
  have e1 := congrArg UInt8.toNat e
  rw [UInt8.toNat_ofNat', Nat.mod_eq_of_lt h] at e1
  have e2 := congrArg (b.toNat ^^^ ·) e1
  simp only [← Nat.xor_assoc, Nat.xor_self, Nat.zero_xor] at e2
  omega
theorem parts (t : Str) (k : Nat) (h : k < t.length) : t = t.take k ++ t[k] :: t.drop (k + 1) := by simp
theorem conv_one (Z : Nat) (W : World) : (convert 27 9 (.slice (some ⟨W.heap.size, 0, none⟩) 1 1)).run Try.prog (W.alloc (.cells #[.int .u8 (Z : Int)] 5)).drew = .ok (.string ⟨#[UInt8.ofNat Z]⟩) (W.alloc (.cells #[.int .u8 (Z : Int)] 5)).drew :=
  conv_bytes _ W.heap.size 1 [(Z : Int)] (fun j v h => by
    rw [show (W.alloc (.cells #[.int .u8 (Z : Int)] 5)).drew.cell? ⟨W.heap.size, j, none⟩ = (W.alloc (.cells #[.int .u8 (Z : Int)] 5)).cell? ⟨W.heap.size, j, none⟩ from rfl, World.cell?_alloc_new, show #[Value.int .u8 (Z : Int)] = ([(Z : Int)].map (Value.int .u8)).toArray from rfl, List.getElem?_toArray]
    exact h) [UInt8.ofNat Z] (by
    simp only [List.foldl_cons, List.foldl_nil, Int.toNat_natCast]; rfl)
theorem lin_le (M a x y d : Nat) (hM : Nat.Coprime M a) (hx : x < M) (h : (a * x + d) % M = (a * y + d) % M) (hyx : y ≤ x) : x = y := by
  have h1 : (a * x + d - (a * y + d)) % M = 0 := Nat.sub_mod_eq_zero_of_mod_eq h
  rw [Nat.add_sub_add_right, ← Nat.mul_sub] at h1
  have h4 := Nat.eq_zero_of_dvd_of_lt (Nat.Coprime.dvd_of_dvd_mul_left hM (Nat.dvd_of_mod_eq_zero h1)) (by omega)
  omega
theorem lin_inj (M a x y d : Nat) (hM : Nat.Coprime M a) (hx : x < M) (hy : y < M) (h : (a * x + d) % M = (a * y + d) % M) : x = y := by
  rcases Nat.le_total y x with hl | hl
  · exact lin_le M a x y d hM hx h hl
  · exact (lin_le M a y x d hM hy h.symm hl).symm
theorem cop : Nat.Coprime 2147483647 69621 := by decide +kernel
theorem sx_form (x : Nat) (c : UInt8) : sx x c = (69621 * x + (c.toNat + 1)) % 2147483647 := rfl
theorem sx_inj (x y : Nat) (c : UInt8) (hx : x < 2147483647) (hy : y < 2147483647) (h : sx x c = sx y c) : x = y := by
  rw [sx_form, sx_form] at h
  exact lin_inj _ _ x y _ cop hx hy h
theorem sx_ne (x : Nat) (c d : UInt8) (h : sx x c = sx x d) : c = d := by
  have h1 := UInt8.toNat_lt c
  have h2 := UInt8.toNat_lt d
  unfold sx at h
  exact UInt8.toNat_inj.1 (by omega)
theorem dx_fold (x y : Nat) (hx : x < 2147483647) (hy : y < 2147483647) : ∀ (q : Str), q.foldl sx x = q.foldl sx y → x = y := by
  intro q
  induction q generalizing x y with
  | nil => exact fun h => h
  | cons c q ih => exact fun h => sx_inj x y c hx hy (ih _ _ (sx_lt _ _) (sx_lt _ _) h)
theorem dg_one (p q : Str) (c d : UInt8) (h : dg (p ++ c :: q) = dg (p ++ d :: q)) : c = d := by
  have h1 := (dg_inj h).1
  unfold dx at h1
  rw [List.foldl_append, List.foldl_append, List.foldl_cons, List.foldl_cons] at h1
  exact sx_ne _ _ _ (dx_fold _ _ (sx_lt _ _) (sx_lt _ _) q h1)
theorem differ (t O : Str) (k : Nat) (h : k < t.length) (z : UInt8) (hz : z ≠ t[k]) (hO : t.take k ++ [z] ++ t.drop (k + 1) = O) (p q : Str) : ¬ dg (p ++ (t ++ q)) = dg (p ++ (O ++ q)) := by
  subst hO
  intro e
  have e1 : p ++ (t ++ q) = (p ++ t.take k) ++ t[k] :: (t.drop (k + 1) ++ q) := by
    have := congrArg (fun u => p ++ (u ++ q)) (parts t k h)
    simp only [List.append_assoc, List.cons_append] at this ⊢
    exact this
  have e2 : p ++ ((t.take k ++ [z] ++ t.drop (k + 1)) ++ q) = (p ++ t.take k) ++ z :: (t.drop (k + 1) ++ q) := by simp only [List.append_assoc, List.cons_append, List.nil_append]
  rw [e1, e2] at e
  exact hz (dg_one _ _ _ _ e).symm
theorem three (t O : Str) (hd : ∀ p q : Str, ¬ dg (p ++ (t ++ q)) = dg (p ++ (O ++ q))) : (dg t == dg O) = false ∧ (chain [97] t == chain [97] O) = false ∧ (mark [97] t == mark [97] O) = false := by
  have q0 : ∀ u : Str, ([] : Str) ++ (u ++ []) = u := fun u => by simp
  have q1 : ∀ u : Str, (1 :: (be 1 8 ++ [97]) : Str) ++ (u ++ []) = 1 :: (be [(97 : UInt8)].length 8 ++ ([97] ++ u)) := fun u => by simp
  have q2 : ∀ u : Str, (2 :: (be 1 8 ++ [97]) : Str) ++ (u ++ [97]) = 2 :: (be [(97 : UInt8)].length 8 ++ ([97] ++ (u ++ [97]))) := fun u => by simp
  refine ⟨beq_eq_false_iff_ne.2 fun e => hd [] [] ?_, beq_eq_false_iff_ne.2 fun e => hd (1 :: (be 1 8 ++ [97])) [] ?_, beq_eq_false_iff_ne.2 fun e => hd (2 :: (be 1 8 ++ [97])) [97] ?_⟩
  · rw [q0, q0]; exact e
  · rw [q1, q1]; exact e
  · rw [q2, q2]; exact e
set_option maxRecDepth 100000 in
set_option maxHeartbeats 4000000 in
theorem done_in (t : Str) (n c : Nat) (hn : n ≤ 65535) (hc : c ≤ 255) (w : World) (x : Str) (hx : x.length ≤ 9223372036854775807) (ex : x.take 200 = t) :
    Calls Try.prog 4 #[.string ⟨x.toArray⟩, .int .u16 n, .int .u8 c] w fun e w' => e = .returned (.bool true) ∧ w.grownBy w' none := by
  have ht : t.length ≤ 200 := by rw [← ex]; exact List.length_take_le _ _
  have C1 := Lib.hid (cut_k x hx)
  rw [ex] at C1
  clear ex
  by_cases h0 : t = []
  · subst h0
    go_enter Try.func4, Try.ntmps4
    go_wp2_with fail
    refine (sane_k w).mono ?_
    rintro e w1 ⟨rfl, g1⟩
    go_wp2_with fail
    refine (C1.out w1).mono ?_
    rintro e w' ⟨rfl, rfl⟩
    go_wp2_with fail
    go_ret
    exact ⟨rfl, g1⟩
  · have hp : 0 < t.length := by
      rcases t with _ | ⟨a, t⟩
      · exact absurd rfl h0
      · simp
    have hb : ((t.length : Int) == 0) = false := by simp; omega
    clear h0
    go_enter Try.func4, Try.ntmps4
    go_wp2_with fail
    refine (sane_k w).mono ?_
    rintro e w1 ⟨rfl, g1⟩
    go_wp2_with fail
    refine (C1.out w1).mono ?_
    rintro e w' ⟨rfl, rfl⟩
    go_wp2_with fail
    have hk : (n : Int) % (t.length : Int) = ((n % t.length : Nat) : Int) := (Int.natCast_emod _ _).symm
    rw [hk]
    have hkl : n % t.length < t.length := Nat.mod_lt _ hp
    generalize n % t.length = k at hkl ⊢
    clear hk
    have hkle : k ≤ t.length := Nat.le_of_lt hkl
    have hk1 : k + 1 ≤ t.length := hkl
    have h01 : (0 : Int) ≤ (k : Int) + 1 := by omega
    have h02 : (k : Int) + 1 ≤ (t.length : Int) := by omega
    have h03 : ((k : Int) + 1).toNat = k + 1 := by omega
    have hwr : IntKind.i64.wrap ((k : Int) + 1) = (k : Int) + 1 := by rw [IntKind.wrap_i64]; omega
    obtain ⟨m, hm1, hm2, hm⟩ : ∃ m : Nat, 1 ≤ m ∧ m < 256 ∧ (if (c : Int) < 1 then (1 : Int) else (c : Int)) = (m : Int) := by
      by_cases h : (c : Int) < 1
      · exact ⟨1, by omega, by omega, by rw [if_pos h]; rfl⟩
      · exact ⟨c, by omega, by omega, by rw [if_neg h]⟩
    have hz := bxor t[k].toNat m (UInt8.toNat_lt _) hm2
    obtain ⟨hz1, hz2⟩ := xor_other t[k] m hm1 hm2
    have HT := Lib.hid (parts t k hkl)
    generalize t[k].toNat ^^^ m = Z at hz hz1 hz2
    have HZ := Lib.hid hz2
    have hcv := conv_one Z w'
    clear hz2 hm1 hm2
    have l1 : (t.take k).length = k := by rw [List.length_take]; omega
    have hl3 : ¬ 9223372036854775807 < t.length := by omega
    have hl1 : ¬ 9223372036854775807 < k + 1 := by omega
    have hl2 : ¬ 9223372036854775807 < k + 1 + (t.length - (k + 1)) := by omega
    have g00 := World.grownBy.refl w' none
    refine wp_region_noPanic ?_
    refine wp_region_held_drew (S := (fun w'' => w'.grownBy w'' none)) (by kernel_rfl) ?_ (fun hHeld => ?_)
    · (try dsimp only); (first | assumption | exact World.grownBy.refl _ _ | exact grown_dr (by assumption) | exact World.grownBy.trans (by assumption) (World.grownBy_alloc _ _ _) | exact grown_dr (World.grownBy.trans (by assumption) (World.grownBy_alloc _ _ _)))
    refine wpAnyH_take (i := 0) (oi := _) (v := ?_) rfl (by kernel_rfl) (by kernel_rfl) (by kernel_rfl) (fun _ _ _ h => h) (Or.inl ⟨by rfl, ?_⟩) (by assumption) ?_
    rotate_left 1
    · (intro w hSw; (try dsimp only at hSw); go_simp; first | done | with_reducible rfl)
    try go_simp
    refine wpAnyH_take (i := 1) (oi := _) (v := ?_) rfl (by kernel_rfl) (by kernel_rfl) (by kernel_rfl) (fun _ _ _ h => h) (Or.inl ⟨by rfl, ?_⟩) (by assumption) ?_
    rotate_left 1
    · (intro w hSw; (try dsimp only at hSw); go_simp; first | done | with_reducible rfl)
    try go_simp
    refine wpAnyH_take (i := 2) (oi := _) (v := ?_) rfl (by kernel_rfl) (by kernel_rfl) (by kernel_rfl) (fun _ _ _ h => h) (Or.inl ⟨by rfl, ?_⟩) (by assumption) ?_
    rotate_left 1
    · (intro w hSw; (try dsimp only at hSw); go_simp; first | done | with_reducible rfl)
    try go_simp
    refine wpAnyH_take (i := 3) (oi := _) (v := ?_) rfl (by kernel_rfl) (by kernel_rfl) (by kernel_rfl) (fun _ _ _ h => h) (Or.inl ⟨by rfl, ?_⟩) (by assumption) ?_
    rotate_left 1
    · (intro w hSw; (try dsimp only at hSw); go_simp; first | done | with_reducible rfl)
    try go_simp
    refine wpAnyH_take (i := 4) (oi := _) (v := ?_) rfl (by kernel_rfl) (by kernel_rfl) (by kernel_rfl) (fun _ _ _ h => h) (Or.inl ⟨by rfl, ?_⟩) (by assumption) ?_
    rotate_left 1
    · (intro w hSw; (try dsimp only at hSw); go_simp; first | done | with_reducible rfl)
    try go_simp
    refine wpAnyH_take (i := 6) (oi := _) (v := ?_) rfl (by kernel_rfl) (by kernel_rfl) (by kernel_rfl) (fun _ _ _ h => h) (Or.inl ⟨by rfl, ?_⟩) (by assumption) ?_
    rotate_left 1
    · (intro w hSw; (try dsimp only at hSw); go_simp; first | done | with_reducible rfl)
    try go_simp
    refine wpAnyH_take (i := 7) (oi := _) (v := ?_) rfl (by kernel_rfl) (by kernel_rfl) (by kernel_rfl) (fun _ _ _ h => h) (Or.inl ⟨by rfl, ?_⟩) (by assumption) ?_
    rotate_left 1
    · (intro w hSw; (try dsimp only at hSw); go_simp; first | done | with_reducible rfl)
    try go_simp
    refine wpAnyH_take (i := 12) (oi := _) (v := ?_) rfl (by kernel_rfl) (by kernel_rfl) (by kernel_rfl) (fun _ _ _ h => h) (Or.inl ⟨by rfl, ?_⟩) (by assumption) ?_
    rotate_left 1
    · (intro w hSw; (try dsimp only at hSw); go_simp; first | done | with_reducible rfl)
    try go_simp
    refine wpAnyH_take (i := 13) (oi := _) (v := ?_) rfl (by kernel_rfl) (by kernel_rfl) (by kernel_rfl) (fun _ _ _ h => h) (Or.inl ⟨by rfl, ?_⟩) (by assumption) ?_
    rotate_left 1
    · (intro w hSw; (try dsimp only at hSw); go_simp; first | done | with_reducible rfl)
    try go_simp
    refine wpAnyH_take (i := 14) (oi := _) (v := ?_) rfl (by kernel_rfl) (by kernel_rfl) (by kernel_rfl) (fun _ _ _ h => h) (Or.inl ⟨by rfl, ?_⟩) (by assumption) ?_
    rotate_left 1
    · (intro w hSw; (try dsimp only at hSw); go_simp; first | done | with_reducible rfl)
    try go_simp
    refine wpAnyH_take (i := 15) (oi := _) (v := ?_) rfl (by kernel_rfl) (by kernel_rfl) (by kernel_rfl) (fun _ _ _ h => h) (Or.inl ⟨by rfl, ?_⟩) (by assumption) ?_
    rotate_left 1
    · (intro w hSw; (try dsimp only at hSw); go_simp; first | done | with_reducible rfl)
    try go_simp
    refine wpAnyH_ready (rs := [5]) (by kernel_rfl) (by simp) ?_
    refine AllReadyH.cons (o := _) rfl (fun K hK => ?_) AllReadyH.nil
    go_simp
    first | (refine hK.out _ _ ?_ (fun hHeld => ?_)) | (go_wp2_with fail; refine hK.out _ _ ?_ (fun hHeld => ?_))
    · (try dsimp only); (first | assumption | exact World.grownBy.refl _ _ | exact grown_dr (by assumption) | exact World.grownBy.trans (by assumption) (World.grownBy_alloc _ _ _) | exact grown_dr (World.grownBy.trans (by assumption) (World.grownBy_alloc _ _ _)))
    clear hK K
    refine wpAnyH_take (i := 8) (oi := _) (v := ?_) rfl (by kernel_rfl) (by kernel_rfl) (by kernel_rfl) (fun _ _ _ h => h) (Or.inl ⟨by rfl, ?_⟩) (by assumption) ?_
    rotate_left 1
    · (intro w hSw; (try dsimp only at hSw); go_simp; first | done | with_reducible rfl)
    try go_simp
    refine wpAnyH_ready (rs := [9]) (by kernel_rfl) (by simp) ?_
    refine AllReadyH.cons (o := _) rfl (fun K hK => ?_) AllReadyH.nil
    go_simp
    first | (refine hK.out _ _ ?_ (fun hHeld => ?_)) | (go_wp2_with fail; refine hK.out _ _ ?_ (fun hHeld => ?_))
    · (try dsimp only); (first | assumption | exact World.grownBy.refl _ _ | exact grown_dr (by assumption) | exact World.grownBy.trans (by assumption) (World.grownBy_alloc _ _ _) | exact grown_dr (World.grownBy.trans (by assumption) (World.grownBy_alloc _ _ _)))
    clear hK K
    refine wpAnyH_ready (rs := [10]) (by kernel_rfl) (by simp) ?_
    refine AllReadyH.cons (o := _) rfl (fun K hK => ?_) AllReadyH.nil
    go_simp
    first | (refine hK.out _ _ ?_ (fun hHeld => ?_)) | (go_wp2_with fail; refine hK.out _ _ ?_ (fun hHeld => ?_))
    · (try dsimp only); (first | assumption | exact World.grownBy.refl _ _ | exact grown_dr (by assumption) | exact World.grownBy.trans (by assumption) (World.grownBy_alloc _ _ _) | exact grown_dr (World.grownBy.trans (by assumption) (World.grownBy_alloc _ _ _)))
    clear hK K
    refine wpAnyH_take (i := 11) (oi := _) (v := ?_) rfl (by kernel_rfl) (by kernel_rfl) (by kernel_rfl) (fun _ _ _ h => h) (Or.inl ⟨by rfl, ?_⟩) (by assumption) ?_
    rotate_left 1
    · (intro w hSw; (try dsimp only at hSw); go_simp; first | done | with_reducible rfl)
    try go_simp
    refine wpAnyH_take (i := 16) (oi := _) (v := ?_) rfl (by kernel_rfl) (by kernel_rfl) (by kernel_rfl) (fun _ _ _ h => h) (Or.inl ⟨by rfl, ?_⟩) (by assumption) ?_
    rotate_left 1
    · (intro w hSw; (try dsimp only at hSw); go_simp; first | done | with_reducible rfl)
    try go_simp
    refine wpAnyH_take (i := 17) (oi := _) (v := ?_) rfl (by kernel_rfl) (by kernel_rfl) (by kernel_rfl) (fun _ _ _ h => h) (Or.inl ⟨by rfl, ?_⟩) (by assumption) ?_
    rotate_left 1
    · (intro w hSw; (try dsimp only at hSw); go_simp; first | done | with_reducible rfl)
    try go_simp
    refine wpAnyH_done (by kernel_rfl) ?_ _
    refine NoPanic.normal ?_
    go_simp
    simp only [str_app]
    have hOl : (t.take k ++ [UInt8.ofNat Z] ++ t.drop (k + 1)).length ≤ 200 := by simp only [List.length_append, List.length_take, List.length_drop, List.length_singleton]; omega
    have hd := differ t _ k hkl (UInt8.ofNat Z) HZ.out rfl
    clear HZ HT hz hcv
    generalize t.take k ++ [UInt8.ofNat Z] ++ t.drop (k + 1) = O at hOl hd ⊢
    obtain ⟨hne1, hne2, hne3⟩ := three t O hd
    have HO1 := Lib.hid (fun w => of_k t (by omega) w)
    have HO2 := Lib.hid (fun w => of_k O (by omega) w)
    have HC1 := Lib.hid (fun w => chain_k [97] t (by simp) (by omega) w)
    have HC2 := Lib.hid (fun w => chain_k [97] O (by simp) (by omega) w)
    have HM1 := Lib.hid (fun w => mark_k [97] t (by simp) (by omega) w)
    have HM2 := Lib.hid (fun w => mark_k [97] O (by simp) (by omega) w)
    generalize chain [97] t = c1 at *
    generalize chain [97] O = c2 at *
    generalize mark [97] t = m1 at *
    generalize mark [97] O = m2 at *
    generalize dg t = d1 at *
    generalize dg O = d2 at *
    clear hd
    go_wp2_with fail
    refine (HO1.out _).mono ?_
    rintro e w2 ⟨rfl, g2⟩
    have g2 := g1.trans (World.grownBy.trans (by first | exact World.grownBy_alloc _ _ _ | exact grown_dr (World.grownBy_alloc _ _ _)) g2)
    go_wp2_with fail
    refine (HO2.out _).mono ?_
    rintro e w3 ⟨rfl, g3⟩
    go_wp2_with fail
    refine (HC1.out _).mono ?_
    rintro e w4 ⟨rfl, g4⟩
    go_wp2_with fail
    refine (HC2.out _).mono ?_
    rintro e w5 ⟨rfl, g5⟩
    go_wp2_with fail
    refine (HM1.out _).mono ?_
    rintro e w6 ⟨rfl, g6⟩
    go_wp2_with fail
    refine (HM2.out _).mono ?_
    rintro e w7 ⟨rfl, g7⟩
    go_wp2_with fail
    go_ret
    exact ⟨rfl, g2.trans (g3.trans (g4.trans (g5.trans (g6.trans g7))))⟩
theorem done_walk (x : Str) (n c : Nat) (w : World) (hn : n ≤ 65535) (hc : c ≤ 255) (hx : x.length ≤ 9223372036854775807) :
    Calls Try.prog 4 #[.string ⟨x.toArray⟩, .int .u16 n, .int .u8 c] w fun e w' => e = .returned (.bool true) ∧ w.grownBy w' none := done_in (x.take 200) n c hn hc w x hx rfl
end Go.Proofs.Ytljjmoeplfcblaa
