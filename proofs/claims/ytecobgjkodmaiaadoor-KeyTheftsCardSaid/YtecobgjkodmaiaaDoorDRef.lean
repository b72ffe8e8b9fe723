import Derived.Test.YtecobgjkodmaiaaDoorDOf
import Derived.Deep.RegionHeld3
namespace Go.Proofs.YtecobgjkodmaiaaDoor
open Go.RowKit
attribute [local go_sem] get_mk extract_mk
def u8v (n : Nat) (k : Nat) : Value := .int .u8 ((UInt8.ofNat (n >>> k)).toNat : Int)
def z8 : Value := .int .u8 0
def e8 (n : Nat) : Nat → Array Value
  | 0 => #[z8, z8, z8, z8, z8, z8, z8, z8]
  | 1 => #[z8, z8, z8, z8, z8, z8, z8, u8v n 0]
  | 2 => #[z8, z8, z8, z8, z8, z8, u8v n 8, u8v n 0]
  | 3 => #[z8, z8, z8, z8, z8, u8v n 16, u8v n 8, u8v n 0]
  | 4 => #[z8, z8, z8, z8, u8v n 24, u8v n 16, u8v n 8, u8v n 0]
  | 5 => #[z8, z8, z8, u8v n 32, u8v n 24, u8v n 16, u8v n 8, u8v n 0]
  | 6 => #[z8, z8, u8v n 40, u8v n 32, u8v n 24, u8v n 16, u8v n 8, u8v n 0]
  | 7 => #[z8, u8v n 48, u8v n 40, u8v n 32, u8v n 24, u8v n 16, u8v n 8, u8v n 0]
  | _ => #[u8v n 56, u8v n 48, u8v n 40, u8v n 32, u8v n 24, u8v n 16, u8v n 8, u8v n 0]
theorem sh_step (n k : Nat) : ((n >>> k : Nat) : Int) / (256 : Int) = ((n >>> (k + 8) : Nat) : Int) := by
  rw [Nat.shiftRight_add, Nat.shiftRight_eq_div_pow (n >>> k) 8]
  generalize n >>> k = N
  omega
theorem u8_step (n k : Nat) : Value.int .u8 (((n >>> k : Nat) : Int) % 256) = u8v n k := by
  unfold u8v
  rw [UInt8.toNat_ofNat']
  generalize n >>> k = N
  congr 1
def u8n (n k : Nat) : Int := ((UInt8.ofNat (n >>> k)).toNat : Int)
theorem u8n_back (n k : Nat) : UInt8.ofNat (u8n n k).toNat = UInt8.ofNat (n >>> k) := by
  unfold u8n
  rw [Int.toNat_natCast]
  exact UInt8.ofNat_toNat
theorem conv_e8 (n : Nat) (w : World) : (convert 84 9 (.slice (some ⟨w.heap.size, 0, none⟩) 8 8)).run Tryd.prog (w.alloc (.cells (e8 n 8) 93)) = .ok (.string ⟨(be n 8).toArray⟩) (w.alloc (.cells (e8 n 8) 93)) :=
  conv_bytes _ w.heap.size 8 [u8n n 56, u8n n 48, u8n n 40, u8n n 32, u8n n 24, u8n n 16, u8n n 8, u8n n 0] (fun j v h => by
    rw [World.cell?_alloc_new, show e8 n 8 = ([u8n n 56, u8n n 48, u8n n 40, u8n n 32, u8n n 24, u8n n 16, u8n n 8, u8n n 0].map (Value.int .u8)).toArray from rfl, List.getElem?_toArray]
    exact h) (be n 8) (by
    simp only [List.foldl_cons, List.foldl_nil, u8n_back]; rfl)
set_option maxRecDepth 100000 in
set_option maxHeartbeats 1000000 in
theorem eight_r (n : Nat) (hn : n < 9223372036854775808) (w : World) : Calls Tryd.prog 57 #[.int .i64 n] w fun e w' => e = .returned (.string ⟨(be n 8).toArray⟩) ∧ w.grownBy w' none := by
  go_enter Tryd.func57, Tryd.ntmps57
  go_wp2_with fail
  go_loopw [0, 4] (fun x i wr => ∃ k : Nat, k ≤ 8 ∧ i = .int .i64 (7 - (k : Int)) ∧ x = .int .i64 ((n >>> (8 * k) : Nat) : Int) ∧ wr = w.alloc (.cells (e8 n k) 93)) (fun _ i _ => (intOf i + 1).toNat)
  case atStart => exact ⟨0, by omega, rfl, rfl, rfl⟩
  case round =>
    obtain ⟨k, hk, rfl, rfl, rfl⟩ := hrel
    have hk9 : k = 0 ∨ k = 1 ∨ k = 2 ∨ k = 3 ∨ k = 4 ∨ k = 5 ∨ k = 6 ∨ k = 7 ∨ k = 8 := by omega
    rcases hk9 with rfl | rfl | rfl | rfl | rfl | rfl | rfl | rfl | rfl
    · have hb : n >>> 0 < 9223372036854775808 := Nat.lt_of_le_of_lt (Nat.shiftRight_le _ _) hn
      have h1 : ((n >>> 0 : Nat) : Int) / (256 : Int) = ((n >>> 8 : Nat) : Int) := sh_step n 0
      have h2 : Value.int .u8 (((n >>> 0 : Nat) : Int) % 256) = u8v n 0 := u8_step n 0
      simp only [Nat.reduceMul]
      generalize n >>> 0 = N at hb h1 h2 ⊢
      have H1 := Lib.hid h1
      have H2 := Lib.hid h2
      clear h1 h2
      go_wp2_with fail
      exact ⟨⟨1, by omega, by go_num, by rw [H1.out], by rw [H2.out]; rfl⟩, by simp [intOf]⟩
    · have hb : n >>> 8 < 9223372036854775808 := Nat.lt_of_le_of_lt (Nat.shiftRight_le _ _) hn
      have h1 : ((n >>> 8 : Nat) : Int) / (256 : Int) = ((n >>> 16 : Nat) : Int) := sh_step n 8
      have h2 : Value.int .u8 (((n >>> 8 : Nat) : Int) % 256) = u8v n 8 := u8_step n 8
      simp only [Nat.reduceMul]
      generalize n >>> 8 = N at hb h1 h2 ⊢
      have H1 := Lib.hid h1
      have H2 := Lib.hid h2
      clear h1 h2
      go_wp2_with fail
      exact ⟨⟨2, by omega, by go_num, by rw [H1.out], by rw [H2.out]; rfl⟩, by simp [intOf]⟩
    · have hb : n >>> 16 < 9223372036854775808 := Nat.lt_of_le_of_lt (Nat.shiftRight_le _ _) hn
      have h1 : ((n >>> 16 : Nat) : Int) / (256 : Int) = ((n >>> 24 : Nat) : Int) := sh_step n 16
      have h2 : Value.int .u8 (((n >>> 16 : Nat) : Int) % 256) = u8v n 16 := u8_step n 16
      simp only [Nat.reduceMul]
      generalize n >>> 16 = N at hb h1 h2 ⊢
      have H1 := Lib.hid h1
      have H2 := Lib.hid h2
      clear h1 h2
      go_wp2_with fail
      exact ⟨⟨3, by omega, by go_num, by rw [H1.out], by rw [H2.out]; rfl⟩, by simp [intOf]⟩
    · have hb : n >>> 24 < 9223372036854775808 := Nat.lt_of_le_of_lt (Nat.shiftRight_le _ _) hn
      have h1 : ((n >>> 24 : Nat) : Int) / (256 : Int) = ((n >>> 32 : Nat) : Int) := sh_step n 24
      have h2 : Value.int .u8 (((n >>> 24 : Nat) : Int) % 256) = u8v n 24 := u8_step n 24
      simp only [Nat.reduceMul]
      generalize n >>> 24 = N at hb h1 h2 ⊢
      have H1 := Lib.hid h1
      have H2 := Lib.hid h2
      clear h1 h2
      go_wp2_with fail
      exact ⟨⟨4, by omega, by go_num, by rw [H1.out], by rw [H2.out]; rfl⟩, by simp [intOf]⟩
    · have hb : n >>> 32 < 9223372036854775808 := Nat.lt_of_le_of_lt (Nat.shiftRight_le _ _) hn
      have h1 : ((n >>> 32 : Nat) : Int) / (256 : Int) = ((n >>> 40 : Nat) : Int) := sh_step n 32
      have h2 : Value.int .u8 (((n >>> 32 : Nat) : Int) % 256) = u8v n 32 := u8_step n 32
      simp only [Nat.reduceMul]
      generalize n >>> 32 = N at hb h1 h2 ⊢
      have H1 := Lib.hid h1
      have H2 := Lib.hid h2
      clear h1 h2
      go_wp2_with fail
      exact ⟨⟨5, by omega, by go_num, by rw [H1.out], by rw [H2.out]; rfl⟩, by simp [intOf]⟩
    · have hb : n >>> 40 < 9223372036854775808 := Nat.lt_of_le_of_lt (Nat.shiftRight_le _ _) hn
      have h1 : ((n >>> 40 : Nat) : Int) / (256 : Int) = ((n >>> 48 : Nat) : Int) := sh_step n 40
      have h2 : Value.int .u8 (((n >>> 40 : Nat) : Int) % 256) = u8v n 40 := u8_step n 40
      simp only [Nat.reduceMul]
      generalize n >>> 40 = N at hb h1 h2 ⊢
      have H1 := Lib.hid h1
      have H2 := Lib.hid h2
      clear h1 h2
      go_wp2_with fail
      exact ⟨⟨6, by omega, by go_num, by rw [H1.out], by rw [H2.out]; rfl⟩, by simp [intOf]⟩
    · have hb : n >>> 48 < 9223372036854775808 := Nat.lt_of_le_of_lt (Nat.shiftRight_le _ _) hn
      have h1 : ((n >>> 48 : Nat) : Int) / (256 : Int) = ((n >>> 56 : Nat) : Int) := sh_step n 48
      have h2 : Value.int .u8 (((n >>> 48 : Nat) : Int) % 256) = u8v n 48 := u8_step n 48
      simp only [Nat.reduceMul]
      generalize n >>> 48 = N at hb h1 h2 ⊢
      have H1 := Lib.hid h1
      have H2 := Lib.hid h2
      clear h1 h2
      go_wp2_with fail
      exact ⟨⟨7, by omega, by go_num, by rw [H1.out], by rw [H2.out]; rfl⟩, by simp [intOf]⟩
    · have hb : n >>> 56 < 9223372036854775808 := Nat.lt_of_le_of_lt (Nat.shiftRight_le _ _) hn
      have h1 : ((n >>> 56 : Nat) : Int) / (256 : Int) = ((n >>> 64 : Nat) : Int) := sh_step n 56
      have h2 : Value.int .u8 (((n >>> 56 : Nat) : Int) % 256) = u8v n 56 := u8_step n 56
      simp only [Nat.reduceMul]
      generalize n >>> 56 = N at hb h1 h2 ⊢
      have H1 := Lib.hid h1
      have H2 := Lib.hid h2
      clear h1 h2
      go_wp2_with fail
      exact ⟨⟨8, by omega, by go_num, by rw [H1.out], by rw [H2.out]; rfl⟩, by simp [intOf]⟩
    · have hcv := conv_e8 n w
      go_wp2_with fail
      go_ret
      exact ⟨rfl, World.grownBy_alloc w _ none⟩

theorem dx_ref (x : Nat) (c : UInt8) : ((69621 : Int) * x + (c.toNat : Int) + 1) % 2147483647 = (sx x c : Nat) := by
  unfold sx; omega
theorem dy_ref (x : Nat) (c : UInt8) : ((45991 : Int) * x + (c.toNat : Int) + 1) % 2147483629 = (sy x c : Nat) := by
  unfold sy; omega
set_option maxRecDepth 100000 in
set_option maxHeartbeats 1000000 in
/-- the reference's Of -/
theorem of_r (p : Str) (hl : p.length ≤ 4611686018427387904) (w : World) : Calls Tryd.prog 56 #[.string ⟨p.toArray⟩] w fun e w' => e = .returned (.string ⟨(dg p).toArray⟩) ∧ w.grownBy w' none := by
  go_enter Tryd.func56, Tryd.ntmps56
  go_wp2_with fail
  go_loop [3, 4, 5] (fun x y i => ∃ m : Nat, m ≤ p.length ∧ i = .int .i64 m ∧ x = .int .i64 (dx (p.take m) : Nat) ∧ y = .int .i64 (dy (p.take m) : Nat)) (fun _ _ i => p.length - (intOf i).toNat)
  case atStart => exact ⟨0, Nat.zero_le _, rfl, rfl, rfl⟩
  case round =>
    obtain ⟨m, hm, rfl, rfl, rfl⟩ := hrel
    by_cases hmt : m < p.length
    · have HM := Lib.hid (take_one p m p[m] (List.getElem?_eq_getElem hmt))
      have h1 := dx_lt (p.take m)
      have h2 := dy_lt (p.take m)
      have HX := Lib.hid (dx_snoc (p.take m) p[m])
      have HY := Lib.hid (dy_snoc (p.take m) p[m])
      have h3 : p[m].toNat < 256 := UInt8.toNat_lt _
      generalize dx (p.take m) = X at h1 HX ⊢
      generalize dy (p.take m) = Y at h2 HY ⊢
      go_wp2_with fail
      refine ⟨⟨m + 1, by omega, by go_num, ret_i64 ?_, ret_i64 ?_⟩, by simp [intOf]; omega⟩
      · rw [HM.out, HX.out, ← dx_ref]
      · rw [HM.out, HY.out, ← dy_ref]
    · have HE : Hid (p.take m = p) := Lib.hid (List.take_of_length_le (by omega))
      rw [HE.out]
      have h1 := dx_lt p
      have h2 := dy_lt p
      have g00 := World.grownBy.refl w none
      have l1 : (be (dx p) 8).length = 8 := be_len _ _
      have l2 : (be (dy p) 8).length = 8 := be_len _ _
      go_wp2_with fail
      refine wp_region_noPanic ?_
      refine wp_region_held_drew (S := (fun w' => w.grownBy w' none)) (by kernel_rfl) ?_ (fun hHeld => ?_)
      · (try dsimp only); (first | assumption | exact World.grownBy.refl _ _ | (exact grown_dr (by assumption)))
      refine wpAnyH_take (i := 0) (oi := _) (v := ?_) rfl (by kernel_rfl) (by kernel_rfl) (by kernel_rfl) (fun _ _ _ h => h) (Or.inl ⟨by rfl, ?_⟩) (by assumption) ?_
      rotate_left 1
      · (intro w hSw; (try dsimp only at hSw); go_simp; first | done | with_reducible rfl)
      try go_simp
      refine wpAnyH_take (i := 3) (oi := _) (v := ?_) rfl (by kernel_rfl) (by kernel_rfl) (by kernel_rfl) (fun _ _ _ h => h) (Or.inl ⟨by rfl, ?_⟩) (by assumption) ?_
      rotate_left 1
      · (intro w hSw; (try dsimp only at hSw); go_simp; first | done | with_reducible rfl)
      try go_simp
      refine wpAnyH_ready (rs := [1]) (by kernel_rfl) (by simp) ?_
      refine AllReadyH.cons (o := _) rfl (fun K hK => ?_) AllReadyH.nil
      go_simp
      refine (eight_r (dx p) (by omega) _).mono ?_
      rintro e w5 ⟨rfl, g5⟩
      have g05 := World.grownBy.trans (a := w) (by first | assumption | exact World.grownBy.refl _ _) g5
      first | (refine hK.out _ _ ?_ (fun hHeld => ?_)) | (go_wp2_with fail; refine hK.out _ _ ?_ (fun hHeld => ?_))
      · (try dsimp only); (first | assumption | exact World.grownBy.refl _ _ | (exact grown_dr (by assumption)))
      clear hK K
      refine wpAnyH_take (i := 2) (oi := _) (v := ?_) rfl (by kernel_rfl) (by kernel_rfl) (by kernel_rfl) (fun _ _ _ h => h) (Or.inl ⟨by rfl, ?_⟩) (by assumption) ?_
      rotate_left 1
      · (intro w hSw; (try dsimp only at hSw); go_simp; first | done | with_reducible rfl)
      try go_simp
      refine wpAnyH_ready (rs := [4]) (by kernel_rfl) (by simp) ?_
      refine AllReadyH.cons (o := _) rfl (fun K hK => ?_) AllReadyH.nil
      go_simp
      refine (eight_r (dy p) (by omega) _).mono ?_
      rintro e w6 ⟨rfl, g6⟩
      have g06 := World.grownBy.trans (a := w) (by first | assumption | exact World.grownBy.refl _ _) g6
      first | (refine hK.out _ _ ?_ (fun hHeld => ?_)) | (go_wp2_with fail; refine hK.out _ _ ?_ (fun hHeld => ?_))
      · (try dsimp only); (first | assumption | exact World.grownBy.refl _ _ | (exact grown_dr (by assumption)))
      clear hK K
      refine wpAnyH_take (i := 5) (oi := _) (v := ?_) rfl (by kernel_rfl) (by kernel_rfl) (by kernel_rfl) (fun _ _ _ h => h) (Or.inl ⟨by rfl, ?_⟩) (by assumption) ?_
      rotate_left 1
      · (intro w hSw; (try dsimp only at hSw); go_simp; first | done | with_reducible rfl)
      try go_simp
      refine wpAnyH_take (i := 6) (oi := _) (v := ?_) rfl (by kernel_rfl) (by kernel_rfl) (by kernel_rfl) (fun _ _ _ h => h) (Or.inl ⟨by rfl, ?_⟩) (by assumption) ?_
      rotate_left 1
      · (intro w hSw; (try dsimp only at hSw); go_simp; first | done | with_reducible rfl)
      try go_simp
      refine wpAnyH_take (i := 7) (oi := _) (v := ?_) rfl (by kernel_rfl) (by kernel_rfl) (by kernel_rfl) (fun _ _ _ h => h) (Or.inl ⟨by rfl, ?_⟩) (by assumption) ?_
      rotate_left 1
      · (intro w hSw; (try dsimp only at hSw); go_simp; first | done | with_reducible rfl)
      try go_simp
      refine wpAnyH_done (by kernel_rfl) ?_ _
      refine NoPanic.normal ?_
      go_simp
      go_wp2_with fail
      go_ret
      exact ⟨ret_str (by rw [str_app]; rfl), by assumption⟩

set_option maxRecDepth 100000 in
/-- the reference's Mark -/
theorem mark_r (a b : Str) (ha : a.length ≤ 1152921504606846976) (hb : b.length ≤ 1152921504606846976) (w : World) :
    Calls Tryd.prog 44 #[.string ⟨a.toArray⟩, .string ⟨b.toArray⟩] w fun e w' => e = .returned (.string ⟨(mark a b).toArray⟩) ∧ w.grownBy w' none := by
  have hl : ([2] ++ be a.length 8 ++ a ++ b ++ a).length ≤ 4611686018427387904 := by
    simp [be_len]; omega
  have l1 : (be a.length 8).length = 8 := be_len _ _
  go_enter Tryd.func44, Tryd.ntmps44
  go_wp2_with fail
  refine (eight_r a.length (by omega) w).mono ?_
  rintro e w1 ⟨rfl, g1⟩
  go_wp2_with fail
  have HO := of_r _ hl w1
  rw [← str_app, ← str_app, ← str_app, ← str_app] at HO
  refine HO.mono ?_
  rintro e w2 ⟨rfl, g2⟩
  go_wp2_with fail
  go_ret
  exact ⟨ret_str (by simp [mark]), g1.trans g2⟩
set_option maxRecDepth 100000 in
/-- the reference's Check -/
theorem check_r (a b m : Str) (ha : a.length ≤ 1152921504606846976) (hb : b.length ≤ 1152921504606846976) (w : World) :
    Calls Tryd.prog 46 #[.string ⟨a.toArray⟩, .string ⟨b.toArray⟩, .string ⟨m.toArray⟩] w fun e w' => e = .returned (.bool (a != [] && m == mark a b)) ∧ w.grownBy w' none := by
  by_cases h0 : a = []
  · subst h0
    go_enter Tryd.func46, Tryd.ntmps46
    go_wp2_with fail
    go_ret
    exact ⟨rfl, World.grownBy.refl _ _⟩
  · have h1 : (a != []) = true := by simpa using h0
    rw [h1, Bool.true_and]
    have h2 : a.isEmpty = false := by simpa using h0
    clear h0 h1
    go_enter Tryd.func46, Tryd.ntmps46
    go_wp2_with fail
    refine (mark_r a b ha hb w).mono ?_
    rintro e w1 ⟨rfl, g1⟩
    go_wp2_with fail
    go_ret
    exact ⟨rfl, g1⟩
end Go.Proofs.YtecobgjkodmaiaaDoor
