/-
  digest.least and digest.Sorted, by their contracts.
-/
import Derived.Test.YtljjmoeplfcblaaVerify
namespace Go.Proofs.Ytljjmoeplfcblaa
open Go.RowKit Go.Shelf
attribute [local go_sem] get_mk extract_mk

/-- how many strings at the beginning are less than s -/
def leastD (l : List Str) (s : Str) : Nat := (l.takeWhile (fun x => Op.bytesLess x s)).length
theorem tw_all {p : Str → Bool} : ∀ (l : List Str), (∀ x ∈ l, p x = true) → (l.takeWhile p).length = l.length
  | [], _ => rfl
  | a :: l, h => by
    rw [List.takeWhile_cons, if_pos (h a List.mem_cons_self), List.length_cons, List.length_cons, tw_all l (fun x hx => h x (List.mem_cons_of_mem _ hx))]
theorem tw_at {p : Str → Bool} : ∀ (l : List Str) (k : Nat) (x : Str), (∀ y ∈ l.take k, p y = true) → l[k]? = some x → p x = false → (l.takeWhile p).length = k
  | [], k, x, _, h, _ => by simp at h
  | a :: l, 0, x, _, h, hx => by
    have : a = x := by simpa using h
    subst this
    rw [List.takeWhile_cons, if_neg (by rw [hx]; simp)]
    rfl
  | a :: l, k + 1, x, ha, h, hx => by
    rw [List.takeWhile_cons, if_pos (ha a (by simp)), List.length_cons, tw_at l k x (fun y hy => ha y (by simp [hy])) (by simpa using h) hx]
def sortedB : List Str → Bool
  | a :: b :: r => Op.bytesLess a b && sortedB (b :: r)
  | _ => true
theorem sorted_snoc : ∀ (l : List Str) (a b : Str), sortedB (l ++ [a, b]) = (sortedB (l ++ [a]) && Op.bytesLess a b)
  | [], a, b => by simp [sortedB]
  | [c], a, b => by simp [sortedB]
  | c :: d :: r, a, b => by
    have := sorted_snoc (d :: r) a b
    simp only [List.cons_append, sortedB] at this ⊢
    rw [this, Bool.and_assoc]
theorem sorted_take (l : List Str) (k : Nat) (a b : Str) (ha : l[k]? = some a) (hb : l[k + 1]? = some b) : sortedB (l.take (k + 2)) = (sortedB (l.take (k + 1)) && Op.bytesLess a b) := by
  rw [take_one l (k + 1) b hb, take_one l k a ha, List.append_assoc]
  exact sorted_snoc _ a b
theorem sorted_pre : ∀ (l t : List Str), sortedB (l ++ t) = true → sortedB l = true
  | [], _, _ => rfl
  | [a], _, _ => rfl
  | a :: b :: r, t, h => by
    simp only [List.cons_append, sortedB, Bool.and_eq_true] at h ⊢
    exact ⟨h.1, sorted_pre (b :: r) t h.2⟩

set_option maxHeartbeats 1000000 in
/-- digest.least -/
theorem least_k (A : Option Addr) (n c : Nat) (l : List Str) (s : Str) (w : World) (hl : Strs w A n c l) :
    Calls Try.prog 54 #[.slice A n c, .string ⟨s.toArray⟩] w fun e w' => e = .returned (.int .i64 (leastD l s : Nat)) ∧ w.grownBy w' none := by
  have hlen := Lib.hid hl.len
  have HL := Lib.hid (fun w' (g : w.grownBy w' none) => hl.kept g)
  have hcap := hl.cap
  have hle := hl.le
  clear hl
  go_enter Try.func54, Try.ntmps54
  go_wp2_with fail
  go_loopw [9] (fun z wr => ∃ k : Nat, k ≤ n ∧ z = .int .i64 k ∧ (∀ y ∈ l.take k, Op.bytesLess y s = true) ∧ w.grownBy wr none) (fun z _ => n - (intOf z).toNat)
  case atStart => exact ⟨0, Nat.zero_le _, rfl, (fun y hy => by simp at hy), World.grownBy.refl _ _⟩
  case round =>
    obtain ⟨k, hk, rfl, ha, hg⟩ := hrel
    by_cases hlt : k < n
    · obtain ⟨x, hx⟩ : ∃ x, l[k]? = some x := ⟨_, List.getElem?_eq_getElem (by have := hlen.out; omega)⟩
      obtain ⟨ad, rfl, _, hc⟩ := (HL.out _ hg).cell (by omega)
      have hcx := hc k x hx
      have r1 : (0 : Int) ≤ (k : Int) := by omega
      have r2 : (k : Int) < (n : Int) := by omega
      clear hc
      cases hb : Op.bytesLess x s with
      | true =>
        have HA : Hid (∀ y ∈ l.take (k + 1), Op.bytesLess y s = true) := Lib.hid (fun y hy => by
          rw [take_one l k x hx] at hy
          rcases List.mem_append.1 hy with h | h
          · exact ha y h
          · rw [List.mem_singleton] at h; rw [h, hb])
        clear ha hx
        go_wp2_with fail
        exact ⟨⟨k + 1, by omega, by go_num, HA.out, hg⟩, by simp [intOf]; omega⟩
      | false =>
        have HE := Lib.hid (tw_at l k x ha hx hb)
        clear ha hx
        go_wp2_with fail
        go_ret
        exact ⟨by rw [leastD, HE.out]; rfl, hg⟩
    · have HE : Hid (leastD l s = n) := Lib.hid (by
        have := hlen.out
        rw [List.take_of_length_le (by omega)] at ha
        rw [leastD, tw_all l ha, ← this])
      clear ha
      go_wp2_with fail
      go_ret
      exact ⟨by rw [HE.out]; rfl, hg⟩
set_option maxHeartbeats 1000000 in
/-- digest.Sorted -/
theorem sorted_k (A : Option Addr) (n c : Nat) (l : List Str) (w : World) (hl : Strs w A n c l) :
    Calls Try.prog 24 #[.slice A n c] w fun e w' => e = .returned (.bool (sortedB l)) ∧ w.grownBy w' none := by
  have hlen := Lib.hid hl.len
  have HL := Lib.hid (fun w' (g : w.grownBy w' none) => hl.kept g)
  have hcap := hl.cap
  have hle := hl.le
  clear hl
  go_enter Try.func24, Try.ntmps24
  go_wp2_with fail
  go_loopw [3] (fun z wr => ∃ k : Nat, k ≤ n ∧ z = .int .i64 ((k : Int) + 1) ∧ sortedB (l.take (k + 1)) = true ∧ w.grownBy wr none) (fun z _ => n + 1 - (intOf z).toNat)
  case atStart => exact ⟨0, Nat.zero_le _, rfl, (by cases l <;> rfl), World.grownBy.refl _ _⟩
  case round =>
    obtain ⟨k, hk, rfl, ha, hg⟩ := hrel
    by_cases hlt : k + 1 < n
    · obtain ⟨x, hx⟩ : ∃ x, l[k]? = some x := ⟨_, List.getElem?_eq_getElem (by have := hlen.out; omega)⟩
      obtain ⟨y, hy⟩ : ∃ y, l[k + 1]? = some y := ⟨_, List.getElem?_eq_getElem (by have := hlen.out; omega)⟩
      obtain ⟨ad, rfl, _, hc⟩ := (HL.out _ hg).cell (by omega)
      have hcx := hc k x hx
      have hcy := hc (k + 1) y hy
      have r1 : (0 : Int) ≤ (k : Int) := by omega
      have r2 : (k : Int) < (n : Int) := by omega
      have r3 : (k : Int) + 1 < (n : Int) := by omega
      have r4 : (0 : Int) ≤ (k : Int) + 1 := by omega
      have r5 : IntKind.i64.wrap (k : Int) = (k : Int) := by rw [IntKind.wrap_i64]; omega
      have r6 : IntKind.i64.wrap ((k : Int) + 1 + 1) = (k : Int) + 1 + 1 := by rw [IntKind.wrap_i64]; omega
      have r7 : ((k : Int) + 1).toNat = k + 1 := by omega
      have HT := Lib.hid (sorted_take l k x y hx hy)
      clear hc
      cases hb : Op.bytesLess x y with
      | true =>
        have HA : Hid (sortedB (l.take (k + 1 + 1)) = true) := Lib.hid (by rw [HT.out, ha, hb]; rfl)
        clear ha hx hy
        go_wp2_with fail
        refine wp_region_noPanic ?_
        refine wp_region_held_drew (S := (fun w' => w'.cell? (ad.add k) = some (.string ⟨x.toArray⟩) ∧ w'.cell? (ad.add (k + 1)) = some (.string ⟨y.toArray⟩))) (by kernel_rfl) ?_ (fun hHeld => ?_)
        · (try dsimp only); (first | assumption | exact ⟨hcx, hcy⟩)
        refine wpAnyH_take (i := 0) (oi := _) (v := ?_) rfl (by kernel_rfl) (by kernel_rfl) (by kernel_rfl) (fun _ _ _ h => h) (Or.inl ⟨by rfl, ?_⟩) (by assumption) ?_
        rotate_left 1
        · (intro w hSw; (try dsimp only at hSw); go_simp; first | done | with_reducible rfl)
        try go_simp
        refine wpAnyH_take (i := 1) (oi := _) (v := ?_) rfl (by kernel_rfl) (by kernel_rfl) (by kernel_rfl) (fun _ _ _ h => h) (Or.inl ⟨by rfl, ?_⟩) (by assumption) ?_
        rotate_left 1
        · (intro w hSw; (try dsimp only at hSw); go_simp; first | done | with_reducible rfl)
        try go_simp
        refine wpAnyH_take (i := 2) (oi := _) (v := ?_) rfl (by kernel_rfl) (by kernel_rfl) (by kernel_rfl) (fun _ _ _ h => h) (Or.inl ⟨by rfl, ?_⟩) (by assumption) ?_
        rotate_left 1
        · (intro w hSw; (try dsimp only at hSw); go_simp; first | done | with_reducible rfl)
        try go_simp
        refine wpAnyH_take (i := 3) (oi := _) (v := ?_) rfl (by kernel_rfl) (by kernel_rfl) (by kernel_rfl) (fun _ _ _ h => h) (Or.inl ⟨by rfl, ?_⟩) (by assumption) ?_
        rotate_left 1
        · (intro w hSw; (try dsimp only at hSw); go_simp; first | done | with_reducible rfl)
        try go_simp
        refine wpAnyH_take (i := 4) (oi := _) (v := ?_) rfl (by kernel_rfl) (by kernel_rfl) (by kernel_rfl) (fun _ _ _ h => h) (Or.inl ⟨by rfl, ?_⟩) (by assumption) ?_
        rotate_left 1
        · (intro w hSw; (try dsimp only at hSw); go_simp; first | done | with_reducible rfl)
        try go_simp
        refine wpAnyH_take (i := 5) (oi := _) (v := ?_) rfl (by kernel_rfl) (by kernel_rfl) (by kernel_rfl) (fun _ _ _ h => h) (Or.inl ⟨by rfl, ?_⟩) (by assumption) ?_
        rotate_left 1
        · (intro w hSw; (try dsimp only at hSw); go_simp; first | done | with_reducible rfl)
        try go_simp
        refine wpAnyH_take (i := 6) (oi := _) (v := ?_) rfl (by kernel_rfl) (by kernel_rfl) (by kernel_rfl) (fun _ _ _ h => h) (Or.inl ⟨by rfl, ?_⟩) (by assumption) ?_
        rotate_left 1
        · (intro w hSw; (try dsimp only at hSw); go_simp; first | done | with_reducible rfl)
        try go_simp
        refine wpAnyH_take (i := 7) (oi := _) (v := ?_) rfl (by kernel_rfl) (by kernel_rfl) (by kernel_rfl) (fun _ _ _ h => h) (Or.inl ⟨by rfl, ?_⟩) (by assumption) ?_
        rotate_left 1
        · (intro w hSw; (try dsimp only at hSw); go_simp; first | done | with_reducible rfl)
        try go_simp
        refine wpAnyH_take (i := 8) (oi := _) (v := ?_) rfl (by kernel_rfl) (by kernel_rfl) (by kernel_rfl) (fun _ _ _ h => h) (Or.inl ⟨by rfl, ?_⟩) (by assumption) ?_
        rotate_left 1
        · (intro w hSw; (try dsimp only at hSw); go_simp; first | done | with_reducible rfl)
        try go_simp
        refine wpAnyH_take (i := 9) (oi := _) (v := ?_) rfl (by kernel_rfl) (by kernel_rfl) (by kernel_rfl) (fun _ _ _ h => h) (Or.inl ⟨by rfl, ?_⟩) (by assumption) ?_
        rotate_left 1
        · (intro w hSw; (try dsimp only at hSw); go_simp; first | done | with_reducible rfl)
        try go_simp
        refine wpAnyH_done (by kernel_rfl) ?_ _
        refine NoPanic.normal ?_
        go_simp
        go_wp2_with fail
        exact ⟨⟨k + 1, by omega, by simp, HA.out, grown_dr hg⟩, by simp [intOf]; omega⟩
      | false =>
        have HE : Hid (sortedB l = false) := Lib.hid (by
          have h1 : sortedB (l.take (k + 2)) = false := by rw [HT.out, hb, Bool.and_false]
          cases h2 : sortedB l with
          | false => rfl
          | true =>
            have := sorted_pre (l.take (k + 2)) (l.drop (k + 2)) (by rw [List.take_append_drop]; exact h2)
            rw [h1] at this; cases this)
        clear ha hx hy
        go_wp2_with fail
        refine wp_region_noPanic ?_
        refine wp_region_held_drew (S := (fun w' => w'.cell? (ad.add k) = some (.string ⟨x.toArray⟩) ∧ w'.cell? (ad.add (k + 1)) = some (.string ⟨y.toArray⟩))) (by kernel_rfl) ?_ (fun hHeld => ?_)
        · (try dsimp only); (first | assumption | exact ⟨hcx, hcy⟩)
        refine wpAnyH_take (i := 0) (oi := _) (v := ?_) rfl (by kernel_rfl) (by kernel_rfl) (by kernel_rfl) (fun _ _ _ h => h) (Or.inl ⟨by rfl, ?_⟩) (by assumption) ?_
        rotate_left 1
        · (intro w hSw; (try dsimp only at hSw); go_simp; first | done | with_reducible rfl)
        try go_simp
        refine wpAnyH_take (i := 1) (oi := _) (v := ?_) rfl (by kernel_rfl) (by kernel_rfl) (by kernel_rfl) (fun _ _ _ h => h) (Or.inl ⟨by rfl, ?_⟩) (by assumption) ?_
        rotate_left 1
        · (intro w hSw; (try dsimp only at hSw); go_simp; first | done | with_reducible rfl)
        try go_simp
        refine wpAnyH_take (i := 2) (oi := _) (v := ?_) rfl (by kernel_rfl) (by kernel_rfl) (by kernel_rfl) (fun _ _ _ h => h) (Or.inl ⟨by rfl, ?_⟩) (by assumption) ?_
        rotate_left 1
        · (intro w hSw; (try dsimp only at hSw); go_simp; first | done | with_reducible rfl)
        try go_simp
        refine wpAnyH_take (i := 3) (oi := _) (v := ?_) rfl (by kernel_rfl) (by kernel_rfl) (by kernel_rfl) (fun _ _ _ h => h) (Or.inl ⟨by rfl, ?_⟩) (by assumption) ?_
        rotate_left 1
        · (intro w hSw; (try dsimp only at hSw); go_simp; first | done | with_reducible rfl)
        try go_simp
        refine wpAnyH_take (i := 4) (oi := _) (v := ?_) rfl (by kernel_rfl) (by kernel_rfl) (by kernel_rfl) (fun _ _ _ h => h) (Or.inl ⟨by rfl, ?_⟩) (by assumption) ?_
        rotate_left 1
        · (intro w hSw; (try dsimp only at hSw); go_simp; first | done | with_reducible rfl)
        try go_simp
        refine wpAnyH_take (i := 5) (oi := _) (v := ?_) rfl (by kernel_rfl) (by kernel_rfl) (by kernel_rfl) (fun _ _ _ h => h) (Or.inl ⟨by rfl, ?_⟩) (by assumption) ?_
        rotate_left 1
        · (intro w hSw; (try dsimp only at hSw); go_simp; first | done | with_reducible rfl)
        try go_simp
        refine wpAnyH_take (i := 6) (oi := _) (v := ?_) rfl (by kernel_rfl) (by kernel_rfl) (by kernel_rfl) (fun _ _ _ h => h) (Or.inl ⟨by rfl, ?_⟩) (by assumption) ?_
        rotate_left 1
        · (intro w hSw; (try dsimp only at hSw); go_simp; first | done | with_reducible rfl)
        try go_simp
        refine wpAnyH_take (i := 7) (oi := _) (v := ?_) rfl (by kernel_rfl) (by kernel_rfl) (by kernel_rfl) (fun _ _ _ h => h) (Or.inl ⟨by rfl, ?_⟩) (by assumption) ?_
        rotate_left 1
        · (intro w hSw; (try dsimp only at hSw); go_simp; first | done | with_reducible rfl)
        try go_simp
        refine wpAnyH_take (i := 8) (oi := _) (v := ?_) rfl (by kernel_rfl) (by kernel_rfl) (by kernel_rfl) (fun _ _ _ h => h) (Or.inl ⟨by rfl, ?_⟩) (by assumption) ?_
        rotate_left 1
        · (intro w hSw; (try dsimp only at hSw); go_simp; first | done | with_reducible rfl)
        try go_simp
        refine wpAnyH_take (i := 9) (oi := _) (v := ?_) rfl (by kernel_rfl) (by kernel_rfl) (by kernel_rfl) (fun _ _ _ h => h) (Or.inl ⟨by rfl, ?_⟩) (by assumption) ?_
        rotate_left 1
        · (intro w hSw; (try dsimp only at hSw); go_simp; first | done | with_reducible rfl)
        try go_simp
        refine wpAnyH_done (by kernel_rfl) ?_ _
        refine NoPanic.normal ?_
        go_simp
        go_wp2_with fail
        go_ret
        exact ⟨by rw [HE.out]; rfl, grown_dr hg⟩
    · have HE : Hid (sortedB l = true) := Lib.hid (by rw [List.take_of_length_le (by have := hlen.out; omega)] at ha; exact ha)
      have r3 : (n : Int) ≤ (k : Int) + 1 := by omega
      clear ha
      go_wp2_with fail
      go_ret
      exact ⟨by rw [HE.out]; rfl, hg⟩
end Go.Proofs.Ytljjmoeplfcblaa
