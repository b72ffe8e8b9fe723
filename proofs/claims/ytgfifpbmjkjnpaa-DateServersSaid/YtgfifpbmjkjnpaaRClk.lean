/-
  The reference's clocks, by their contracts.
-/
import Derived.Test.YtgfifpbmjkjnpaaSane
namespace Go.Proofs.Ytgfifpbmjkjnpaa
open Go.RowKit
theorem less_r (d c s x y z : Int) (w : World) : Calls Try.prog 33 #[.agg #[.int .i64 d, .int .i64 c, .int .i64 s], .agg #[.int .i64 x, .int .i64 y, .int .i64 z]] w fun e w' => e = .returned (.bool (lessB d c s x y z)) ∧ w.grownBy w' none := by
  by_cases h1 : d = x
  · subst h1
    by_cases h2 : c = y
    · subst h2
      have hl : lessB d c s d c z = decide (s < z) := by unfold lessB; congr 1; simp
      rw [hl]
      go_enter Try.func33, Try.ntmps33
      go_wp2_with fail
      go_ret
      exact ⟨rfl, grown_al (World.grownBy_alloc w _ none)⟩
    · have hl : lessB d c s d y z = decide (c < y) := by unfold lessB; congr 1; simp [h2]
      rw [hl]
      have h3 : (c != y) = true := by simpa using h2
      have h4 : (c == y) = false := by simpa using h2
      clear h2 hl
      go_enter Try.func33, Try.ntmps33
      go_wp2_with fail
      go_ret
      exact ⟨rfl, grown_al (World.grownBy_alloc w _ none)⟩
  · have hl : lessB d c s x y z = decide (d < x) := by unfold lessB; congr 1; simp [h1]
    rw [hl]
    have h3 : (d != x) = true := by simpa using h1
    have h4 : (d == x) = false := by simpa using h1
    clear h1 hl
    go_enter Try.func33, Try.ntmps33
    go_wp2_with fail
    go_ret
    exact ⟨rfl, grown_al (World.grownBy_alloc w _ none)⟩
theorem rnew_k (n : Int) (hn : serverB n = true) (w : World) : Calls Try.prog 26 #[.int .i64 n] w fun e w' => e = .returned (.pointer (some ⟨w.heap.size, 0, none⟩)) ∧ w' = w.alloc (.cells #[.int .i64 n, .int .i64 0, .int .i64 (-1), .int .i64 0] 63) := by
  have h : 1 ≤ n ∧ n ≤ 8 := by simpa [serverB] using hn
  obtain ⟨h1, h2⟩ := h
  clear hn
  go_enter Try.func26, Try.ntmps26
  go_wp2_with fail
  go_ret
  exact ⟨rfl, rfl⟩
theorem rnew_no (n : Int) (hn : serverB n = false) (w : World) : Calls Try.prog 26 #[.int .i64 n] w fun e w' => e = .returned (.pointer none) ∧ w = w' := by
  have h : ¬ (1 ≤ n ∧ n ≤ 8) := by simpa [serverB] using hn
  clear hn
  by_cases h1 : 1 ≤ n
  · have h2 : 8 < n := by omega
    clear h
    go_enter Try.func26, Try.ntmps26
    go_wp2_with fail
    go_ret
    exact ⟨rfl, rfl⟩
  · clear h
    go_enter Try.func26, Try.ntmps26
    go_wp2_with fail
    go_ret
    exact ⟨rfl, rfl⟩
theorem Ck.rnew (w : World) (n : Int) : Ck 63 (w.alloc (.cells #[.int .i64 n, .int .i64 0, .int .i64 (-1), .int .i64 0] 63)) w.heap.size n 0 (-1) 0 := World.alloc_heap_new w _
theorem rnow_nil (day : Int) (w : World) :
    Calls Try.prog 31 #[.pointer none, .int .i64 day] w fun e w' => e = .returned (.tuple #[.agg #[.int .i64 0, .int .i64 0, .int .i64 0], .int .i64 1]) ∧ w.grownBy w' none := by
  go_enter Try.func31, Try.ntmps31
  go_wp2_with fail
  exact bodyPost_ret (v := .tuple #[.agg #[.int .i64 0, .int .i64 0, .int .i64 0], .int .i64 1]) (by simp [results, Try.results31, go_sem]) rfl ⟨rfl, World.grownBy_alloc w _ none⟩
theorem rhear_nil (p q r day : Int) (w : World) :
    Calls Try.prog 29 #[.pointer none, .agg #[.int .i64 p, .int .i64 q, .int .i64 r], .int .i64 day] w fun e w' => e = .returned (.int .i64 1) ∧ w.grownBy w' none := by
  go_enter Try.func29, Try.ntmps29
  go_wp2_with fail
  go_ret
  exact ⟨rfl, World.grownBy_alloc w _ none⟩
theorem rnow_bad (b : Nat) (sv d c s day : Int) (w : World) (h : Ck 63 w b sv d c s) (hs : (sv == 0) = false) (hr : rightB day = false) :
    Calls Try.prog 31 #[.pointer (some ⟨b, 0, none⟩), .int .i64 day] w fun e w' => e = .returned (.tuple #[.agg #[.int .i64 0, .int .i64 0, .int .i64 0], .int .i64 23]) ∧ w.grownBy w' none := by
  have c0 := h.c0
  have cl := h.lt
  have K := Lib.hid (right_r day)
  rw [hr] at K
  clear h
  go_enter Try.func31, Try.ntmps31
  go_wp2_with fail
  refine (K.out _).mono ?_
  rintro e w1 ⟨rfl, rfl⟩
  go_wp2_with fail
  exact bodyPost_ret (v := .tuple #[.agg #[.int .i64 0, .int .i64 0, .int .i64 0], .int .i64 23]) (by simp [results, Try.results31, go_sem]) rfl ⟨rfl, World.grownBy_alloc w _ none⟩
set_option maxRecDepth 100000 in
set_option maxHeartbeats 1000000 in
theorem rnow_a (b : Nat) (sv d c s day : Int) (w : World) (h : Ck 63 w b sv d c s) (hs : (sv == 0) = false) (hr : rightB day = true) (hc : -1 ≤ c) (hc2 : c ≤ 1073741824) (hd : d < day) :
    Calls Try.prog 31 #[.pointer (some ⟨b, 0, none⟩), .int .i64 day] w fun e w' => e = .returned (.tuple #[.agg #[.int .i64 day, .int .i64 0, .int .i64 sv], .int .i64 0]) ∧ Ck 63 w' b sv day 0 sv ∧ w.grownBy w' (some b) := by
  have c0 := h.c0
  have cl := h.lt
  have K := Lib.hid (right_r day)
  have hA := h.kept (World.grownBy_alloc w (.cells #[.int .i64 0, .int .i64 0, .int .i64 0] 39) none)
  have d0 := hA.c0
  have d1 := hA.c1
  have d2 := hA.c2
  have hA := Lib.hid hA
  rw [hr] at K
  clear hr h
  go_enter Try.func31, Try.ntmps31
  go_wp2_with fail
  refine (K.out _).mono ?_
  rintro e w1 ⟨rfl, rfl⟩
  go_wp2_with fail
  refine wp_region_noPanic ?_
  refine wp_region_held_drew (S := (fun w' => (w.alloc (.cells #[.int .i64 0, .int .i64 0, .int .i64 0] 39)).grownBy w' none)) (by kernel_rfl) ?_ (fun hHeld => ?_)
  · (try dsimp only); (repeat (first | exact World.grownBy.refl _ _ | refine grown_dr ?_ | refine grown_al ?_))
  refine wpAnyH_take (i := 0) (oi := _) (v := ?_) rfl (by kernel_rfl) (by kernel_rfl) (by kernel_rfl) (fun _ _ _ h => h) (Or.inl ⟨by rfl, ?_⟩) (by assumption) ?_
  rotate_left 1
  · (intro w hSw; (try dsimp only at hSw); go_simp; first | done | with_reducible rfl)
  try go_simp
  refine wpAnyH_take (i := 1) (oi := _) (v := ?_) rfl (by kernel_rfl) (by kernel_rfl) (by kernel_rfl) (fun _ _ _ h => h) (Or.inl ⟨by rfl, ?_⟩) (by assumption) ?_
  rotate_left 1
  · (intro w hSw; (try dsimp only at hSw); go_simp; first | done | with_reducible rfl)
  try go_simp
  refine wpAnyH_take (i := 2) (oi := _) (v := ?_) rfl (by kernel_rfl) (by kernel_rfl) (by kernel_rfl) (fun _ _ _ h => h) (Or.inl ⟨by rfl, ?_⟩) (by assumption) ?_
  rotate_left 1
  · (intro w hSw; (try dsimp only at hSw); go_simp; first | done | with_reducible rfl)
  try go_simp
  refine wpAnyH_take (i := 3) (oi := _) (v := ?_) rfl (by kernel_rfl) (by kernel_rfl) (by kernel_rfl) (fun _ _ _ h => h) (Or.inl ⟨by rfl, ?_⟩) (by assumption) ?_
  rotate_left 1
  · (intro w hSw; (try dsimp only at hSw); go_simp; first | done | with_reducible rfl)
  try go_simp
  refine wpAnyH_take (i := 4) (oi := _) (v := .int .i64 d) rfl (by kernel_rfl) (by kernel_rfl) (by kernel_rfl) (fun _ _ _ h => h) (Or.inl ⟨by kernel_rfl, ?_⟩) (by assumption) ?_
  · (intro w hSw; (try dsimp only at hSw); go_simp; have q0 := gcell hSw d1; clear hSw; go_simp; first | done | with_reducible rfl)
  try go_simp
  refine wpAnyH_take (i := 5) (oi := _) (v := ?_) rfl (by kernel_rfl) (by kernel_rfl) (by kernel_rfl) (fun _ _ _ h => h) (Or.inl ⟨by rfl, ?_⟩) (by assumption) ?_
  rotate_left 1
  · (intro w hSw; (try dsimp only at hSw); go_simp; first | done | with_reducible rfl)
  try go_simp
  refine wpAnyH_take (i := 6) (oi := _) (v := ?_) rfl (by kernel_rfl) (by kernel_rfl) (by kernel_rfl) (fun _ _ _ h => h) (Or.inl ⟨by rfl, ?_⟩) (by assumption) ?_
  rotate_left 1
  · (intro w hSw; (try dsimp only at hSw); go_simp; first | done | with_reducible rfl)
  try go_simp
  refine wpAnyH_take (i := 7) (oi := _) (v := ?_) rfl (by kernel_rfl) (by kernel_rfl) (by kernel_rfl) (fun _ _ _ h => h) (Or.inl ⟨by rfl, ?_⟩) (by assumption) ?_
  rotate_left 1
  · (intro w hSw; (try dsimp only at hSw); go_simp; first | done | with_reducible rfl)
  try go_simp
  refine wpAnyH_take (i := 8) (oi := _) (v := ?_) rfl (by kernel_rfl) (by kernel_rfl) (by kernel_rfl) (fun _ _ _ h => h) (Or.inl ⟨by rfl, ?_⟩) (by assumption) ?_
  rotate_left 1
  · (intro w hSw; (try dsimp only at hSw); go_simp; first | done | with_reducible rfl)
  try go_simp
  refine wpAnyH_take (i := 9) (oi := _) (v := .int .i64 c) rfl (by kernel_rfl) (by kernel_rfl) (by kernel_rfl) (fun _ _ _ h => h) (Or.inl ⟨by kernel_rfl, ?_⟩) (by assumption) ?_
  · (intro w hSw; (try dsimp only at hSw); go_simp; have q0 := gcell hSw d2; clear hSw; go_simp; first | done | with_reducible rfl)
  try go_simp
  refine wpAnyH_take (i := 10) (oi := _) (v := .int .i64 (c + 1)) rfl (by kernel_rfl) (by kernel_rfl) (by kernel_rfl) (fun _ _ _ h => h) (Or.inl ⟨by kernel_rfl, ?_⟩) (by assumption) ?_
  · (intro w hSw; (try dsimp only at hSw); go_simp; clear hSw; rw [IntKind.wrap_i64]; omega)
  try go_simp
  refine wpAnyH_take (i := 11) (oi := _) (v := ?_) rfl (by kernel_rfl) (by kernel_rfl) (by kernel_rfl) (fun _ _ _ h => h) (Or.inl ⟨by rfl, ?_⟩) (by assumption) ?_
  rotate_left 1
  · (intro w hSw; (try dsimp only at hSw); go_simp; first | done | with_reducible rfl)
  try go_simp
  refine wpAnyH_take (i := 12) (oi := _) (v := ?_) rfl (by kernel_rfl) (by kernel_rfl) (by kernel_rfl) (fun _ _ _ h => h) (Or.inl ⟨by rfl, ?_⟩) (by assumption) ?_
  rotate_left 1
  · (intro w hSw; (try dsimp only at hSw); go_simp; first | done | with_reducible rfl)
  try go_simp
  refine wpAnyH_take (i := 13) (oi := _) (v := ?_) rfl (by kernel_rfl) (by kernel_rfl) (by kernel_rfl) (fun _ _ _ h => h) (Or.inl ⟨by rfl, ?_⟩) (by assumption) ?_
  rotate_left 1
  · (intro w hSw; (try dsimp only at hSw); go_simp; first | done | with_reducible rfl)
  try go_simp
  refine wpAnyH_take (i := 14) (oi := _) (v := .int .i64 sv) rfl (by kernel_rfl) (by kernel_rfl) (by kernel_rfl) (fun _ _ _ h => h) (Or.inl ⟨by kernel_rfl, ?_⟩) (by assumption) ?_
  · (intro w hSw; (try dsimp only at hSw); go_simp; have q0 := gcell hSw d0; clear hSw; go_simp; first | done | with_reducible rfl)
  try go_simp
  refine wpAnyH_take (i := 15) (oi := _) (v := ?_) rfl (by kernel_rfl) (by kernel_rfl) (by kernel_rfl) (fun _ _ _ h => h) (Or.inl ⟨by rfl, ?_⟩) (by assumption) ?_
  rotate_left 1
  · (intro w hSw; (try dsimp only at hSw); go_simp; first | done | with_reducible rfl)
  try go_simp
  refine wpAnyH_ready (rs := [16]) (by kernel_rfl) (by simp) ?_
  refine AllReadyH.cons (o := _) rfl (fun K hK => ?_) ?_
  · clear hHeld
    go_simp
    first | (refine hK.out _ _ ?_ (fun hHeld => ?_)) | (go_wp2_with fail; refine hK.out _ _ ?_ (fun hHeld => ?_))
    · (try dsimp only); (repeat (first | exact World.grownBy.refl _ _ | refine grown_dr ?_ | refine grown_al ?_))
    clear hK K
    refine wpAnyH_ready (rs := [17]) (by kernel_rfl) (by simp) ?_
    refine AllReadyH.cons (o := _) rfl (fun K hK => ?_) ?_
    · clear hHeld
      go_simp
      first | (refine hK.out _ _ ?_ (fun hHeld => ?_)) | (go_wp2_with fail; refine hK.out _ _ ?_ (fun hHeld => ?_))
      · (try dsimp only); (repeat (first | exact World.grownBy.refl _ _ | refine grown_dr ?_ | refine grown_al ?_))
      clear hK K
      refine wpAnyH_done (by kernel_rfl) ?_ _
      refine NoPanic.normal ?_
      go_simp
      have HC := hA.out.kept hHeld
      have HS := (S3.new w 0 0 0).kept hHeld
      have HT := (S3.new (w.alloc (.cells #[.int .i64 0, .int .i64 0, .int .i64 0] 39)) d (c + 1) sv).kept (grown_dr (World.grownBy.refl _ _))
      rw [show (w.alloc (.cells #[.int .i64 0, .int .i64 0, .int .i64 0] 39)).heap.size = w.heap.size + 1 by simp] at HT
      have gw := (World.grownBy_alloc w (.cells #[.int .i64 0, .int .i64 0, .int .i64 0] 39) none).trans hHeld
      generalize ((w.alloc (Obj.cells #[Value.int IntKind.i64 0, Value.int IntKind.i64 0, Value.int IntKind.i64 0] 39)).alloc (Obj.cells #[Value.int IntKind.i64 d, Value.int IntKind.i64 (c + 1), Value.int IntKind.i64 sv] 39)).drew = wq at *
      clear hHeld
      have k0 := HC.c0
      have k1 := HC.c1
      have k2 := HC.c2
      have k3 := HC.c3
      have kf := HC.fz
      have kl := HC.lt
      have s0 := HS.c0
      have s1 := HS.c1
      have s2 := HS.c2
      have sf := HS.fz
      have sl := HS.lt
      have t0 := HT.c0
      have t1 := HT.c1
      have t2 := HT.c2
      have tf := HT.fz
      have tl := HT.lt
      have n1 : w.heap.size ≠ b := by omega
      have n2 : w.heap.size + 1 ≠ b := by omega
      have n3 : w.heap.size + 1 ≠ w.heap.size := by omega
      have HC := Lib.hid HC
      have HS := Lib.hid HS
      have HT := Lib.hid HT
      go_wp2_with fail
      have HR := ((((((HS.out.far (i := 0) (v := .int .i64 (day)) n3.symm).far (i := 1) (v := .int .i64 (0)) n3.symm).far (i := 2) (v := .int .i64 (sv)) n3.symm).far (i := 1) (v := .int .i64 (day)) n1).far (i := 2) (v := .int .i64 (0)) n1).far (i := 3) (v := .int .i64 (sv)) n1).set (day) (0) (sv)
      have r0 := HR.c0
      have r1 := HR.c1
      have r2 := HR.c2
      exact bodyPost_ret (v := .tuple #[.agg #[.int .i64 (day), .int .i64 (0), .int .i64 (sv)], .int .i64 0]) (by simp only [results, Try.results31]; go_simp) rfl
        ⟨rfl, (((((((HC.out.far n2.symm).far n2.symm).far n2.symm).set (day) (0) (sv)).far n1.symm).far n1.symm).far n1.symm), (grown_set (grown_set (grown_set (grown_set (grown_set (grown_set (grown_set (grown_set (grown_set (gw.but _) (.inl (by omega))) (.inl (by omega))) (.inl (by omega))) (.inr rfl)) (.inr rfl)) (.inr rfl)) (.inl (by omega))) (.inl (by omega))) (.inl (by omega)))⟩
    exact AllReadyH.nil
  exact AllReadyH.nil
set_option maxRecDepth 100000 in
set_option maxHeartbeats 1000000 in
theorem rnow_b (b : Nat) (sv d c s day : Int) (w : World) (h : Ck 63 w b sv d c s) (hs : (sv == 0) = false) (hr : rightB day = true) (hc : -1 ≤ c) (hc2 : c ≤ 1073741824) (hd : day ≤ d) (h2 : 1073741824 ≤ c) :
    Calls Try.prog 31 #[.pointer (some ⟨b, 0, none⟩), .int .i64 day] w fun e w' => e = .returned (.tuple #[.agg #[.int .i64 0, .int .i64 0, .int .i64 0], .int .i64 3]) ∧ w.grownBy w' none := by
  have c0 := h.c0
  have cl := h.lt
  have K := Lib.hid (right_r day)
  have hA := h.kept (World.grownBy_alloc w (.cells #[.int .i64 0, .int .i64 0, .int .i64 0] 39) none)
  have d0 := hA.c0
  have d1 := hA.c1
  have d2 := hA.c2
  have hA := Lib.hid hA
  rw [hr] at K
  clear hr h
  go_enter Try.func31, Try.ntmps31
  go_wp2_with fail
  refine (K.out _).mono ?_
  rintro e w1 ⟨rfl, rfl⟩
  go_wp2_with fail
  refine wp_region_noPanic ?_
  refine wp_region_held_drew (S := (fun w' => (w.alloc (.cells #[.int .i64 0, .int .i64 0, .int .i64 0] 39)).grownBy w' none)) (by kernel_rfl) ?_ (fun hHeld => ?_)
  · (try dsimp only); (repeat (first | exact World.grownBy.refl _ _ | refine grown_dr ?_ | refine grown_al ?_))
  refine wpAnyH_take (i := 0) (oi := _) (v := ?_) rfl (by kernel_rfl) (by kernel_rfl) (by kernel_rfl) (fun _ _ _ h => h) (Or.inl ⟨by rfl, ?_⟩) (by assumption) ?_
  rotate_left 1
  · (intro w hSw; (try dsimp only at hSw); go_simp; first | done | with_reducible rfl)
  try go_simp
  refine wpAnyH_take (i := 1) (oi := _) (v := ?_) rfl (by kernel_rfl) (by kernel_rfl) (by kernel_rfl) (fun _ _ _ h => h) (Or.inl ⟨by rfl, ?_⟩) (by assumption) ?_
  rotate_left 1
  · (intro w hSw; (try dsimp only at hSw); go_simp; first | done | with_reducible rfl)
  try go_simp
  refine wpAnyH_take (i := 2) (oi := _) (v := ?_) rfl (by kernel_rfl) (by kernel_rfl) (by kernel_rfl) (fun _ _ _ h => h) (Or.inl ⟨by rfl, ?_⟩) (by assumption) ?_
  rotate_left 1
  · (intro w hSw; (try dsimp only at hSw); go_simp; first | done | with_reducible rfl)
  try go_simp
  refine wpAnyH_take (i := 3) (oi := _) (v := ?_) rfl (by kernel_rfl) (by kernel_rfl) (by kernel_rfl) (fun _ _ _ h => h) (Or.inl ⟨by rfl, ?_⟩) (by assumption) ?_
  rotate_left 1
  · (intro w hSw; (try dsimp only at hSw); go_simp; first | done | with_reducible rfl)
  try go_simp
  refine wpAnyH_take (i := 4) (oi := _) (v := .int .i64 d) rfl (by kernel_rfl) (by kernel_rfl) (by kernel_rfl) (fun _ _ _ h => h) (Or.inl ⟨by kernel_rfl, ?_⟩) (by assumption) ?_
  · (intro w hSw; (try dsimp only at hSw); go_simp; have q0 := gcell hSw d1; clear hSw; go_simp; first | done | with_reducible rfl)
  try go_simp
  refine wpAnyH_take (i := 5) (oi := _) (v := ?_) rfl (by kernel_rfl) (by kernel_rfl) (by kernel_rfl) (fun _ _ _ h => h) (Or.inl ⟨by rfl, ?_⟩) (by assumption) ?_
  rotate_left 1
  · (intro w hSw; (try dsimp only at hSw); go_simp; first | done | with_reducible rfl)
  try go_simp
  refine wpAnyH_take (i := 6) (oi := _) (v := ?_) rfl (by kernel_rfl) (by kernel_rfl) (by kernel_rfl) (fun _ _ _ h => h) (Or.inl ⟨by rfl, ?_⟩) (by assumption) ?_
  rotate_left 1
  · (intro w hSw; (try dsimp only at hSw); go_simp; first | done | with_reducible rfl)
  try go_simp
  refine wpAnyH_take (i := 7) (oi := _) (v := ?_) rfl (by kernel_rfl) (by kernel_rfl) (by kernel_rfl) (fun _ _ _ h => h) (Or.inl ⟨by rfl, ?_⟩) (by assumption) ?_
  rotate_left 1
  · (intro w hSw; (try dsimp only at hSw); go_simp; first | done | with_reducible rfl)
  try go_simp
  refine wpAnyH_take (i := 8) (oi := _) (v := ?_) rfl (by kernel_rfl) (by kernel_rfl) (by kernel_rfl) (fun _ _ _ h => h) (Or.inl ⟨by rfl, ?_⟩) (by assumption) ?_
  rotate_left 1
  · (intro w hSw; (try dsimp only at hSw); go_simp; first | done | with_reducible rfl)
  try go_simp
  refine wpAnyH_take (i := 9) (oi := _) (v := .int .i64 c) rfl (by kernel_rfl) (by kernel_rfl) (by kernel_rfl) (fun _ _ _ h => h) (Or.inl ⟨by kernel_rfl, ?_⟩) (by assumption) ?_
  · (intro w hSw; (try dsimp only at hSw); go_simp; have q0 := gcell hSw d2; clear hSw; go_simp; first | done | with_reducible rfl)
  try go_simp
  refine wpAnyH_take (i := 10) (oi := _) (v := .int .i64 (c + 1)) rfl (by kernel_rfl) (by kernel_rfl) (by kernel_rfl) (fun _ _ _ h => h) (Or.inl ⟨by kernel_rfl, ?_⟩) (by assumption) ?_
  · (intro w hSw; (try dsimp only at hSw); go_simp; clear hSw; rw [IntKind.wrap_i64]; omega)
  try go_simp
  refine wpAnyH_take (i := 11) (oi := _) (v := ?_) rfl (by kernel_rfl) (by kernel_rfl) (by kernel_rfl) (fun _ _ _ h => h) (Or.inl ⟨by rfl, ?_⟩) (by assumption) ?_
  rotate_left 1
  · (intro w hSw; (try dsimp only at hSw); go_simp; first | done | with_reducible rfl)
  try go_simp
  refine wpAnyH_take (i := 12) (oi := _) (v := ?_) rfl (by kernel_rfl) (by kernel_rfl) (by kernel_rfl) (fun _ _ _ h => h) (Or.inl ⟨by rfl, ?_⟩) (by assumption) ?_
  rotate_left 1
  · (intro w hSw; (try dsimp only at hSw); go_simp; first | done | with_reducible rfl)
  try go_simp
  refine wpAnyH_take (i := 13) (oi := _) (v := ?_) rfl (by kernel_rfl) (by kernel_rfl) (by kernel_rfl) (fun _ _ _ h => h) (Or.inl ⟨by rfl, ?_⟩) (by assumption) ?_
  rotate_left 1
  · (intro w hSw; (try dsimp only at hSw); go_simp; first | done | with_reducible rfl)
  try go_simp
  refine wpAnyH_take (i := 14) (oi := _) (v := .int .i64 sv) rfl (by kernel_rfl) (by kernel_rfl) (by kernel_rfl) (fun _ _ _ h => h) (Or.inl ⟨by kernel_rfl, ?_⟩) (by assumption) ?_
  · (intro w hSw; (try dsimp only at hSw); go_simp; have q0 := gcell hSw d0; clear hSw; go_simp; first | done | with_reducible rfl)
  try go_simp
  refine wpAnyH_take (i := 15) (oi := _) (v := ?_) rfl (by kernel_rfl) (by kernel_rfl) (by kernel_rfl) (fun _ _ _ h => h) (Or.inl ⟨by rfl, ?_⟩) (by assumption) ?_
  rotate_left 1
  · (intro w hSw; (try dsimp only at hSw); go_simp; first | done | with_reducible rfl)
  try go_simp
  refine wpAnyH_ready (rs := [16]) (by kernel_rfl) (by simp) ?_
  refine AllReadyH.cons (o := _) rfl (fun K hK => ?_) ?_
  · clear hHeld
    go_simp
    first | (refine hK.out _ _ ?_ (fun hHeld => ?_)) | (go_wp2_with fail; refine hK.out _ _ ?_ (fun hHeld => ?_))
    · (try dsimp only); (repeat (first | exact World.grownBy.refl _ _ | refine grown_dr ?_ | refine grown_al ?_))
    clear hK K
    refine wpAnyH_ready (rs := [17]) (by kernel_rfl) (by simp) ?_
    refine AllReadyH.cons (o := _) rfl (fun K hK => ?_) ?_
    · clear hHeld
      go_simp
      first | (refine hK.out _ _ ?_ (fun hHeld => ?_)) | (go_wp2_with fail; refine hK.out _ _ ?_ (fun hHeld => ?_))
      · (try dsimp only); (repeat (first | exact World.grownBy.refl _ _ | refine grown_dr ?_ | refine grown_al ?_))
      clear hK K
      refine wpAnyH_done (by kernel_rfl) ?_ _
      refine NoPanic.normal ?_
      go_simp
      have HC := hA.out.kept hHeld
      have HS := (S3.new w 0 0 0).kept hHeld
      have HT := (S3.new (w.alloc (.cells #[.int .i64 0, .int .i64 0, .int .i64 0] 39)) d (c + 1) sv).kept (grown_dr (World.grownBy.refl _ _))
      rw [show (w.alloc (.cells #[.int .i64 0, .int .i64 0, .int .i64 0] 39)).heap.size = w.heap.size + 1 by simp] at HT
      have gw := (World.grownBy_alloc w (.cells #[.int .i64 0, .int .i64 0, .int .i64 0] 39) none).trans hHeld
      generalize ((w.alloc (Obj.cells #[Value.int IntKind.i64 0, Value.int IntKind.i64 0, Value.int IntKind.i64 0] 39)).alloc (Obj.cells #[Value.int IntKind.i64 d, Value.int IntKind.i64 (c + 1), Value.int IntKind.i64 sv] 39)).drew = wq at *
      clear hHeld
      have k0 := HC.c0
      have k1 := HC.c1
      have k2 := HC.c2
      have k3 := HC.c3
      have kf := HC.fz
      have kl := HC.lt
      have s0 := HS.c0
      have s1 := HS.c1
      have s2 := HS.c2
      have sf := HS.fz
      have sl := HS.lt
      have t0 := HT.c0
      have t1 := HT.c1
      have t2 := HT.c2
      have tf := HT.fz
      have tl := HT.lt
      have n1 : w.heap.size ≠ b := by omega
      have n2 : w.heap.size + 1 ≠ b := by omega
      have n3 : w.heap.size + 1 ≠ w.heap.size := by omega
      have HC := Lib.hid HC
      have HS := Lib.hid HS
      have HT := Lib.hid HT
      go_wp2_with fail
      have HR := HS.out.set (0) (0) (0)
      have r0 := HR.c0
      have r1 := HR.c1
      have r2 := HR.c2
      exact bodyPost_ret (v := .tuple #[.agg #[.int .i64 (0), .int .i64 (0), .int .i64 (0)], .int .i64 3]) (by simp only [results, Try.results31]; go_simp) rfl
        ⟨rfl, (grown_set (grown_set (grown_set gw (.inl (by omega))) (.inl (by omega))) (.inl (by omega)))⟩
    exact AllReadyH.nil
  exact AllReadyH.nil
set_option maxRecDepth 100000 in
set_option maxHeartbeats 1000000 in
theorem rnow_c (b : Nat) (sv d c s day : Int) (w : World) (h : Ck 63 w b sv d c s) (hs : (sv == 0) = false) (hr : rightB day = true) (hc : -1 ≤ c) (hc2 : c ≤ 1073741824) (hd : day ≤ d) (h2 : c < 1073741824) :
    Calls Try.prog 31 #[.pointer (some ⟨b, 0, none⟩), .int .i64 day] w fun e w' => e = .returned (.tuple #[.agg #[.int .i64 d, .int .i64 (c + 1), .int .i64 sv], .int .i64 0]) ∧ Ck 63 w' b sv d (c + 1) sv ∧ w.grownBy w' (some b) := by
  have c0 := h.c0
  have cl := h.lt
  have K := Lib.hid (right_r day)
  have hA := h.kept (World.grownBy_alloc w (.cells #[.int .i64 0, .int .i64 0, .int .i64 0] 39) none)
  have d0 := hA.c0
  have d1 := hA.c1
  have d2 := hA.c2
  have hA := Lib.hid hA
  rw [hr] at K
  clear hr h
  go_enter Try.func31, Try.ntmps31
  go_wp2_with fail
  refine (K.out _).mono ?_
  rintro e w1 ⟨rfl, rfl⟩
  go_wp2_with fail
  refine wp_region_noPanic ?_
  refine wp_region_held_drew (S := (fun w' => (w.alloc (.cells #[.int .i64 0, .int .i64 0, .int .i64 0] 39)).grownBy w' none)) (by kernel_rfl) ?_ (fun hHeld => ?_)
  · (try dsimp only); (repeat (first | exact World.grownBy.refl _ _ | refine grown_dr ?_ | refine grown_al ?_))
  refine wpAnyH_take (i := 0) (oi := _) (v := ?_) rfl (by kernel_rfl) (by kernel_rfl) (by kernel_rfl) (fun _ _ _ h => h) (Or.inl ⟨by rfl, ?_⟩) (by assumption) ?_
  rotate_left 1
  · (intro w hSw; (try dsimp only at hSw); go_simp; first | done | with_reducible rfl)
  try go_simp
  refine wpAnyH_take (i := 1) (oi := _) (v := ?_) rfl (by kernel_rfl) (by kernel_rfl) (by kernel_rfl) (fun _ _ _ h => h) (Or.inl ⟨by rfl, ?_⟩) (by assumption) ?_
  rotate_left 1
  · (intro w hSw; (try dsimp only at hSw); go_simp; first | done | with_reducible rfl)
  try go_simp
  refine wpAnyH_take (i := 2) (oi := _) (v := ?_) rfl (by kernel_rfl) (by kernel_rfl) (by kernel_rfl) (fun _ _ _ h => h) (Or.inl ⟨by rfl, ?_⟩) (by assumption) ?_
  rotate_left 1
  · (intro w hSw; (try dsimp only at hSw); go_simp; first | done | with_reducible rfl)
  try go_simp
  refine wpAnyH_take (i := 3) (oi := _) (v := ?_) rfl (by kernel_rfl) (by kernel_rfl) (by kernel_rfl) (fun _ _ _ h => h) (Or.inl ⟨by rfl, ?_⟩) (by assumption) ?_
  rotate_left 1
  · (intro w hSw; (try dsimp only at hSw); go_simp; first | done | with_reducible rfl)
  try go_simp
  refine wpAnyH_take (i := 4) (oi := _) (v := .int .i64 d) rfl (by kernel_rfl) (by kernel_rfl) (by kernel_rfl) (fun _ _ _ h => h) (Or.inl ⟨by kernel_rfl, ?_⟩) (by assumption) ?_
  · (intro w hSw; (try dsimp only at hSw); go_simp; have q0 := gcell hSw d1; clear hSw; go_simp; first | done | with_reducible rfl)
  try go_simp
  refine wpAnyH_take (i := 5) (oi := _) (v := ?_) rfl (by kernel_rfl) (by kernel_rfl) (by kernel_rfl) (fun _ _ _ h => h) (Or.inl ⟨by rfl, ?_⟩) (by assumption) ?_
  rotate_left 1
  · (intro w hSw; (try dsimp only at hSw); go_simp; first | done | with_reducible rfl)
  try go_simp
  refine wpAnyH_take (i := 6) (oi := _) (v := ?_) rfl (by kernel_rfl) (by kernel_rfl) (by kernel_rfl) (fun _ _ _ h => h) (Or.inl ⟨by rfl, ?_⟩) (by assumption) ?_
  rotate_left 1
  · (intro w hSw; (try dsimp only at hSw); go_simp; first | done | with_reducible rfl)
  try go_simp
  refine wpAnyH_take (i := 7) (oi := _) (v := ?_) rfl (by kernel_rfl) (by kernel_rfl) (by kernel_rfl) (fun _ _ _ h => h) (Or.inl ⟨by rfl, ?_⟩) (by assumption) ?_
  rotate_left 1
  · (intro w hSw; (try dsimp only at hSw); go_simp; first | done | with_reducible rfl)
  try go_simp
  refine wpAnyH_take (i := 8) (oi := _) (v := ?_) rfl (by kernel_rfl) (by kernel_rfl) (by kernel_rfl) (fun _ _ _ h => h) (Or.inl ⟨by rfl, ?_⟩) (by assumption) ?_
  rotate_left 1
  · (intro w hSw; (try dsimp only at hSw); go_simp; first | done | with_reducible rfl)
  try go_simp
  refine wpAnyH_take (i := 9) (oi := _) (v := .int .i64 c) rfl (by kernel_rfl) (by kernel_rfl) (by kernel_rfl) (fun _ _ _ h => h) (Or.inl ⟨by kernel_rfl, ?_⟩) (by assumption) ?_
  · (intro w hSw; (try dsimp only at hSw); go_simp; have q0 := gcell hSw d2; clear hSw; go_simp; first | done | with_reducible rfl)
  try go_simp
  refine wpAnyH_take (i := 10) (oi := _) (v := .int .i64 (c + 1)) rfl (by kernel_rfl) (by kernel_rfl) (by kernel_rfl) (fun _ _ _ h => h) (Or.inl ⟨by kernel_rfl, ?_⟩) (by assumption) ?_
  · (intro w hSw; (try dsimp only at hSw); go_simp; clear hSw; rw [IntKind.wrap_i64]; omega)
  try go_simp
  refine wpAnyH_take (i := 11) (oi := _) (v := ?_) rfl (by kernel_rfl) (by kernel_rfl) (by kernel_rfl) (fun _ _ _ h => h) (Or.inl ⟨by rfl, ?_⟩) (by assumption) ?_
  rotate_left 1
  · (intro w hSw; (try dsimp only at hSw); go_simp; first | done | with_reducible rfl)
  try go_simp
  refine wpAnyH_take (i := 12) (oi := _) (v := ?_) rfl (by kernel_rfl) (by kernel_rfl) (by kernel_rfl) (fun _ _ _ h => h) (Or.inl ⟨by rfl, ?_⟩) (by assumption) ?_
  rotate_left 1
  · (intro w hSw; (try dsimp only at hSw); go_simp; first | done | with_reducible rfl)
  try go_simp
  refine wpAnyH_take (i := 13) (oi := _) (v := ?_) rfl (by kernel_rfl) (by kernel_rfl) (by kernel_rfl) (fun _ _ _ h => h) (Or.inl ⟨by rfl, ?_⟩) (by assumption) ?_
  rotate_left 1
  · (intro w hSw; (try dsimp only at hSw); go_simp; first | done | with_reducible rfl)
  try go_simp
  refine wpAnyH_take (i := 14) (oi := _) (v := .int .i64 sv) rfl (by kernel_rfl) (by kernel_rfl) (by kernel_rfl) (fun _ _ _ h => h) (Or.inl ⟨by kernel_rfl, ?_⟩) (by assumption) ?_
  · (intro w hSw; (try dsimp only at hSw); go_simp; have q0 := gcell hSw d0; clear hSw; go_simp; first | done | with_reducible rfl)
  try go_simp
  refine wpAnyH_take (i := 15) (oi := _) (v := ?_) rfl (by kernel_rfl) (by kernel_rfl) (by kernel_rfl) (fun _ _ _ h => h) (Or.inl ⟨by rfl, ?_⟩) (by assumption) ?_
  rotate_left 1
  · (intro w hSw; (try dsimp only at hSw); go_simp; first | done | with_reducible rfl)
  try go_simp
  refine wpAnyH_ready (rs := [16]) (by kernel_rfl) (by simp) ?_
  refine AllReadyH.cons (o := _) rfl (fun K hK => ?_) ?_
  · clear hHeld
    go_simp
    first | (refine hK.out _ _ ?_ (fun hHeld => ?_)) | (go_wp2_with fail; refine hK.out _ _ ?_ (fun hHeld => ?_))
    · (try dsimp only); (repeat (first | exact World.grownBy.refl _ _ | refine grown_dr ?_ | refine grown_al ?_))
    clear hK K
    refine wpAnyH_ready (rs := [17]) (by kernel_rfl) (by simp) ?_
    refine AllReadyH.cons (o := _) rfl (fun K hK => ?_) ?_
    · clear hHeld
      go_simp
      first | (refine hK.out _ _ ?_ (fun hHeld => ?_)) | (go_wp2_with fail; refine hK.out _ _ ?_ (fun hHeld => ?_))
      · (try dsimp only); (repeat (first | exact World.grownBy.refl _ _ | refine grown_dr ?_ | refine grown_al ?_))
      clear hK K
      refine wpAnyH_done (by kernel_rfl) ?_ _
      refine NoPanic.normal ?_
      go_simp
      have HC := hA.out.kept hHeld
      have HS := (S3.new w 0 0 0).kept hHeld
      have HT := (S3.new (w.alloc (.cells #[.int .i64 0, .int .i64 0, .int .i64 0] 39)) d (c + 1) sv).kept (grown_dr (World.grownBy.refl _ _))
      rw [show (w.alloc (.cells #[.int .i64 0, .int .i64 0, .int .i64 0] 39)).heap.size = w.heap.size + 1 by simp] at HT
      have gw := (World.grownBy_alloc w (.cells #[.int .i64 0, .int .i64 0, .int .i64 0] 39) none).trans hHeld
      generalize ((w.alloc (Obj.cells #[Value.int IntKind.i64 0, Value.int IntKind.i64 0, Value.int IntKind.i64 0] 39)).alloc (Obj.cells #[Value.int IntKind.i64 d, Value.int IntKind.i64 (c + 1), Value.int IntKind.i64 sv] 39)).drew = wq at *
      clear hHeld
      have k0 := HC.c0
      have k1 := HC.c1
      have k2 := HC.c2
      have k3 := HC.c3
      have kf := HC.fz
      have kl := HC.lt
      have s0 := HS.c0
      have s1 := HS.c1
      have s2 := HS.c2
      have sf := HS.fz
      have sl := HS.lt
      have t0 := HT.c0
      have t1 := HT.c1
      have t2 := HT.c2
      have tf := HT.fz
      have tl := HT.lt
      have n1 : w.heap.size ≠ b := by omega
      have n2 : w.heap.size + 1 ≠ b := by omega
      have n3 : w.heap.size + 1 ≠ w.heap.size := by omega
      have HC := Lib.hid HC
      have HS := Lib.hid HS
      have HT := Lib.hid HT
      go_wp2_with fail
      have HR := (((HS.out.far (i := 1) (v := .int .i64 (d)) n1).far (i := 2) (v := .int .i64 (c + 1)) n1).far (i := 3) (v := .int .i64 (sv)) n1).set (d) (c + 1) (sv)
      have r0 := HR.c0
      have r1 := HR.c1
      have r2 := HR.c2
      exact bodyPost_ret (v := .tuple #[.agg #[.int .i64 (d), .int .i64 (c + 1), .int .i64 (sv)], .int .i64 0]) (by simp only [results, Try.results31]; go_simp) rfl
        ⟨rfl, ((((HC.out.set (d) (c + 1) (sv)).far n1.symm).far n1.symm).far n1.symm), (grown_set (grown_set (grown_set (grown_set (grown_set (grown_set (gw.but _) (.inr rfl)) (.inr rfl)) (.inr rfl)) (.inl (by omega))) (.inl (by omega))) (.inl (by omega)))⟩
    exact AllReadyH.nil
  exact AllReadyH.nil
set_option maxRecDepth 100000 in
set_option maxHeartbeats 1000000 in
theorem rhear_e0 (b : Nat) (sv d c s p q r day : Int) (w : World) (h : Ck 63 w b sv d c s) (hs : (sv == 0) = false) (hr : rightB day = false) :
    Calls Try.prog 29 #[.pointer (some ⟨b, 0, none⟩), .agg #[.int .i64 p, .int .i64 q, .int .i64 r], .int .i64 day] w fun e w' => e = .returned (.int .i64 23) ∧ w.grownBy w' none := by
  have c0 := h.c0
  have cl := h.lt
  have K := Lib.hid (right_r day)
  have K2 := Lib.hid (right_r p)
  rw [hr] at K
  clear h
  generalize rightB p = x at *
  go_enter Try.func29, Try.ntmps29
  go_wp2_with fail
  refine (K.out _).mono ?_
  rintro e w1 ⟨rfl, rfl⟩
  go_wp2_with fail
  refine (K2.out _).mono ?_
  rintro e w1 ⟨rfl, rfl⟩
  go_wp2_with fail
  go_ret
  exact ⟨rfl, World.grownBy_alloc w _ none⟩
set_option maxRecDepth 100000 in
set_option maxHeartbeats 1000000 in
theorem rhear_e1 (b : Nat) (sv d c s p q r day : Int) (w : World) (h : Ck 63 w b sv d c s) (hs : (sv == 0) = false) (hr : rightB day = true) (h1 : rightB p = false) :
    Calls Try.prog 29 #[.pointer (some ⟨b, 0, none⟩), .agg #[.int .i64 p, .int .i64 q, .int .i64 r], .int .i64 day] w fun e w' => e = .returned (.int .i64 23) ∧ w.grownBy w' none := by
  have c0 := h.c0
  have cl := h.lt
  have K := Lib.hid (right_r day)
  have K2 := Lib.hid (right_r p)
  rw [hr] at K
  rw [h1] at K2
  clear h
  go_enter Try.func29, Try.ntmps29
  go_wp2_with fail
  refine (K.out _).mono ?_
  rintro e w1 ⟨rfl, rfl⟩
  go_wp2_with fail
  refine (K2.out _).mono ?_
  rintro e w1 ⟨rfl, rfl⟩
  go_wp2_with fail
  go_ret
  exact ⟨rfl, World.grownBy_alloc w _ none⟩
set_option maxRecDepth 100000 in
set_option maxHeartbeats 1000000 in
theorem rhear_e2 (b : Nat) (sv d c s p q r day : Int) (w : World) (h : Ck 63 w b sv d c s) (hs : (sv == 0) = false) (hr : rightB day = true) (h1 : rightB p = true) (h2 : day + 5 < p) :
    Calls Try.prog 29 #[.pointer (some ⟨b, 0, none⟩), .agg #[.int .i64 p, .int .i64 q, .int .i64 r], .int .i64 day] w fun e w' => e = .returned (.int .i64 23) ∧ w.grownBy w' none := by
  have c0 := h.c0
  have cl := h.lt
  have K := Lib.hid (right_r day)
  have K2 := Lib.hid (right_r p)
  have hb : 0 ≤ p ∧ p ≤ 100000 := by simpa [rightB] using h1
  have hb2 : 0 ≤ day ∧ day ≤ 100000 := by simpa [rightB] using hr
  rw [hr] at K
  rw [h1] at K2
  clear h1 hr
  clear h
  go_enter Try.func29, Try.ntmps29
  go_wp2_with fail
  refine (K.out _).mono ?_
  rintro e w1 ⟨rfl, rfl⟩
  go_wp2_with fail
  refine (K2.out _).mono ?_
  rintro e w1 ⟨rfl, rfl⟩
  go_wp2_with fail
  go_ret
  exact ⟨rfl, World.grownBy_alloc w _ none⟩
set_option maxRecDepth 100000 in
set_option maxHeartbeats 1000000 in
theorem rhear_e3 (b : Nat) (sv d c s p q r day : Int) (w : World) (h : Ck 63 w b sv d c s) (hs : (sv == 0) = false) (hr : rightB day = true) (h1 : rightB p = true) (h2 : p ≤ day + 5) (h3 : q < 0) :
    Calls Try.prog 29 #[.pointer (some ⟨b, 0, none⟩), .agg #[.int .i64 p, .int .i64 q, .int .i64 r], .int .i64 day] w fun e w' => e = .returned (.int .i64 3) ∧ w.grownBy w' none := by
  have c0 := h.c0
  have cl := h.lt
  have K := Lib.hid (right_r day)
  have K2 := Lib.hid (right_r p)
  have hb : 0 ≤ p ∧ p ≤ 100000 := by simpa [rightB] using h1
  have hb2 : 0 ≤ day ∧ day ≤ 100000 := by simpa [rightB] using hr
  rw [hr] at K
  rw [h1] at K2
  clear h1 hr
  clear h
  go_enter Try.func29, Try.ntmps29
  go_wp2_with fail
  refine (K.out _).mono ?_
  rintro e w1 ⟨rfl, rfl⟩
  go_wp2_with fail
  refine (K2.out _).mono ?_
  rintro e w1 ⟨rfl, rfl⟩
  go_wp2_with fail
  go_ret
  exact ⟨rfl, World.grownBy_alloc w _ none⟩
set_option maxRecDepth 100000 in
set_option maxHeartbeats 1000000 in
theorem rhear_e4 (b : Nat) (sv d c s p q r day : Int) (w : World) (h : Ck 63 w b sv d c s) (hs : (sv == 0) = false) (hr : rightB day = true) (h1 : rightB p = true) (h2 : p ≤ day + 5) (h3 : 0 ≤ q) (h4 : 1073741824 < q) :
    Calls Try.prog 29 #[.pointer (some ⟨b, 0, none⟩), .agg #[.int .i64 p, .int .i64 q, .int .i64 r], .int .i64 day] w fun e w' => e = .returned (.int .i64 3) ∧ w.grownBy w' none := by
  have c0 := h.c0
  have cl := h.lt
  have K := Lib.hid (right_r day)
  have K2 := Lib.hid (right_r p)
  have hb : 0 ≤ p ∧ p ≤ 100000 := by simpa [rightB] using h1
  have hb2 : 0 ≤ day ∧ day ≤ 100000 := by simpa [rightB] using hr
  rw [hr] at K
  rw [h1] at K2
  clear h1 hr
  clear h
  go_enter Try.func29, Try.ntmps29
  go_wp2_with fail
  refine (K.out _).mono ?_
  rintro e w1 ⟨rfl, rfl⟩
  go_wp2_with fail
  refine (K2.out _).mono ?_
  rintro e w1 ⟨rfl, rfl⟩
  go_wp2_with fail
  go_ret
  exact ⟨rfl, World.grownBy_alloc w _ none⟩
set_option maxRecDepth 100000 in
set_option maxHeartbeats 1000000 in
theorem rhear_e5 (b : Nat) (sv d c s p q r day : Int) (w : World) (h : Ck 63 w b sv d c s) (hs : (sv == 0) = false) (hr : rightB day = true) (h1 : rightB p = true) (h2 : p ≤ day + 5) (h3 : 0 ≤ q) (h4 : q ≤ 1073741824) (h5 : r < 1) :
    Calls Try.prog 29 #[.pointer (some ⟨b, 0, none⟩), .agg #[.int .i64 p, .int .i64 q, .int .i64 r], .int .i64 day] w fun e w' => e = .returned (.int .i64 3) ∧ w.grownBy w' none := by
  have c0 := h.c0
  have cl := h.lt
  have K := Lib.hid (right_r day)
  have K2 := Lib.hid (right_r p)
  have hb : 0 ≤ p ∧ p ≤ 100000 := by simpa [rightB] using h1
  have hb2 : 0 ≤ day ∧ day ≤ 100000 := by simpa [rightB] using hr
  rw [hr] at K
  rw [h1] at K2
  clear h1 hr
  clear h
  go_enter Try.func29, Try.ntmps29
  go_wp2_with fail
  refine (K.out _).mono ?_
  rintro e w1 ⟨rfl, rfl⟩
  go_wp2_with fail
  refine (K2.out _).mono ?_
  rintro e w1 ⟨rfl, rfl⟩
  go_wp2_with fail
  go_ret
  exact ⟨rfl, World.grownBy_alloc w _ none⟩
set_option maxRecDepth 100000 in
set_option maxHeartbeats 1000000 in
theorem rhear_e6 (b : Nat) (sv d c s p q r day : Int) (w : World) (h : Ck 63 w b sv d c s) (hs : (sv == 0) = false) (hr : rightB day = true) (h1 : rightB p = true) (h2 : p ≤ day + 5) (h3 : 0 ≤ q) (h4 : q ≤ 1073741824) (h5 : 1 ≤ r) (h6 : 8 < r) :
    Calls Try.prog 29 #[.pointer (some ⟨b, 0, none⟩), .agg #[.int .i64 p, .int .i64 q, .int .i64 r], .int .i64 day] w fun e w' => e = .returned (.int .i64 3) ∧ w.grownBy w' none := by
  have c0 := h.c0
  have cl := h.lt
  have K := Lib.hid (right_r day)
  have K2 := Lib.hid (right_r p)
  have hb : 0 ≤ p ∧ p ≤ 100000 := by simpa [rightB] using h1
  have hb2 : 0 ≤ day ∧ day ≤ 100000 := by simpa [rightB] using hr
  rw [hr] at K
  rw [h1] at K2
  clear h1 hr
  clear h
  go_enter Try.func29, Try.ntmps29
  go_wp2_with fail
  refine (K.out _).mono ?_
  rintro e w1 ⟨rfl, rfl⟩
  go_wp2_with fail
  refine (K2.out _).mono ?_
  rintro e w1 ⟨rfl, rfl⟩
  go_wp2_with fail
  go_ret
  exact ⟨rfl, World.grownBy_alloc w _ none⟩
set_option maxRecDepth 100000 in
set_option maxHeartbeats 1000000 in
theorem rhear_a (b : Nat) (sv d c s p q r day : Int) (w : World) (h : Ck 63 w b sv d c s) (hs : (sv == 0) = false) (hr : rightB day = true) (h1 : rightB p = true) (h2 : p ≤ day + 5) (h3 : 0 ≤ q) (h4 : q ≤ 1073741824) (h5 : 1 ≤ r) (h6 : r ≤ 8) (hl : lessB d c s p q r = true) :
    Calls Try.prog 29 #[.pointer (some ⟨b, 0, none⟩), .agg #[.int .i64 p, .int .i64 q, .int .i64 r], .int .i64 day] w fun e w' => e = .returned (.int .i64 0) ∧ Ck 63 w' b sv p q r ∧ w.grownBy w' (some b) := by
  have c0 := h.c0
  have cl := h.lt
  have K := Lib.hid (right_r day)
  have K2 := Lib.hid (right_r p)
  have HS := Lib.hid (fun w' (g : (w.alloc (.cells #[.int .i64 p, .int .i64 q, .int .i64 r] 39)).grownBy w' none) => (⟨(h.kept (World.grownBy_alloc w _ none)).kept g, (S3.new w p q r).kept g, (World.grownBy_alloc w _ none).trans g⟩ : Ck 63 w' b sv d c s ∧ S3 w' w.heap.size p q r ∧ w.grownBy w' none))
  have L := Lib.hid (less_r d c s p q r)
  rw [hl] at L
  clear hl
  have hb : 0 ≤ p ∧ p ≤ 100000 := by simpa [rightB] using h1
  have hb2 : 0 ≤ day ∧ day ≤ 100000 := by simpa [rightB] using hr
  rw [hr] at K
  rw [h1] at K2
  clear h1 hr
  clear h
  go_enter Try.func29, Try.ntmps29
  go_wp2_with fail
  refine (K.out _).mono ?_
  rintro e w1 ⟨rfl, rfl⟩
  go_wp2_with fail
  refine (K2.out _).mono ?_
  rintro e w1 ⟨rfl, rfl⟩
  go_wp2_with fail
  refine wp_region_noPanic ?_
  refine wp_region_held_drew (S := (fun w' => Ck 63 w' b sv d c s ∧ S3 w' w.heap.size p q r ∧ w.grownBy w' none)) (by kernel_rfl) ?_ (fun hHeld => ?_)
  · (try dsimp only); (first | exact HS.out _ (grown_dr (World.grownBy.refl _ _)) | exact HS.out _ ((grown_dr (World.grownBy.refl _ _)).trans g))
  refine wpAnyH_take (i := 0) (oi := _) (v := ?_) rfl (by kernel_rfl) (by kernel_rfl) (by kernel_rfl) (fun _ _ _ h => h) (Or.inl ⟨by rfl, ?_⟩) (by assumption) ?_
  rotate_left 1
  · (intro w hSw; (try dsimp only at hSw); go_simp; first | done | with_reducible rfl)
  try go_simp
  refine wpAnyH_take (i := 1) (oi := _) (v := ?_) rfl (by kernel_rfl) (by kernel_rfl) (by kernel_rfl) (fun _ _ _ h => h) (Or.inl ⟨by rfl, ?_⟩) (by assumption) ?_
  rotate_left 1
  · (intro w hSw; (try dsimp only at hSw); go_simp; first | done | with_reducible rfl)
  try go_simp
  refine wpAnyH_take (i := 2) (oi := _) (v := ?_) rfl (by kernel_rfl) (by kernel_rfl) (by kernel_rfl) (fun _ _ _ h => h) (Or.inl ⟨by rfl, ?_⟩) (by assumption) ?_
  rotate_left 1
  · (intro w hSw; (try dsimp only at hSw); go_simp; first | done | with_reducible rfl)
  try go_simp
  refine wpAnyH_take (i := 3) (oi := _) (v := .agg #[.int .i64 d, .int .i64 c, .int .i64 s]) rfl (by kernel_rfl) (by kernel_rfl) (by kernel_rfl) (fun _ _ _ h => h) (Or.inl ⟨by kernel_rfl, ?_⟩) (by assumption) ?_
  · (intro w hSw; (try dsimp only at hSw); go_simp; obtain ⟨k1, k2, k4⟩ := hSw; have q0 := k1.c1; have q1 := k1.c2; have q2 := k1.c3; clear k1 k2 k4; go_simp; first | done | with_reducible rfl)
  try go_simp
  refine wpAnyH_take (i := 4) (oi := _) (v := .agg #[.int .i64 p, .int .i64 q, .int .i64 r]) rfl (by kernel_rfl) (by kernel_rfl) (by kernel_rfl) (fun _ _ _ h => h) (Or.inl ⟨by kernel_rfl, ?_⟩) (by assumption) ?_
  · (intro w hSw; (try dsimp only at hSw); go_simp; obtain ⟨k1, k2, k4⟩ := hSw; have q0 := k2.c0; have q1 := k2.c1; have q2 := k2.c2; clear k1 k2 k4; go_simp; first | done | with_reducible rfl)
  try go_simp
  refine wpAnyH_ready (rs := [5]) (by kernel_rfl) (by simp) ?_
  refine AllReadyH.cons (o := _) rfl (fun K hK => ?_) ?_
  · clear hHeld
    go_simp
    refine (L.out _).mono ?_
    rintro e w' ⟨rfl, g⟩
    first | (refine hK.out _ _ ?_ (fun hHeld => ?_)) | (go_wp2_with fail; refine hK.out _ _ ?_ (fun hHeld => ?_))
    · (try dsimp only); (first | exact HS.out _ (grown_dr (World.grownBy.refl _ _)) | exact HS.out _ ((grown_dr (World.grownBy.refl _ _)).trans g))
    clear hK K
    refine wpAnyH_take (i := 6) (oi := _) (v := ?_) rfl (by kernel_rfl) (by kernel_rfl) (by kernel_rfl) (fun _ _ _ h => h) (Or.inl ⟨by rfl, ?_⟩) (by assumption) ?_
    rotate_left 1
    · (intro w hSw; (try dsimp only at hSw); go_simp; first | done | with_reducible rfl)
    try go_simp
    refine wpAnyH_done (by kernel_rfl) ?_ _
    refine NoPanic.normal ?_
    go_simp
    obtain ⟨k1, k2, k4⟩ := hHeld
    have c0 := k1.c0
    have c1 := k1.c1
    have c2 := k1.c2
    have c3 := k1.c3
    have a0 := k2.c0
    have a1 := k2.c1
    have a2 := k2.c2
    have bf := k1.fz
    have l1 := k1.lt
    have l2 := k2.lt
    have k1 := Lib.hid k1
    go_wp2_with fail
    go_ret
    exact ⟨rfl, k1.out.set p q r, grown_set (grown_set (grown_set (k4.but _) (.inr rfl)) (.inr rfl)) (.inr rfl)⟩
  exact AllReadyH.nil
set_option maxRecDepth 100000 in
set_option maxHeartbeats 1000000 in
theorem rhear_b (b : Nat) (sv d c s p q r day : Int) (w : World) (h : Ck 63 w b sv d c s) (hs : (sv == 0) = false) (hr : rightB day = true) (h1 : rightB p = true) (h2 : p ≤ day + 5) (h3 : 0 ≤ q) (h4 : q ≤ 1073741824) (h5 : 1 ≤ r) (h6 : r ≤ 8) (hl : lessB d c s p q r = false) :
    Calls Try.prog 29 #[.pointer (some ⟨b, 0, none⟩), .agg #[.int .i64 p, .int .i64 q, .int .i64 r], .int .i64 day] w fun e w' => e = .returned (.int .i64 0) ∧ Ck 63 w' b sv d c s ∧ w.grownBy w' (some b) := by
  have c0 := h.c0
  have cl := h.lt
  have K := Lib.hid (right_r day)
  have K2 := Lib.hid (right_r p)
  have HS := Lib.hid (fun w' (g : (w.alloc (.cells #[.int .i64 p, .int .i64 q, .int .i64 r] 39)).grownBy w' none) => (⟨(h.kept (World.grownBy_alloc w _ none)).kept g, (S3.new w p q r).kept g, (World.grownBy_alloc w _ none).trans g⟩ : Ck 63 w' b sv d c s ∧ S3 w' w.heap.size p q r ∧ w.grownBy w' none))
  have L := Lib.hid (less_r d c s p q r)
  rw [hl] at L
  clear hl
  have hb : 0 ≤ p ∧ p ≤ 100000 := by simpa [rightB] using h1
  have hb2 : 0 ≤ day ∧ day ≤ 100000 := by simpa [rightB] using hr
  rw [hr] at K
  rw [h1] at K2
  clear h1 hr
  clear h
  go_enter Try.func29, Try.ntmps29
  go_wp2_with fail
  refine (K.out _).mono ?_
  rintro e w1 ⟨rfl, rfl⟩
  go_wp2_with fail
  refine (K2.out _).mono ?_
  rintro e w1 ⟨rfl, rfl⟩
  go_wp2_with fail
  refine wp_region_noPanic ?_
  refine wp_region_held_drew (S := (fun w' => Ck 63 w' b sv d c s ∧ S3 w' w.heap.size p q r ∧ w.grownBy w' none)) (by kernel_rfl) ?_ (fun hHeld => ?_)
  · (try dsimp only); (first | exact HS.out _ (grown_dr (World.grownBy.refl _ _)) | exact HS.out _ ((grown_dr (World.grownBy.refl _ _)).trans g))
  refine wpAnyH_take (i := 0) (oi := _) (v := ?_) rfl (by kernel_rfl) (by kernel_rfl) (by kernel_rfl) (fun _ _ _ h => h) (Or.inl ⟨by rfl, ?_⟩) (by assumption) ?_
  rotate_left 1
  · (intro w hSw; (try dsimp only at hSw); go_simp; first | done | with_reducible rfl)
  try go_simp
  refine wpAnyH_take (i := 1) (oi := _) (v := ?_) rfl (by kernel_rfl) (by kernel_rfl) (by kernel_rfl) (fun _ _ _ h => h) (Or.inl ⟨by rfl, ?_⟩) (by assumption) ?_
  rotate_left 1
  · (intro w hSw; (try dsimp only at hSw); go_simp; first | done | with_reducible rfl)
  try go_simp
  refine wpAnyH_take (i := 2) (oi := _) (v := ?_) rfl (by kernel_rfl) (by kernel_rfl) (by kernel_rfl) (fun _ _ _ h => h) (Or.inl ⟨by rfl, ?_⟩) (by assumption) ?_
  rotate_left 1
  · (intro w hSw; (try dsimp only at hSw); go_simp; first | done | with_reducible rfl)
  try go_simp
  refine wpAnyH_take (i := 3) (oi := _) (v := .agg #[.int .i64 d, .int .i64 c, .int .i64 s]) rfl (by kernel_rfl) (by kernel_rfl) (by kernel_rfl) (fun _ _ _ h => h) (Or.inl ⟨by kernel_rfl, ?_⟩) (by assumption) ?_
  · (intro w hSw; (try dsimp only at hSw); go_simp; obtain ⟨k1, k2, k4⟩ := hSw; have q0 := k1.c1; have q1 := k1.c2; have q2 := k1.c3; clear k1 k2 k4; go_simp; first | done | with_reducible rfl)
  try go_simp
  refine wpAnyH_take (i := 4) (oi := _) (v := .agg #[.int .i64 p, .int .i64 q, .int .i64 r]) rfl (by kernel_rfl) (by kernel_rfl) (by kernel_rfl) (fun _ _ _ h => h) (Or.inl ⟨by kernel_rfl, ?_⟩) (by assumption) ?_
  · (intro w hSw; (try dsimp only at hSw); go_simp; obtain ⟨k1, k2, k4⟩ := hSw; have q0 := k2.c0; have q1 := k2.c1; have q2 := k2.c2; clear k1 k2 k4; go_simp; first | done | with_reducible rfl)
  try go_simp
  refine wpAnyH_ready (rs := [5]) (by kernel_rfl) (by simp) ?_
  refine AllReadyH.cons (o := _) rfl (fun K hK => ?_) ?_
  · clear hHeld
    go_simp
    refine (L.out _).mono ?_
    rintro e w' ⟨rfl, g⟩
    first | (refine hK.out _ _ ?_ (fun hHeld => ?_)) | (go_wp2_with fail; refine hK.out _ _ ?_ (fun hHeld => ?_))
    · (try dsimp only); (first | exact HS.out _ (grown_dr (World.grownBy.refl _ _)) | exact HS.out _ ((grown_dr (World.grownBy.refl _ _)).trans g))
    clear hK K
    refine wpAnyH_take (i := 6) (oi := _) (v := ?_) rfl (by kernel_rfl) (by kernel_rfl) (by kernel_rfl) (fun _ _ _ h => h) (Or.inl ⟨by rfl, ?_⟩) (by assumption) ?_
    rotate_left 1
    · (intro w hSw; (try dsimp only at hSw); go_simp; first | done | with_reducible rfl)
    try go_simp
    refine wpAnyH_done (by kernel_rfl) ?_ _
    refine NoPanic.normal ?_
    go_simp
    obtain ⟨k1, k2, k4⟩ := hHeld
    have c0 := k1.c0
    have c1 := k1.c1
    have c2 := k1.c2
    have c3 := k1.c3
    have a0 := k2.c0
    have a1 := k2.c1
    have a2 := k2.c2
    have bf := k1.fz
    have l1 := k1.lt
    have l2 := k2.lt
    have k1 := Lib.hid k1
    go_wp2_with fail
    go_ret
    exact ⟨rfl, k1.out, k4.but _⟩
  exact AllReadyH.nil
theorem rnow_k (b : Nat) (sv d c s day x y z er d' c' s' : Int) (w : World) (h : Ck 63 w b sv d c s) (hs : (sv == 0) = false) (hc : -1 ≤ c) (hc2 : c ≤ 1073741824) (hN : nowR sv d c s day = (x, y, z, er, d', c', s')) :
    Calls Try.prog 31 #[.pointer (some ⟨b, 0, none⟩), .int .i64 day] w fun e w' => e = .returned (.tuple #[.agg #[.int .i64 x, .int .i64 y, .int .i64 z], .int .i64 er]) ∧ Ck 63 w' b sv d' c' s' ∧ w.grownBy w' (some b) := by
  by_cases hr : rightB day = true
  · by_cases h1 : d < day
    · simp only [nowR, hr, h1, if_true] at hN
      obtain ⟨rfl, rfl, rfl, rfl, rfl, rfl, rfl⟩ := by simpa using hN
      exact rnow_a b _ d c s _ w h hs hr hc hc2 h1
    · by_cases h2 : 1073741824 ≤ c
      · simp only [nowR, hr, h1, h2, if_true, if_false] at hN
        obtain ⟨rfl, rfl, rfl, rfl, rfl, rfl, rfl⟩ := by simpa using hN
        exact (rnow_b b _ _ _ _ _ w h hs hr hc hc2 (by omega) h2).mono fun _ _ ⟨he, hg⟩ => ⟨he, h.kept hg, hg.but _⟩
      · simp only [nowR, hr, h1, h2, if_true, if_false] at hN
        obtain ⟨rfl, rfl, rfl, rfl, rfl, rfl, rfl⟩ := by simpa using hN
        exact rnow_c b _ _ c s _ w h hs hr hc hc2 (by omega) (by omega)
  · simp only [nowR, hr] at hN
    obtain ⟨rfl, rfl, rfl, rfl, rfl, rfl, rfl⟩ := by simpa using hN
    exact (rnow_bad b _ _ _ _ _ w h hs (by simpa using hr)).mono fun _ _ ⟨he, hg⟩ => ⟨he, h.kept hg, hg.but _⟩
theorem rhear_k (b : Nat) (sv d c s p q r day er d' c' s' : Int) (w : World) (h : Ck 63 w b sv d c s) (hs : (sv == 0) = false) (hN : hearR d c s p q r day = (er, d', c', s')) :
    Calls Try.prog 29 #[.pointer (some ⟨b, 0, none⟩), .agg #[.int .i64 p, .int .i64 q, .int .i64 r], .int .i64 day] w fun e w' => e = .returned (.int .i64 er) ∧ Ck 63 w' b sv d' c' s' ∧ w.grownBy w' (some b) := by
  by_cases hr : rightB day = true
  · by_cases h1 : rightB p = true
    · by_cases h2 : p - day ≤ 5
      · by_cases h3 : 0 ≤ q
        · by_cases h4 : q ≤ 1073741824
          · by_cases h5 : serverB r = true
            · have h6 : 1 ≤ r ∧ r ≤ 8 := by simpa [serverB] using h5
              by_cases hl : lessB d c s p q r = true
              · simp only [hearR, hr, h1, h2, h3, h4, h5, hl, if_true] at hN
                obtain ⟨rfl, rfl, rfl, rfl⟩ := by simpa using hN
                exact rhear_a b sv d c s _ _ _ day w h hs hr h1 (by omega) h3 h4 h6.1 h6.2 hl
              · simp only [hearR, hr, h1, h2, h3, h4, h5, hl, if_true] at hN
                obtain ⟨rfl, rfl, rfl, rfl⟩ := by simpa using hN
                exact rhear_b b sv _ _ _ p q r day w h hs hr h1 (by omega) h3 h4 h6.1 h6.2 (by simpa using hl)
            · have h6 : ¬ (1 ≤ r ∧ r ≤ 8) := by simpa [serverB] using h5
              simp only [hearR, hr, h1, h2, h3, h4, h5, if_true] at hN
              obtain ⟨rfl, rfl, rfl, rfl⟩ := by simpa using hN
              by_cases h7 : 1 ≤ r
              · exact (rhear_e6 b sv _ _ _ p q r day w h hs hr h1 (by omega) h3 h4 h7 (by omega)).mono fun _ _ ⟨he, hg⟩ => ⟨he, h.kept hg, hg.but _⟩
              · exact (rhear_e5 b sv _ _ _ p q r day w h hs hr h1 (by omega) h3 h4 (by omega)).mono fun _ _ ⟨he, hg⟩ => ⟨he, h.kept hg, hg.but _⟩
          · simp only [hearR, hr, h1, h2, h3, h4, if_true, if_false] at hN
            obtain ⟨rfl, rfl, rfl, rfl⟩ := by simpa using hN
            exact (rhear_e4 b sv _ _ _ p q r day w h hs hr h1 (by omega) h3 (by omega)).mono fun _ _ ⟨he, hg⟩ => ⟨he, h.kept hg, hg.but _⟩
        · simp only [hearR, hr, h1, h2, h3, if_true, if_false] at hN
          obtain ⟨rfl, rfl, rfl, rfl⟩ := by simpa using hN
          exact (rhear_e3 b sv _ _ _ p q r day w h hs hr h1 (by omega) (by omega)).mono fun _ _ ⟨he, hg⟩ => ⟨he, h.kept hg, hg.but _⟩
      · simp only [hearR, hr, h1, h2, if_true, if_false] at hN
        obtain ⟨rfl, rfl, rfl, rfl⟩ := by simpa using hN
        exact (rhear_e2 b sv _ _ _ p q r day w h hs hr h1 (by omega)).mono fun _ _ ⟨he, hg⟩ => ⟨he, h.kept hg, hg.but _⟩
    · simp only [hearR, hr, h1, if_true] at hN
      obtain ⟨rfl, rfl, rfl, rfl⟩ := by simpa using hN
      exact (rhear_e1 b sv _ _ _ p q r day w h hs hr (by simpa using h1)).mono fun _ _ ⟨he, hg⟩ => ⟨he, h.kept hg, hg.but _⟩
  · simp only [hearR, hr] at hN
    obtain ⟨rfl, rfl, rfl, rfl⟩ := by simpa using hN
    exact (rhear_e0 b sv _ _ _ p q r day w h hs (by simpa using hr)).mono fun _ _ ⟨he, hg⟩ => ⟨he, h.kept hg, hg.but _⟩
end Go.Proofs.Ytgfifpbmjkjnpaa
