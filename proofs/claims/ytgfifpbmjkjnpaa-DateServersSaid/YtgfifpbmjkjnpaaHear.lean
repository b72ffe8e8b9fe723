/-
  The clocks of date: Now and Hear, by their contracts.
-/
import Derived.Test.YtgfifpbmjkjnpaaClk
namespace Go.Proofs.Ytgfifpbmjkjnpaa
open Go.RowKit
set_option maxRecDepth 100000 in
set_option maxHeartbeats 1000000 in
theorem later_e1 (b : Nat) (sv d c s p q r day : Int) (w : World) (h : Ck 57 w b sv d c s) (h1 : rightB p = false) :
    Calls Try.prog 40 #[.pointer (some ⟨b, 0, none⟩), .agg #[.int .i64 p, .int .i64 q, .int .i64 r], .int .i64 day] w fun e w' => e = .returned (.tuple #[.agg #[.int .i64 0, .int .i64 0, .int .i64 0], .int .i64 23]) ∧ w.grownBy w' none := by
  have c0 := h.c0
  have c1 := h.c1
  have c2 := h.c2
  have c3 := h.c3
  have cl := h.lt
  have K := Lib.hid (right_k p)
  have S := Lib.hid (server_k r)
  rw [h1] at K
  clear h
  go_enter Try.func40, Try.ntmps40
  go_wp2_with fail
  refine (K.out _).mono ?_
  rintro e w1 ⟨rfl, rfl⟩
  go_wp2_with fail
  exact bodyPost_ret (v := .tuple #[.agg #[.int .i64 0, .int .i64 0, .int .i64 0], .int .i64 23]) (by simp [results, Try.results40, go_sem]) rfl ⟨rfl, grown_al (World.grownBy_alloc w _ none)⟩
set_option maxRecDepth 100000 in
set_option maxHeartbeats 1000000 in
theorem later_e2 (b : Nat) (sv d c s p q r day : Int) (w : World) (h : Ck 57 w b sv d c s) (hr : rightB day = true) (h1 : rightB p = true) (h2 : 5 < p - day) :
    Calls Try.prog 40 #[.pointer (some ⟨b, 0, none⟩), .agg #[.int .i64 p, .int .i64 q, .int .i64 r], .int .i64 day] w fun e w' => e = .returned (.tuple #[.agg #[.int .i64 0, .int .i64 0, .int .i64 0], .int .i64 23]) ∧ w.grownBy w' none := by
  have c0 := h.c0
  have c1 := h.c1
  have c2 := h.c2
  have c3 := h.c3
  have cl := h.lt
  have K := Lib.hid (right_k p)
  have S := Lib.hid (server_k r)
  have hb : 0 ≤ p ∧ p ≤ 100000 := by simpa [rightB] using h1
  have hb2 : 0 ≤ day ∧ day ≤ 100000 := by simpa [rightB] using hr
  rw [h1] at K
  clear h1 hr h
  go_enter Try.func40, Try.ntmps40
  go_wp2_with fail
  refine (K.out _).mono ?_
  rintro e w1 ⟨rfl, rfl⟩
  go_wp2_with fail
  exact bodyPost_ret (v := .tuple #[.agg #[.int .i64 0, .int .i64 0, .int .i64 0], .int .i64 23]) (by simp [results, Try.results40, go_sem]) rfl ⟨rfl, grown_al (World.grownBy_alloc w _ none)⟩
set_option maxRecDepth 100000 in
set_option maxHeartbeats 1000000 in
theorem later_e3 (b : Nat) (sv d c s p q r day : Int) (w : World) (h : Ck 57 w b sv d c s) (hr : rightB day = true) (h1 : rightB p = true) (h2 : p - day ≤ 5) (h3 : q < 0) :
    Calls Try.prog 40 #[.pointer (some ⟨b, 0, none⟩), .agg #[.int .i64 p, .int .i64 q, .int .i64 r], .int .i64 day] w fun e w' => e = .returned (.tuple #[.agg #[.int .i64 0, .int .i64 0, .int .i64 0], .int .i64 3]) ∧ w.grownBy w' none := by
  have c0 := h.c0
  have c1 := h.c1
  have c2 := h.c2
  have c3 := h.c3
  have cl := h.lt
  have K := Lib.hid (right_k p)
  have S := Lib.hid (server_k r)
  have hb : 0 ≤ p ∧ p ≤ 100000 := by simpa [rightB] using h1
  have hb2 : 0 ≤ day ∧ day ≤ 100000 := by simpa [rightB] using hr
  rw [h1] at K
  clear h1 hr h
  go_enter Try.func40, Try.ntmps40
  go_wp2_with fail
  refine (K.out _).mono ?_
  rintro e w1 ⟨rfl, rfl⟩
  go_wp2_with fail
  exact bodyPost_ret (v := .tuple #[.agg #[.int .i64 0, .int .i64 0, .int .i64 0], .int .i64 3]) (by simp [results, Try.results40, go_sem]) rfl ⟨rfl, grown_al (World.grownBy_alloc w _ none)⟩
set_option maxRecDepth 100000 in
set_option maxHeartbeats 1000000 in
theorem later_e4 (b : Nat) (sv d c s p q r day : Int) (w : World) (h : Ck 57 w b sv d c s) (hr : rightB day = true) (h1 : rightB p = true) (h2 : p - day ≤ 5) (h3 : 0 ≤ q) (h4 : 1073741824 < q) :
    Calls Try.prog 40 #[.pointer (some ⟨b, 0, none⟩), .agg #[.int .i64 p, .int .i64 q, .int .i64 r], .int .i64 day] w fun e w' => e = .returned (.tuple #[.agg #[.int .i64 0, .int .i64 0, .int .i64 0], .int .i64 3]) ∧ w.grownBy w' none := by
  have c0 := h.c0
  have c1 := h.c1
  have c2 := h.c2
  have c3 := h.c3
  have cl := h.lt
  have K := Lib.hid (right_k p)
  have S := Lib.hid (server_k r)
  have hb : 0 ≤ p ∧ p ≤ 100000 := by simpa [rightB] using h1
  have hb2 : 0 ≤ day ∧ day ≤ 100000 := by simpa [rightB] using hr
  rw [h1] at K
  clear h1 hr h
  go_enter Try.func40, Try.ntmps40
  go_wp2_with fail
  refine (K.out _).mono ?_
  rintro e w1 ⟨rfl, rfl⟩
  go_wp2_with fail
  exact bodyPost_ret (v := .tuple #[.agg #[.int .i64 0, .int .i64 0, .int .i64 0], .int .i64 3]) (by simp [results, Try.results40, go_sem]) rfl ⟨rfl, grown_al (World.grownBy_alloc w _ none)⟩
set_option maxRecDepth 100000 in
set_option maxHeartbeats 1000000 in
theorem later_e5 (b : Nat) (sv d c s p q r day : Int) (w : World) (h : Ck 57 w b sv d c s) (hr : rightB day = true) (h1 : rightB p = true) (h2 : p - day ≤ 5) (h3 : 0 ≤ q) (h4 : q ≤ 1073741824) (h5 : serverB r = false) :
    Calls Try.prog 40 #[.pointer (some ⟨b, 0, none⟩), .agg #[.int .i64 p, .int .i64 q, .int .i64 r], .int .i64 day] w fun e w' => e = .returned (.tuple #[.agg #[.int .i64 0, .int .i64 0, .int .i64 0], .int .i64 3]) ∧ w.grownBy w' none := by
  have c0 := h.c0
  have c1 := h.c1
  have c2 := h.c2
  have c3 := h.c3
  have cl := h.lt
  have K := Lib.hid (right_k p)
  have S := Lib.hid (server_k r)
  have hb : 0 ≤ p ∧ p ≤ 100000 := by simpa [rightB] using h1
  have hb2 : 0 ≤ day ∧ day ≤ 100000 := by simpa [rightB] using hr
  rw [h1] at K
  clear h1 hr h
  rw [h5] at S
  clear h5
  go_enter Try.func40, Try.ntmps40
  go_wp2_with fail
  refine (K.out _).mono ?_
  rintro e w1 ⟨rfl, rfl⟩
  go_wp2_with fail
  refine (S.out _).mono ?_
  rintro e w1 ⟨rfl, rfl⟩
  go_wp2_with fail
  exact bodyPost_ret (v := .tuple #[.agg #[.int .i64 0, .int .i64 0, .int .i64 0], .int .i64 3]) (by simp [results, Try.results40, go_sem]) rfl ⟨rfl, grown_al (World.grownBy_alloc w _ none)⟩
set_option maxRecDepth 100000 in
set_option maxHeartbeats 1000000 in
theorem later_a (b : Nat) (sv d c s p q r day : Int) (w : World) (h : Ck 57 w b sv d c s) (hr : rightB day = true) (h1 : rightB p = true) (h2 : p - day ≤ 5) (h3 : 0 ≤ q) (h4 : q ≤ 1073741824) (h5 : serverB r = true) (hl : lessB d c s p q r = true) :
    Calls Try.prog 40 #[.pointer (some ⟨b, 0, none⟩), .agg #[.int .i64 p, .int .i64 q, .int .i64 r], .int .i64 day] w fun e w' => e = .returned (.tuple #[.agg #[.int .i64 p, .int .i64 q, .int .i64 r], .int .i64 0]) ∧ w.grownBy w' none := by
  have c0 := h.c0
  have c1 := h.c1
  have c2 := h.c2
  have c3 := h.c3
  have cl := h.lt
  have K := Lib.hid (right_k p)
  have S := Lib.hid (server_k r)
  have HS := Lib.hid (fun w' (g : ((w.alloc (.cells #[.int .i64 p, .int .i64 q, .int .i64 r] 39)).alloc (.cells #[.int .i64 0, .int .i64 0, .int .i64 0] 39)).grownBy w' none) => (⟨(h.kept (grown_al (World.grownBy_alloc w _ none))).kept g, ((S3.new w p q r).kept (World.grownBy_alloc _ _ none)).kept g, (by have h := (S3.new (w.alloc (.cells #[.int .i64 p, .int .i64 q, .int .i64 r] 39)) 0 0 0).kept g; simpa using h), (grown_al (World.grownBy_alloc w _ none)).trans g⟩ : Ck 57 w' b sv d c s ∧ S3 w' w.heap.size p q r ∧ S3 w' (w.heap.size + 1) 0 0 0 ∧ w.grownBy w' none))
  have L := Lib.hid (less_k d c s p q r)
  rw [hl] at L
  rw [h5] at S
  clear h5 hl
  have hb : 0 ≤ p ∧ p ≤ 100000 := by simpa [rightB] using h1
  have hb2 : 0 ≤ day ∧ day ≤ 100000 := by simpa [rightB] using hr
  rw [h1] at K
  clear h1 hr h
  go_enter Try.func40, Try.ntmps40
  go_wp2_with fail
  refine (K.out _).mono ?_
  rintro e w1 ⟨rfl, rfl⟩
  go_wp2_with fail
  refine (S.out _).mono ?_
  rintro e w1 ⟨rfl, rfl⟩
  go_wp2_with fail
  clear c0 c1 c2 c3
  refine wp_region_noPanic ?_
  refine wp_region_held_drew (S := (fun w' => Ck 57 w' b sv d c s ∧ S3 w' w.heap.size p q r ∧ S3 w' (w.heap.size + 1) 0 0 0 ∧ w.grownBy w' none)) (by kernel_rfl) ?_ (fun hHeld => ?_)
  · (try dsimp only); (first | exact HS.out _ (grown_dr (World.grownBy.refl _ _)) | exact HS.out _ ((grown_dr (World.grownBy.refl _ _)).trans g))
  refine wpAnyH_take (i := 0) (oi := _) (v := ?_) rfl (by kernel_rfl) (by kernel_rfl) (by kernel_rfl) (fun _ _ _ h => h) (Or.inl ⟨by rfl, ?_⟩) (by assumption) ?_
  rotate_left 1
  · (intro w hSw; (try dsimp only at hSw); go_simp; first | done | with_reducible rfl)
  try go_simp
  refine wpAnyH_take (i := 1) (oi := _) (v := ?_) rfl (by kernel_rfl) (by kernel_rfl) (by kernel_rfl) (fun _ _ _ h => h) (Or.inl ⟨by rfl, ?_⟩) (by assumption) ?_
  rotate_left 1
  · (intro w hSw; (try dsimp only at hSw); go_simp; first | done | with_reducible rfl)
  try go_simp
  refine wpAnyH_take (i := 2) (oi := _) (v := ?_) rfl (by kernel_rfl) (by kernel_rfl) (by kernel_rfl) (fun _ _ _ h => h) (Or.inl ⟨by rfl, ?_⟩) (by assumption) ?_
  rotate_left 1
  · (intro w hSw; (try dsimp only at hSw); go_simp; first | done | with_reducible rfl)
  try go_simp
  refine wpAnyH_take (i := 3) (oi := _) (v := .agg #[.int .i64 d, .int .i64 c, .int .i64 s]) rfl (by kernel_rfl) (by kernel_rfl) (by kernel_rfl) (fun _ _ _ h => h) (Or.inl ⟨by kernel_rfl, ?_⟩) (by assumption) ?_
  · (intro w hSw; (try dsimp only at hSw); go_simp; obtain ⟨k1, k2, k3, k4⟩ := hSw; have q0 := k1.c1; have q1 := k1.c2; have q2 := k1.c3; clear k1 k2 k3 k4; go_simp; first | done | with_reducible rfl)
  try go_simp
  refine wpAnyH_take (i := 4) (oi := _) (v := .agg #[.int .i64 p, .int .i64 q, .int .i64 r]) rfl (by kernel_rfl) (by kernel_rfl) (by kernel_rfl) (fun _ _ _ h => h) (Or.inl ⟨by kernel_rfl, ?_⟩) (by assumption) ?_
  · (intro w hSw; (try dsimp only at hSw); go_simp; obtain ⟨k1, k2, k3, k4⟩ := hSw; have q0 := k2.c0; have q1 := k2.c1; have q2 := k2.c2; clear k1 k2 k3 k4; go_simp; first | done | with_reducible rfl)
  try go_simp
  refine wpAnyH_ready (rs := [5]) (by kernel_rfl) (by simp) ?_
  refine AllReadyH.cons (o := _) rfl (fun K hK => ?_) ?_
  · clear hHeld
    go_simp
    refine (L.out _).mono ?_
    rintro e w' ⟨rfl, g⟩
    first | (refine hK.out _ _ ?_ (fun hHeld => ?_)) | (go_wp2_with fail; refine hK.out _ _ ?_ (fun hHeld => ?_))
    · (try dsimp only); (first | exact HS.out _ (grown_dr (World.grownBy.refl _ _)) | exact HS.out _ ((grown_dr (World.grownBy.refl _ _)).trans g))
    clear hK K
    refine wpAnyH_done (by kernel_rfl) ?_ _
    refine NoPanic.normal ?_
    go_simp
    obtain ⟨k1, k2, k3, k4⟩ := hHeld
    have c0 := k1.c0
    have c1 := k1.c1
    have c2 := k1.c2
    have c3 := k1.c3
    have a0 := k2.c0
    have a1 := k2.c1
    have a2 := k2.c2
    have b0 := k3.c0
    have b1 := k3.c1
    have b2 := k3.c2
    have bf := k3.fz
    have l1 := k1.lt
    have l2 := k2.lt
    have l3 := k3.lt
    go_wp2_with fail
    have HR := k3.set p q r
    have r0 := HR.c0
    have r1 := HR.c1
    have r2 := HR.c2
    exact bodyPost_ret (v := .tuple #[.agg #[.int .i64 p, .int .i64 q, .int .i64 r], .int .i64 0]) (by simp only [results, Try.results40]; go_simp) rfl
      ⟨rfl, grown_set (grown_set (grown_set k4 (.inl (by omega))) (.inl (by omega))) (.inl (by omega))⟩
  exact AllReadyH.nil
set_option maxRecDepth 100000 in
set_option maxHeartbeats 1000000 in
theorem later_b (b : Nat) (sv d c s p q r day : Int) (w : World) (h : Ck 57 w b sv d c s) (hr : rightB day = true) (h1 : rightB p = true) (h2 : p - day ≤ 5) (h3 : 0 ≤ q) (h4 : q ≤ 1073741824) (h5 : serverB r = true) (hl : lessB d c s p q r = false) :
    Calls Try.prog 40 #[.pointer (some ⟨b, 0, none⟩), .agg #[.int .i64 p, .int .i64 q, .int .i64 r], .int .i64 day] w fun e w' => e = .returned (.tuple #[.agg #[.int .i64 d, .int .i64 c, .int .i64 s], .int .i64 0]) ∧ w.grownBy w' none := by
  have c0 := h.c0
  have c1 := h.c1
  have c2 := h.c2
  have c3 := h.c3
  have cl := h.lt
  have K := Lib.hid (right_k p)
  have S := Lib.hid (server_k r)
  have HS := Lib.hid (fun w' (g : ((w.alloc (.cells #[.int .i64 p, .int .i64 q, .int .i64 r] 39)).alloc (.cells #[.int .i64 0, .int .i64 0, .int .i64 0] 39)).grownBy w' none) => (⟨(h.kept (grown_al (World.grownBy_alloc w _ none))).kept g, ((S3.new w p q r).kept (World.grownBy_alloc _ _ none)).kept g, (by have h := (S3.new (w.alloc (.cells #[.int .i64 p, .int .i64 q, .int .i64 r] 39)) 0 0 0).kept g; simpa using h), (grown_al (World.grownBy_alloc w _ none)).trans g⟩ : Ck 57 w' b sv d c s ∧ S3 w' w.heap.size p q r ∧ S3 w' (w.heap.size + 1) 0 0 0 ∧ w.grownBy w' none))
  have L := Lib.hid (less_k d c s p q r)
  rw [hl] at L
  rw [h5] at S
  clear h5 hl
  have hb : 0 ≤ p ∧ p ≤ 100000 := by simpa [rightB] using h1
  have hb2 : 0 ≤ day ∧ day ≤ 100000 := by simpa [rightB] using hr
  rw [h1] at K
  clear h1 hr h
  go_enter Try.func40, Try.ntmps40
  go_wp2_with fail
  refine (K.out _).mono ?_
  rintro e w1 ⟨rfl, rfl⟩
  go_wp2_with fail
  refine (S.out _).mono ?_
  rintro e w1 ⟨rfl, rfl⟩
  go_wp2_with fail
  clear c0 c1 c2 c3
  refine wp_region_noPanic ?_
  refine wp_region_held_drew (S := (fun w' => Ck 57 w' b sv d c s ∧ S3 w' w.heap.size p q r ∧ S3 w' (w.heap.size + 1) 0 0 0 ∧ w.grownBy w' none)) (by kernel_rfl) ?_ (fun hHeld => ?_)
  · (try dsimp only); (first | exact HS.out _ (grown_dr (World.grownBy.refl _ _)) | exact HS.out _ ((grown_dr (World.grownBy.refl _ _)).trans g))
  refine wpAnyH_take (i := 0) (oi := _) (v := ?_) rfl (by kernel_rfl) (by kernel_rfl) (by kernel_rfl) (fun _ _ _ h => h) (Or.inl ⟨by rfl, ?_⟩) (by assumption) ?_
  rotate_left 1
  · (intro w hSw; (try dsimp only at hSw); go_simp; first | done | with_reducible rfl)
  try go_simp
  refine wpAnyH_take (i := 1) (oi := _) (v := ?_) rfl (by kernel_rfl) (by kernel_rfl) (by kernel_rfl) (fun _ _ _ h => h) (Or.inl ⟨by rfl, ?_⟩) (by assumption) ?_
  rotate_left 1
  · (intro w hSw; (try dsimp only at hSw); go_simp; first | done | with_reducible rfl)
  try go_simp
  refine wpAnyH_take (i := 2) (oi := _) (v := ?_) rfl (by kernel_rfl) (by kernel_rfl) (by kernel_rfl) (fun _ _ _ h => h) (Or.inl ⟨by rfl, ?_⟩) (by assumption) ?_
  rotate_left 1
  · (intro w hSw; (try dsimp only at hSw); go_simp; first | done | with_reducible rfl)
  try go_simp
  refine wpAnyH_take (i := 3) (oi := _) (v := .agg #[.int .i64 d, .int .i64 c, .int .i64 s]) rfl (by kernel_rfl) (by kernel_rfl) (by kernel_rfl) (fun _ _ _ h => h) (Or.inl ⟨by kernel_rfl, ?_⟩) (by assumption) ?_
  · (intro w hSw; (try dsimp only at hSw); go_simp; obtain ⟨k1, k2, k3, k4⟩ := hSw; have q0 := k1.c1; have q1 := k1.c2; have q2 := k1.c3; clear k1 k2 k3 k4; go_simp; first | done | with_reducible rfl)
  try go_simp
  refine wpAnyH_take (i := 4) (oi := _) (v := .agg #[.int .i64 p, .int .i64 q, .int .i64 r]) rfl (by kernel_rfl) (by kernel_rfl) (by kernel_rfl) (fun _ _ _ h => h) (Or.inl ⟨by kernel_rfl, ?_⟩) (by assumption) ?_
  · (intro w hSw; (try dsimp only at hSw); go_simp; obtain ⟨k1, k2, k3, k4⟩ := hSw; have q0 := k2.c0; have q1 := k2.c1; have q2 := k2.c2; clear k1 k2 k3 k4; go_simp; first | done | with_reducible rfl)
  try go_simp
  refine wpAnyH_ready (rs := [5]) (by kernel_rfl) (by simp) ?_
  refine AllReadyH.cons (o := _) rfl (fun K hK => ?_) ?_
  · clear hHeld
    go_simp
    refine (L.out _).mono ?_
    rintro e w' ⟨rfl, g⟩
    first | (refine hK.out _ _ ?_ (fun hHeld => ?_)) | (go_wp2_with fail; refine hK.out _ _ ?_ (fun hHeld => ?_))
    · (try dsimp only); (first | exact HS.out _ (grown_dr (World.grownBy.refl _ _)) | exact HS.out _ ((grown_dr (World.grownBy.refl _ _)).trans g))
    clear hK K
    refine wpAnyH_done (by kernel_rfl) ?_ _
    refine NoPanic.normal ?_
    go_simp
    obtain ⟨k1, k2, k3, k4⟩ := hHeld
    have c0 := k1.c0
    have c1 := k1.c1
    have c2 := k1.c2
    have c3 := k1.c3
    have a0 := k2.c0
    have a1 := k2.c1
    have a2 := k2.c2
    have b0 := k3.c0
    have b1 := k3.c1
    have b2 := k3.c2
    have bf := k3.fz
    have l1 := k1.lt
    have l2 := k2.lt
    have l3 := k3.lt
    go_wp2_with fail
    have HR := k3.set d c s
    have r0 := HR.c0
    have r1 := HR.c1
    have r2 := HR.c2
    exact bodyPost_ret (v := .tuple #[.agg #[.int .i64 d, .int .i64 c, .int .i64 s], .int .i64 0]) (by simp only [results, Try.results40]; go_simp) rfl
      ⟨rfl, grown_set (grown_set (grown_set k4 (.inl (by omega))) (.inl (by omega))) (.inl (by omega))⟩
  exact AllReadyH.nil
theorem S3.keptR {w w' : World} {b : Nat} {row : Option Nat} {d c s : Int} (h : S3 w b d c s) (hg : w.grownBy w' row) (hne : some b ≠ row) : S3 w' b d c s := (hg.block b h.lt hne).trans h
theorem fn_k (b p1 p2 : Nat) (day : Int) (p q r x y z er : Int) (w : World) (hp : w.cell? ⟨p1, 0, none⟩ = some (.pointer (some ⟨b, 0, none⟩))) (hs : S3 w p2 p q r)
    (HL : ∀ w1, w.grownBy w1 none → Calls Try.prog 40 #[.pointer (some ⟨b, 0, none⟩), .agg #[.int .i64 p, .int .i64 q, .int .i64 r], .int .i64 day] w1 fun e w' => e = .returned (.tuple #[.agg #[.int .i64 x, .int .i64 y, .int .i64 z], .int .i64 er]) ∧ w1.grownBy w' none) :
    Calls Try.prog 39 #[.int .i64 day, .pointer (some ⟨p1, 0, none⟩), .pointer (some ⟨p2, 0, none⟩)] w fun e w' => e = .returned (.tuple #[.agg #[.int .i64 x, .int .i64 y, .int .i64 z], .int .i64 er]) ∧ w.grownBy w' none := by
  have c0 := hs.c0
  have c1 := hs.c1
  have c2 := hs.c2
  have l2 := hs.lt
  have l1 : p1 < w.heap.size := World.block_lt_of_cell? w _ hp
  have HL := Lib.hid HL
  clear hs
  go_enter Try.func39, Try.ntmps39
  go_wp2_with fail
  refine (HL.out _ (World.grownBy_alloc w _ none)).mono ?_
  rintro e w1 ⟨rfl, g⟩
  have HO := (S3.new w 0 0 0).kept g
  have o0 := HO.c0
  have o1 := HO.c1
  have o2 := HO.c2
  have of := HO.fz
  have hs1 := HO.lt
  have HS := Lib.hid HO
  clear HO
  go_wp2_with fail
  have HR := HS.out.set x y z
  have r0 := HR.c0
  have r1 := HR.c1
  have r2 := HR.c2
  exact bodyPost_ret (v := .tuple #[.agg #[.int .i64 x, .int .i64 y, .int .i64 z], .int .i64 er]) (by simp only [results, Try.results39]; go_simp) rfl
    ⟨rfl, grown_set (grown_set (grown_set ((World.grownBy_alloc w _ none).trans g) (.inl (by omega))) (.inl (by omega))) (.inl (by omega))⟩
theorem now_w (a : Option Addr) (row : Option Nat) (day x y z er : Int) (w : World) (hrow : some w.heap.size ≠ row) (Pw : World → Prop) (HP : ∀ wx o i v, w.heap.size ≤ o → Pw wx → Pw (wx.setCell ⟨o, i, none⟩ v))
    (HM : Calls Try.prog 38 #[.pointer a, .int .i64 day, .func (.func 41) #[.pointer a] #[]] (w.alloc (.cells #[.int .i64 0, .int .i64 0, .int .i64 0] 39)) fun e w' => e = .returned (.tuple #[.agg #[.int .i64 x, .int .i64 y, .int .i64 z], .int .i64 er]) ∧ Pw w' ∧ (w.alloc (.cells #[.int .i64 0, .int .i64 0, .int .i64 0] 39)).grownBy w' row) :
    Calls Try.prog 30 #[.pointer a, .int .i64 day] w fun e w' => e = .returned (.tuple #[.agg #[.int .i64 x, .int .i64 y, .int .i64 z], .int .i64 er]) ∧ Pw w' ∧ w.grownBy w' row := by
  have HM := Lib.hid HM
  have HP := Lib.hid HP
  have HW := Lib.hid hrow
  clear hrow
  go_enter Try.func30, Try.ntmps30
  go_wp2_with fail
  refine HM.out.mono ?_
  rintro e w1 ⟨rfl, hP, g⟩
  have HO := (S3.new w 0 0 0).keptR g HW.out
  have o0 := HO.c0
  have o1 := HO.c1
  have o2 := HO.c2
  have of := HO.fz
  have hs1 := HO.lt
  have HS := Lib.hid HO
  have hP := Lib.hid hP
  clear HO
  go_wp2_with fail
  have HR := HS.out.set x y z
  have r0 := HR.c0
  have r1 := HR.c1
  have r2 := HR.c2
  exact bodyPost_ret (v := .tuple #[.agg #[.int .i64 x, .int .i64 y, .int .i64 z], .int .i64 er]) (by simp only [results, Try.results30]; go_simp) rfl
    ⟨rfl, HP.out _ _ _ _ (Nat.le_refl _) (HP.out _ _ _ _ (Nat.le_refl _) (HP.out _ _ _ _ (Nat.le_refl _) hP.out)), grown_set (grown_set (grown_set ((World.grownBy_alloc w _ row).trans g) (.inl (by omega))) (.inl (by omega))) (.inl (by omega))⟩
theorem hear_w (a : Option Addr) (row : Option Nat) (day p q r x y z er : Int) (w : World) (Pw : World → Prop) (HQ : ∀ wx o, Pw wx → Pw (wx.alloc o))
    (HM : Calls Try.prog 38 #[.pointer a, .int .i64 day, .func (.func 39) #[] #[.pointer (some ⟨w.heap.size, 0, none⟩), .pointer (some ⟨w.heap.size + 1, 0, none⟩)]] ((w.alloc (.cells #[.pointer a] 34)).alloc (.cells #[.int .i64 p, .int .i64 q, .int .i64 r] 39)) fun e w' => e = .returned (.tuple #[.agg #[.int .i64 x, .int .i64 y, .int .i64 z], .int .i64 er]) ∧ Pw w' ∧ ((w.alloc (.cells #[.pointer a] 34)).alloc (.cells #[.int .i64 p, .int .i64 q, .int .i64 r] 39)).grownBy w' row) :
    Calls Try.prog 28 #[.pointer a, .agg #[.int .i64 p, .int .i64 q, .int .i64 r], .int .i64 day] w fun e w' => e = .returned (.int .i64 er) ∧ Pw w' ∧ w.grownBy w' row := by
  have HM := Lib.hid HM
  have HQ := Lib.hid HQ
  go_enter Try.func28, Try.ntmps28
  go_wp2_with fail
  refine HM.out.mono ?_
  rintro e w1 ⟨rfl, hP, g⟩
  have hP := Lib.hid hP
  go_wp2_with fail
  go_ret
  exact ⟨rfl, HQ.out _ _ hP.out, (((World.grownBy_alloc w _ row).trans (World.grownBy_alloc _ _ row)).trans g).trans (World.grownBy_alloc _ _ row)⟩
end Go.Proofs.Ytgfifpbmjkjnpaa
