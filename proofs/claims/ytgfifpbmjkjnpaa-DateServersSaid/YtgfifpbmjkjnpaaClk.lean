/-
  The clocks of date, by their contracts.
-/
import Derived.Test.YtgfifpbmjkjnpaaLess
import Derived.RangeFuncRecord
import Derived.Deep.AppendLies
import Derived.Maps.Range
namespace Go.Proofs.Ytgfifpbmjkjnpaa
open Go.RowKit
theorem new_k (n : Int) (hn : serverB n = true) (w : World) : Calls Try.prog 25 #[.int .i64 n] w fun e w' => e = .returned (.pointer (some ⟨w.heap.size, 0, none⟩)) ∧ w' = w.alloc (.cells #[.int .i64 n, .int .i64 0, .int .i64 (-1), .int .i64 0] 57) := by
  have K := server_k n w
  rw [hn] at K
  go_enter Try.func25, Try.ntmps25
  go_wp2_with fail
  refine K.mono ?_
  rintro e w' ⟨rfl, rfl⟩
  go_wp2_with fail
  go_ret
  exact ⟨rfl, rfl⟩
theorem new_no (n : Int) (hn : serverB n = false) (w : World) : Calls Try.prog 25 #[.int .i64 n] w fun e w' => e = .returned (.pointer none) ∧ w = w' := by
  have K := server_k n w
  rw [hn] at K
  go_enter Try.func25, Try.ntmps25
  go_wp2_with fail
  refine K.mono ?_
  rintro e w' ⟨rfl, rfl⟩
  go_wp2_with fail
  go_ret
  exact ⟨rfl, rfl⟩
/-- a clock at block b: its server, and the last stamp -/
def Ck (T : TypeId) (w : World) (b : Nat) (sv d c s : Int) : Prop := w.heap[b]? = some (.cells #[.int .i64 sv, .int .i64 d, .int .i64 c, .int .i64 s] T (0, 0))
theorem Ck.c0 {T : TypeId} {w : World} {b : Nat} {sv d c s : Int} (h : Ck T w b sv d c s) : w.cell? ⟨b, 0, none⟩ = some (.int .i64 sv) := by unfold Ck at h; simp [World.cell?, h]
theorem Ck.c1 {T : TypeId} {w : World} {b : Nat} {sv d c s : Int} (h : Ck T w b sv d c s) : w.cell? ⟨b, 1, none⟩ = some (.int .i64 d) := by unfold Ck at h; simp [World.cell?, h]
theorem Ck.c2 {T : TypeId} {w : World} {b : Nat} {sv d c s : Int} (h : Ck T w b sv d c s) : w.cell? ⟨b, 2, none⟩ = some (.int .i64 c) := by unfold Ck at h; simp [World.cell?, h]
theorem Ck.c3 {T : TypeId} {w : World} {b : Nat} {sv d c s : Int} (h : Ck T w b sv d c s) : w.cell? ⟨b, 3, none⟩ = some (.int .i64 s) := by unfold Ck at h; simp [World.cell?, h]
theorem Ck.fz {T : TypeId} {w : World} {b : Nat} {sv d c s : Int} (h : Ck T w b sv d c s) (i : Nat) : w.frozen? ⟨b, i, none⟩ = false := by unfold Ck at h; simp [World.frozen?, h]
theorem Ck.lt {T : TypeId} {w : World} {b : Nat} {sv d c s : Int} (h : Ck T w b sv d c s) : b < w.heap.size := by
  rcases Nat.lt_or_ge b w.heap.size with hlt | hge
  · exact hlt
  · unfold Ck at h; rw [Array.getElem?_eq_none hge] at h; cases h
theorem Ck.grown {T : TypeId} {w w' : World} {b : Nat} {sv d c s : Int} {row : Option Nat} (h : Ck T w b sv d c s) (hg : w.grownBy w' row) (hne : some b ≠ row) : Ck T w' b sv d c s :=
  (hg.block b h.lt hne).trans h
theorem Ck.kept {T : TypeId} {w w' : World} {b : Nat} {sv d c s : Int} (h : Ck T w b sv d c s) (hg : w.grownBy w' none) : Ck T w' b sv d c s := h.grown hg (by simp)
theorem Ck.set {T : TypeId} {w : World} {b : Nat} {sv d c s : Int} (h : Ck T w b sv d c s) (x y z : Int) : Ck T (((w.setCell ⟨b, 1, none⟩ (.int .i64 x)).setCell ⟨b, 2, none⟩ (.int .i64 y)).setCell ⟨b, 3, none⟩ (.int .i64 z)) b sv x y z := by
  unfold Ck at h ⊢
  simp [World.setCell, Array.getElem?_modify, h]
theorem grown_setCell (w : World) (b i : Nat) (v : Value) : w.grownBy (w.setCell ⟨b, i, none⟩ v) (some b) :=
  ⟨rfl, rfl, rfl, by simp [World.setCell], fun k _ hne => Below.heap_setCell w _ v k (by rintro rfl; exact hne rfl)⟩
theorem grown_set {a x : World} {row : Option Nat} {o i : Nat} {v : Value} (h : a.grownBy x row) (ho : a.heap.size ≤ o ∨ row = some o) : a.grownBy (x.setCell ⟨o, i, none⟩ v) row :=
  h.andThen (grown_setCell x o i v) (by rintro j ⟨⟩; exact ho)
theorem Ck.far {T : TypeId} {w : World} {b o i : Nat} {v : Value} {sv d c s : Int} (h : Ck T w b sv d c s) (hne : b ≠ o) : Ck T (w.setCell ⟨o, i, none⟩ v) b sv d c s :=
  h.grown (grown_setCell w o i v) (by simpa using hne)
/-- a stamp at block o -/
def S3 (w : World) (o : Nat) (d c s : Int) : Prop := w.heap[o]? = some (.cells #[.int .i64 d, .int .i64 c, .int .i64 s] 39 (0, 0))
theorem S3.c0 {w : World} {b : Nat} {d c s : Int} (h : S3 w b d c s) : w.cell? ⟨b, 0, none⟩ = some (.int .i64 d) := by unfold S3 at h; simp [World.cell?, h]
theorem S3.c1 {w : World} {b : Nat} {d c s : Int} (h : S3 w b d c s) : w.cell? ⟨b, 1, none⟩ = some (.int .i64 c) := by unfold S3 at h; simp [World.cell?, h]
theorem S3.c2 {w : World} {b : Nat} {d c s : Int} (h : S3 w b d c s) : w.cell? ⟨b, 2, none⟩ = some (.int .i64 s) := by unfold S3 at h; simp [World.cell?, h]
theorem S3.fz {w : World} {b : Nat} {d c s : Int} (h : S3 w b d c s) (i : Nat) : w.frozen? ⟨b, i, none⟩ = false := by unfold S3 at h; simp [World.frozen?, h]
theorem S3.lt {w : World} {b : Nat} {d c s : Int} (h : S3 w b d c s) : b < w.heap.size := by
  rcases Nat.lt_or_ge b w.heap.size with hlt | hge
  · exact hlt
  · unfold S3 at h; rw [Array.getElem?_eq_none hge] at h; cases h
theorem S3.kept {w w' : World} {b : Nat} {d c s : Int} (h : S3 w b d c s) (hg : w.grownBy w' none) : S3 w' b d c s := (hg.block b h.lt (by simp)).trans h
theorem S3.far {w : World} {b o i : Nat} {v : Value} {d c s : Int} (h : S3 w b d c s) (hne : b ≠ o) : S3 (w.setCell ⟨o, i, none⟩ v) b d c s :=
  ((grown_setCell w o i v).block b h.lt (by simpa using hne)).trans h
theorem S3.set {w : World} {b : Nat} {d c s : Int} (h : S3 w b d c s) (x y z : Int) : S3 (((w.setCell ⟨b, 0, none⟩ (.int .i64 x)).setCell ⟨b, 1, none⟩ (.int .i64 y)).setCell ⟨b, 2, none⟩ (.int .i64 z)) b x y z := by
  unfold S3 at h ⊢
  simp [World.setCell, Array.getElem?_modify, h]
theorem S3.new (w : World) (d c s : Int) : S3 (w.alloc (.cells #[.int .i64 d, .int .i64 c, .int .i64 s] 39)) w.heap.size d c s := World.alloc_heap_new w _
theorem Ck.new (w : World) (n : Int) : Ck 57 (w.alloc (.cells #[.int .i64 n, .int .i64 0, .int .i64 (-1), .int .i64 0] 57)) w.heap.size n 0 (-1) 0 := World.alloc_heap_new w _
/-- what a method gives: a stamp, and an error -/
def res (x y z er : Int) : Value := .tuple #[.agg #[.int .i64 x, .int .i64 y, .int .i64 z], .int .i64 er]
theorem next_a (b : Nat) (sv d c s day : Int) (w : World) (h : Ck 57 w b sv d c s) (hd : d < day) : Calls Try.prog 41 #[.pointer (some ⟨b, 0, none⟩), .int .i64 day] w fun e w' => e = .returned (.tuple #[.agg #[.int .i64 day, .int .i64 0, .int .i64 sv], .int .i64 0]) ∧ w.grownBy w' none := by
  have c0 := h.c0
  have c1 := h.c1
  have c2 := h.c2
  have c3 := h.c3
  have hs : b < w.heap.size := World.block_lt_of_cell? w _ c0
  clear h
  go_enter Try.func41, Try.ntmps41
  go_wp2_with fail
  exact bodyPost_ret (v := .tuple #[.agg #[.int .i64 day, .int .i64 0, .int .i64 sv], .int .i64 0]) (by simp [results, Try.results41, go_sem]) rfl ⟨rfl, World.grownBy_alloc w _ none⟩
theorem next_b (b : Nat) (sv d c s day : Int) (w : World) (h : Ck 57 w b sv d c s) (hd : day ≤ d) (hc : 1073741824 ≤ c) : Calls Try.prog 41 #[.pointer (some ⟨b, 0, none⟩), .int .i64 day] w fun e w' => e = .returned (.tuple #[.agg #[.int .i64 0, .int .i64 0, .int .i64 0], .int .i64 3]) ∧ w.grownBy w' none := by
  have c0 := h.c0
  have c1 := h.c1
  have c2 := h.c2
  have c3 := h.c3
  have hs : b < w.heap.size := World.block_lt_of_cell? w _ c0
  clear h
  go_enter Try.func41, Try.ntmps41
  go_wp2_with fail
  exact bodyPost_ret (v := .tuple #[.agg #[.int .i64 0, .int .i64 0, .int .i64 0], .int .i64 3]) (by simp [results, Try.results41, go_sem]) rfl ⟨rfl, World.grownBy_alloc w _ none⟩
set_option maxRecDepth 100000 in
theorem next_c (b : Nat) (sv d c s day : Int) (w : World) (h : Ck 57 w b sv d c s) (hd : day ≤ d) (hc0 : -1 ≤ c) (hc : c < 1073741824) : Calls Try.prog 41 #[.pointer (some ⟨b, 0, none⟩), .int .i64 day] w fun e w' => e = .returned (.tuple #[.agg #[.int .i64 d, .int .i64 (c + 1), .int .i64 sv], .int .i64 0]) ∧ w.grownBy w' none := by
  have c0 := h.c0
  have c1 := h.c1
  have c2 := h.c2
  have c3 := h.c3
  have hs : b < w.heap.size := World.block_lt_of_cell? w _ c0
  clear h
  have hne : w.heap.size ≠ b := by omega
  have hne' : b ≠ w.heap.size := by omega
  go_enter Try.func41, Try.ntmps41
  go_wp2_with fail
  refine wp_region_noPanic ?_
  refine wp_region_held_drew (S := (fun w' => w'.cell? ⟨b, 0, none⟩ = some (.int .i64 sv) ∧ w'.cell? ⟨b, 1, none⟩ = some (.int .i64 d) ∧ w'.cell? ⟨b, 2, none⟩ = some (.int .i64 c))) (by kernel_rfl) ?_ (fun hHeld => ?_)
  · (try dsimp only); (first | assumption | go_keep)
  refine wpAnyH_take (i := 0) (oi := _) (v := ?_) rfl (by kernel_rfl) (by kernel_rfl) (by kernel_rfl) (fun _ _ _ h => h) (Or.inl ⟨by rfl, ?_⟩) (by assumption) ?_
  rotate_left 1
  · (intro w hSw; (try dsimp only at hSw); go_simp; first | done | with_reducible rfl)
  try go_simp
  refine wpAnyH_take (i := 1) (oi := _) (v := ?_) rfl (by kernel_rfl) (by kernel_rfl) (by kernel_rfl) (fun _ _ _ h => h) (Or.inl ⟨by rfl, ?_⟩) (by assumption) ?_
  rotate_left 1
  · (intro w hSw; (try dsimp only at hSw); go_simp; first | done | with_reducible rfl)
  try go_simp
  refine wpAnyH_take (i := 2) (oi := _) (v := ?_) rfl (by kernel_rfl) (by kernel_rfl) (by kernel_rfl) (fun _ _ _ h => h) (Or.inl ⟨by rfl, ?_⟩) (by assumption) ?_
  rotate_left 1
  · (intro w hSw; (try dsimp only at hSw); go_simp; first | done | with_reducible rfl)
  try go_simp
  refine wpAnyH_take (i := 3) (oi := _) (v := ?_) rfl (by kernel_rfl) (by kernel_rfl) (by kernel_rfl) (fun _ _ _ h => h) (Or.inl ⟨by rfl, ?_⟩) (by assumption) ?_
  rotate_left 1
  · (intro w hSw; (try dsimp only at hSw); go_simp; first | done | with_reducible rfl)
  try go_simp
  refine wpAnyH_take (i := 4) (oi := _) (v := ?_) rfl (by kernel_rfl) (by kernel_rfl) (by kernel_rfl) (fun _ _ _ h => h) (Or.inl ⟨by rfl, ?_⟩) (by assumption) ?_
  rotate_left 1
  · (intro w hSw; (try dsimp only at hSw); go_simp; first | done | with_reducible rfl)
  try go_simp
  refine wpAnyH_take (i := 5) (oi := _) (v := ?_) rfl (by kernel_rfl) (by kernel_rfl) (by kernel_rfl) (fun _ _ _ h => h) (Or.inl ⟨by rfl, ?_⟩) (by assumption) ?_
  rotate_left 1
  · (intro w hSw; (try dsimp only at hSw); go_simp; first | done | with_reducible rfl)
  try go_simp
  refine wpAnyH_take (i := 6) (oi := _) (v := ?_) rfl (by kernel_rfl) (by kernel_rfl) (by kernel_rfl) (fun _ _ _ h => h) (Or.inl ⟨by rfl, ?_⟩) (by assumption) ?_
  rotate_left 1
  · (intro w hSw; (try dsimp only at hSw); go_simp; first | done | with_reducible rfl)
  try go_simp
  refine wpAnyH_take (i := 7) (oi := _) (v := ?_) rfl (by kernel_rfl) (by kernel_rfl) (by kernel_rfl) (fun _ _ _ h => h) (Or.inl ⟨by rfl, ?_⟩) (by assumption) ?_
  rotate_left 1
  · (intro w hSw; (try dsimp only at hSw); go_simp; first | done | with_reducible rfl)
  try go_simp
  refine wpAnyH_take (i := 8) (oi := _) (v := ?_) rfl (by kernel_rfl) (by kernel_rfl) (by kernel_rfl) (fun _ _ _ h => h) (Or.inl ⟨by rfl, ?_⟩) (by assumption) ?_
  rotate_left 1
  · (intro w hSw; (try dsimp only at hSw); go_simp; first | done | with_reducible rfl)
  try go_simp
  refine wpAnyH_take (i := 9) (oi := _) (v := ?_) rfl (by kernel_rfl) (by kernel_rfl) (by kernel_rfl) (fun _ _ _ h => h) (Or.inl ⟨by rfl, ?_⟩) (by assumption) ?_
  rotate_left 1
  · (intro w hSw; (try dsimp only at hSw); go_simp; first | done | with_reducible rfl)
  try go_simp
  refine wpAnyH_take (i := 10) (oi := _) (v := .int .i64 (c + 1)) rfl (by kernel_rfl) (by kernel_rfl) (by kernel_rfl) (fun _ _ _ h => h) (Or.inl ⟨by kernel_rfl, ?_⟩) (by assumption) ?_
  · (intro w hSw; (try dsimp only at hSw); go_simp; rw [IntKind.wrap_i64]; omega)
  try go_simp
  refine wpAnyH_take (i := 11) (oi := _) (v := ?_) rfl (by kernel_rfl) (by kernel_rfl) (by kernel_rfl) (fun _ _ _ h => h) (Or.inl ⟨by rfl, ?_⟩) (by assumption) ?_
  rotate_left 1
  · (intro w hSw; (try dsimp only at hSw); go_simp; first | done | with_reducible rfl)
  try go_simp
  refine wpAnyH_take (i := 12) (oi := _) (v := ?_) rfl (by kernel_rfl) (by kernel_rfl) (by kernel_rfl) (fun _ _ _ h => h) (Or.inl ⟨by rfl, ?_⟩) (by assumption) ?_
  rotate_left 1
  · (intro w hSw; (try dsimp only at hSw); go_simp; first | done | with_reducible rfl)
  try go_simp
  refine wpAnyH_take (i := 13) (oi := _) (v := ?_) rfl (by kernel_rfl) (by kernel_rfl) (by kernel_rfl) (fun _ _ _ h => h) (Or.inl ⟨by rfl, ?_⟩) (by assumption) ?_
  rotate_left 1
  · (intro w hSw; (try dsimp only at hSw); go_simp; first | done | with_reducible rfl)
  try go_simp
  refine wpAnyH_take (i := 14) (oi := _) (v := ?_) rfl (by kernel_rfl) (by kernel_rfl) (by kernel_rfl) (fun _ _ _ h => h) (Or.inl ⟨by rfl, ?_⟩) (by assumption) ?_
  rotate_left 1
  · (intro w hSw; (try dsimp only at hSw); go_simp; first | done | with_reducible rfl)
  try go_simp
  refine wpAnyH_take (i := 15) (oi := _) (v := ?_) rfl (by kernel_rfl) (by kernel_rfl) (by kernel_rfl) (fun _ _ _ h => h) (Or.inl ⟨by rfl, ?_⟩) (by assumption) ?_
  rotate_left 1
  · (intro w hSw; (try dsimp only at hSw); go_simp; first | done | with_reducible rfl)
  try go_simp
  refine wpAnyH_ready (rs := [16]) (by kernel_rfl) (by simp) ?_
  refine AllReadyH.cons (o := _) rfl (fun K hK => ?_) ?_
  · clear hHeld
    go_simp
    first | (refine hK.out _ _ ?_ (fun hHeld => ?_)) | (go_wp2_with fail; refine hK.out _ _ ?_ (fun hHeld => ?_))
    · (try dsimp only); (first | assumption | go_keep)
    clear hK K
    refine wpAnyH_take (i := 17) (oi := _) (v := ?_) rfl (by kernel_rfl) (by kernel_rfl) (by kernel_rfl) (fun _ _ _ h => h) (Or.inl ⟨by rfl, ?_⟩) (by assumption) ?_
    rotate_left 1
    · (intro w hSw; (try dsimp only at hSw); go_simp; first | done | with_reducible rfl)
    try go_simp
    refine wpAnyH_done (by kernel_rfl) ?_ _
    refine NoPanic.normal ?_
    go_simp
    go_wp2_with fail
    exact bodyPost_ret (v := .tuple #[.agg #[.int .i64 d, .int .i64 (c + 1), .int .i64 sv], .int .i64 0]) (by simp [results, Try.results41, go_sem]) rfl ⟨rfl, grown_dr (World.grownBy_alloc w _ none)⟩
  exact AllReadyH.nil
set_option maxRecDepth 100000 in
theorem move_okn (b : Nat) (sv d c s day : Int) (w : World) (h : Ck 57 w b sv d c s) (x y z : Int) (hr : rightB day = true) (hz : c ≠ 0 ∨ s ≠ 0)
    (HF : ∀ w1, w.grownBy w1 none → Calls Try.prog 41 #[.pointer (some ⟨b, 0, none⟩), .int .i64 day] w1 fun e w' => e = .returned (.tuple #[.agg #[.int .i64 x, .int .i64 y, .int .i64 z], .int .i64 0]) ∧ w1.grownBy w' none) :
    Calls Try.prog 38 #[.pointer (some ⟨b, 0, none⟩), .int .i64 day, .func (.func 41) #[.pointer (some ⟨b, 0, none⟩)] #[]] w fun e w' => e = .returned (.tuple #[.agg #[.int .i64 x, .int .i64 y, .int .i64 z], .int .i64 0]) ∧ Ck 57 w' b sv x y z ∧ w.grownBy w' (some b) := by
  have c0 := h.c0
  have c1 := h.c1
  have c2 := h.c2
  have c3 := h.c3
  have cl := h.lt
  have K := Lib.hid (right_k day)
  rw [hr] at K
  have HF := Lib.hid HF
  have H := Lib.hid h
  clear h
  go_enter Try.func38, Try.ntmps38
  go_upto_region 1 with fail
  go_cut [19] (fun u wx => u = .bool false ∧ wx = w.alloc (.cells #[.int .i64 0, .int .i64 0, .int .i64 0] 39))
  case first =>
    go_wp2_with fail
    all_goals first | omega | (go_meet; exact ⟨rfl, rfl⟩)
  case rest =>
  obtain ⟨rfl, rfl⟩ := hcut
  clear c0 c1 c2 c3
  go_wp2_with fail
  refine (K.out _).mono ?_
  rintro e w1 ⟨rfl, rfl⟩
  go_wp2_with fail
  refine (HF.out _ (World.grownBy_alloc w _ none)).mono ?_
  rintro e w1 ⟨rfl, g⟩
  have HO := (S3.new w 0 0 0).kept g
  have o0 := HO.c0
  have o1 := HO.c1
  have o2 := HO.c2
  have of := HO.fz
  have hs1 := HO.lt
  have HS := Lib.hid HO
  clear HO
  have H1 := (H.out.kept (World.grownBy_alloc w _ none)).kept g
  have c0 := H1.c0
  have c1 := H1.c1
  have c2 := H1.c2
  have c3 := H1.c3
  have cf := H1.fz
  have cl1 := H1.lt
  have HC := Lib.hid H1
  clear H1
  have hne : w.heap.size ≠ b := by omega
  go_wp2_with fail
  have HR := ((((HS.out.far (i := 1) (v := .int .i64 x) hne).far (i := 2) (v := .int .i64 y) hne).far (i := 3) (v := .int .i64 z) hne).set x y z).kept (World.grownBy_alloc _ (.cells #[.int .i64 x, .int .i64 y, .int .i64 z] 39) none)
  have r0 := HR.c0
  have r1 := HR.c1
  have r2 := HR.c2
  exact bodyPost_ret (v := .tuple #[.agg #[.int .i64 x, .int .i64 y, .int .i64 z], .int .i64 0]) (by simp only [results, Try.results38]; go_simp) rfl
    ⟨rfl, ((((HC.out.set x y z).far (by omega)).far (by omega)).far (by omega)).kept (World.grownBy_alloc _ _ none),
      (grown_set (grown_set (grown_set (grown_set (grown_set (grown_set (((World.grownBy_alloc w _ none).trans g).but _) (.inr rfl)) (.inr rfl)) (.inr rfl)) (.inl (by omega))) (.inl (by omega))) (.inl (by omega))).trans (World.grownBy_alloc _ _ _)⟩
set_option maxRecDepth 100000 in
theorem move_ern (b : Nat) (sv d c s day : Int) (w : World) (h : Ck 57 w b sv d c s) (x y z er : Int) (hr : rightB day = true) (hz : c ≠ 0 ∨ s ≠ 0) (he : (er != 0) = true)
    (HF : ∀ w1, w.grownBy w1 none → Calls Try.prog 41 #[.pointer (some ⟨b, 0, none⟩), .int .i64 day] w1 fun e w' => e = .returned (.tuple #[.agg #[.int .i64 x, .int .i64 y, .int .i64 z], .int .i64 er]) ∧ w1.grownBy w' none) :
    Calls Try.prog 38 #[.pointer (some ⟨b, 0, none⟩), .int .i64 day, .func (.func 41) #[.pointer (some ⟨b, 0, none⟩)] #[]] w fun e w' => e = .returned (.tuple #[.agg #[.int .i64 0, .int .i64 0, .int .i64 0], .int .i64 er]) ∧ w.grownBy w' none := by
  have c0 := h.c0
  have c1 := h.c1
  have c2 := h.c2
  have c3 := h.c3
  have cl := h.lt
  have K := Lib.hid (right_k day)
  rw [hr] at K
  have HF := Lib.hid HF
  have H := Lib.hid h
  clear h
  go_enter Try.func38, Try.ntmps38
  go_upto_region 1 with fail
  go_cut [19] (fun u wx => u = .bool false ∧ wx = w.alloc (.cells #[.int .i64 0, .int .i64 0, .int .i64 0] 39))
  case first =>
    go_wp2_with fail
    all_goals first | omega | (go_meet; exact ⟨rfl, rfl⟩)
  case rest =>
  obtain ⟨rfl, rfl⟩ := hcut
  clear c0 c1 c2 c3
  go_wp2_with fail
  refine (K.out _).mono ?_
  rintro e w1 ⟨rfl, rfl⟩
  go_wp2_with fail
  refine (HF.out _ (World.grownBy_alloc w _ none)).mono ?_
  rintro e w1 ⟨rfl, g⟩
  have HO := (S3.new w 0 0 0).kept g
  have o0 := HO.c0
  have o1 := HO.c1
  have o2 := HO.c2
  have of := HO.fz
  have hs1 := HO.lt
  have HS := Lib.hid HO
  clear HO
  have H1 := (H.out.kept (World.grownBy_alloc w _ none)).kept g
  have c0 := H1.c0
  have c1 := H1.c1
  have c2 := H1.c2
  have c3 := H1.c3
  have cf := H1.fz
  have cl1 := H1.lt
  have HC := Lib.hid H1
  clear H1
  have hne : w.heap.size ≠ b := by omega
  go_wp2_with fail
  have HR := (HS.out.set 0 0 0).kept (World.grownBy_alloc _ (.cells #[.int .i64 x, .int .i64 y, .int .i64 z] 39) none)
  have r0 := HR.c0
  have r1 := HR.c1
  have r2 := HR.c2
  exact bodyPost_ret (v := .tuple #[.agg #[.int .i64 0, .int .i64 0, .int .i64 0], .int .i64 er]) (by simp only [results, Try.results38]; go_simp) rfl
    ⟨rfl, (grown_set (grown_set (grown_set ((World.grownBy_alloc w _ none).trans g) (.inl (by omega))) (.inl (by omega))) (.inl (by omega))).trans (World.grownBy_alloc _ _ _)⟩
set_option maxRecDepth 100000 in
theorem move_badn (b : Nat) (sv d c s day : Int) (w : World) (h : Ck 57 w b sv d c s) (hr : rightB day = false) (hz : c ≠ 0 ∨ s ≠ 0) :
    Calls Try.prog 38 #[.pointer (some ⟨b, 0, none⟩), .int .i64 day, .func (.func 41) #[.pointer (some ⟨b, 0, none⟩)] #[]] w fun e w' => e = .returned (.tuple #[.agg #[.int .i64 0, .int .i64 0, .int .i64 0], .int .i64 23]) ∧ w.grownBy w' none := by
  have c0 := h.c0
  have c1 := h.c1
  have c2 := h.c2
  have c3 := h.c3
  have cl := h.lt
  have K := Lib.hid (right_k day)
  rw [hr] at K
  clear h
  go_enter Try.func38, Try.ntmps38
  go_upto_region 1 with fail
  go_cut [19] (fun u wx => u = .bool false ∧ wx = w.alloc (.cells #[.int .i64 0, .int .i64 0, .int .i64 0] 39))
  case first =>
    go_wp2_with fail
    all_goals first | omega | (go_meet; exact ⟨rfl, rfl⟩)
  case rest =>
  obtain ⟨rfl, rfl⟩ := hcut
  clear c0 c1 c2 c3
  go_wp2_with fail
  refine (K.out _).mono ?_
  rintro e w1 ⟨rfl, rfl⟩
  go_wp2_with fail
  exact bodyPost_ret (v := .tuple #[.agg #[.int .i64 0, .int .i64 0, .int .i64 0], .int .i64 23]) (by simp [results, Try.results38, go_sem]) rfl ⟨rfl, World.grownBy_alloc w _ none⟩
set_option maxRecDepth 100000 in
theorem move_zeron (b : Nat) (sv day : Int) (w : World) (h : Ck 57 w b sv 0 0 0) :
    Calls Try.prog 38 #[.pointer (some ⟨b, 0, none⟩), .int .i64 day, .func (.func 41) #[.pointer (some ⟨b, 0, none⟩)] #[]] w fun e w' => e = .returned (.tuple #[.agg #[.int .i64 0, .int .i64 0, .int .i64 0], .int .i64 1]) ∧ w.grownBy w' none := by
  have c0 := h.c0
  have c1 := h.c1
  have c2 := h.c2
  have c3 := h.c3
  have cl := h.lt
  clear h
  go_enter Try.func38, Try.ntmps38
  go_wp2_with fail
  exact bodyPost_ret (v := .tuple #[.agg #[.int .i64 0, .int .i64 0, .int .i64 0], .int .i64 1]) (by simp [results, Try.results38, go_sem]) rfl ⟨rfl, World.grownBy_alloc w _ none⟩
set_option maxRecDepth 100000 in
theorem move_niln (b : Option Addr) (day : Int) (w : World) :
    Calls Try.prog 38 #[.pointer none, .int .i64 day, .func (.func 41) #[.pointer b] #[]] w fun e w' => e = .returned (.tuple #[.agg #[.int .i64 0, .int .i64 0, .int .i64 0], .int .i64 1]) ∧ w.grownBy w' none := by
  go_enter Try.func38, Try.ntmps38
  go_wp2_with fail
  exact bodyPost_ret (v := .tuple #[.agg #[.int .i64 0, .int .i64 0, .int .i64 0], .int .i64 1]) (by simp [results, Try.results38, go_sem]) rfl ⟨rfl, World.grownBy_alloc w _ none⟩
set_option maxRecDepth 100000 in
theorem move_okh (b : Nat) (sv d c s day : Int) (p1 p2 : Nat) (w : World) (h : Ck 57 w b sv d c s) (x y z : Int) (hr : rightB day = true) (hz : c ≠ 0 ∨ s ≠ 0)
    (HF : ∀ w1, w.grownBy w1 none → Calls Try.prog 39 #[.int .i64 day, .pointer (some ⟨p1, 0, none⟩), .pointer (some ⟨p2, 0, none⟩)] w1 fun e w' => e = .returned (.tuple #[.agg #[.int .i64 x, .int .i64 y, .int .i64 z], .int .i64 0]) ∧ w1.grownBy w' none) :
    Calls Try.prog 38 #[.pointer (some ⟨b, 0, none⟩), .int .i64 day, .func (.func 39) #[] #[.pointer (some ⟨p1, 0, none⟩), .pointer (some ⟨p2, 0, none⟩)]] w fun e w' => e = .returned (.tuple #[.agg #[.int .i64 x, .int .i64 y, .int .i64 z], .int .i64 0]) ∧ Ck 57 w' b sv x y z ∧ w.grownBy w' (some b) := by
  have c0 := h.c0
  have c1 := h.c1
  have c2 := h.c2
  have c3 := h.c3
  have cl := h.lt
  have K := Lib.hid (right_k day)
  rw [hr] at K
  have HF := Lib.hid HF
  have H := Lib.hid h
  clear h
  go_enter Try.func38, Try.ntmps38
  go_upto_region 1 with fail
  go_cut [19] (fun u wx => u = .bool false ∧ wx = w.alloc (.cells #[.int .i64 0, .int .i64 0, .int .i64 0] 39))
  case first =>
    go_wp2_with fail
    all_goals first | omega | (go_meet; exact ⟨rfl, rfl⟩)
  case rest =>
  obtain ⟨rfl, rfl⟩ := hcut
  clear c0 c1 c2 c3
  go_wp2_with fail
  refine (K.out _).mono ?_
  rintro e w1 ⟨rfl, rfl⟩
  go_wp2_with fail
  refine (HF.out _ (World.grownBy_alloc w _ none)).mono ?_
  rintro e w1 ⟨rfl, g⟩
  have HO := (S3.new w 0 0 0).kept g
  have o0 := HO.c0
  have o1 := HO.c1
  have o2 := HO.c2
  have of := HO.fz
  have hs1 := HO.lt
  have HS := Lib.hid HO
  clear HO
  have H1 := (H.out.kept (World.grownBy_alloc w _ none)).kept g
  have c0 := H1.c0
  have c1 := H1.c1
  have c2 := H1.c2
  have c3 := H1.c3
  have cf := H1.fz
  have cl1 := H1.lt
  have HC := Lib.hid H1
  clear H1
  have hne : w.heap.size ≠ b := by omega
  go_wp2_with fail
  have HR := ((((HS.out.far (i := 1) (v := .int .i64 x) hne).far (i := 2) (v := .int .i64 y) hne).far (i := 3) (v := .int .i64 z) hne).set x y z).kept (World.grownBy_alloc _ (.cells #[.int .i64 x, .int .i64 y, .int .i64 z] 39) none)
  have r0 := HR.c0
  have r1 := HR.c1
  have r2 := HR.c2
  exact bodyPost_ret (v := .tuple #[.agg #[.int .i64 x, .int .i64 y, .int .i64 z], .int .i64 0]) (by simp only [results, Try.results38]; go_simp) rfl
    ⟨rfl, ((((HC.out.set x y z).far (by omega)).far (by omega)).far (by omega)).kept (World.grownBy_alloc _ _ none),
      (grown_set (grown_set (grown_set (grown_set (grown_set (grown_set (((World.grownBy_alloc w _ none).trans g).but _) (.inr rfl)) (.inr rfl)) (.inr rfl)) (.inl (by omega))) (.inl (by omega))) (.inl (by omega))).trans (World.grownBy_alloc _ _ _)⟩
set_option maxRecDepth 100000 in
theorem move_erh (b : Nat) (sv d c s day : Int) (p1 p2 : Nat) (w : World) (h : Ck 57 w b sv d c s) (x y z er : Int) (hr : rightB day = true) (hz : c ≠ 0 ∨ s ≠ 0) (he : (er != 0) = true)
    (HF : ∀ w1, w.grownBy w1 none → Calls Try.prog 39 #[.int .i64 day, .pointer (some ⟨p1, 0, none⟩), .pointer (some ⟨p2, 0, none⟩)] w1 fun e w' => e = .returned (.tuple #[.agg #[.int .i64 x, .int .i64 y, .int .i64 z], .int .i64 er]) ∧ w1.grownBy w' none) :
    Calls Try.prog 38 #[.pointer (some ⟨b, 0, none⟩), .int .i64 day, .func (.func 39) #[] #[.pointer (some ⟨p1, 0, none⟩), .pointer (some ⟨p2, 0, none⟩)]] w fun e w' => e = .returned (.tuple #[.agg #[.int .i64 0, .int .i64 0, .int .i64 0], .int .i64 er]) ∧ w.grownBy w' none := by
  have c0 := h.c0
  have c1 := h.c1
  have c2 := h.c2
  have c3 := h.c3
  have cl := h.lt
  have K := Lib.hid (right_k day)
  rw [hr] at K
  have HF := Lib.hid HF
  have H := Lib.hid h
  clear h
  go_enter Try.func38, Try.ntmps38
  go_upto_region 1 with fail
  go_cut [19] (fun u wx => u = .bool false ∧ wx = w.alloc (.cells #[.int .i64 0, .int .i64 0, .int .i64 0] 39))
  case first =>
    go_wp2_with fail
    all_goals first | omega | (go_meet; exact ⟨rfl, rfl⟩)
  case rest =>
  obtain ⟨rfl, rfl⟩ := hcut
  clear c0 c1 c2 c3
  go_wp2_with fail
  refine (K.out _).mono ?_
  rintro e w1 ⟨rfl, rfl⟩
  go_wp2_with fail
  refine (HF.out _ (World.grownBy_alloc w _ none)).mono ?_
  rintro e w1 ⟨rfl, g⟩
  have HO := (S3.new w 0 0 0).kept g
  have o0 := HO.c0
  have o1 := HO.c1
  have o2 := HO.c2
  have of := HO.fz
  have hs1 := HO.lt
  have HS := Lib.hid HO
  clear HO
  have H1 := (H.out.kept (World.grownBy_alloc w _ none)).kept g
  have c0 := H1.c0
  have c1 := H1.c1
  have c2 := H1.c2
  have c3 := H1.c3
  have cf := H1.fz
  have cl1 := H1.lt
  have HC := Lib.hid H1
  clear H1
  have hne : w.heap.size ≠ b := by omega
  go_wp2_with fail
  have HR := (HS.out.set 0 0 0).kept (World.grownBy_alloc _ (.cells #[.int .i64 x, .int .i64 y, .int .i64 z] 39) none)
  have r0 := HR.c0
  have r1 := HR.c1
  have r2 := HR.c2
  exact bodyPost_ret (v := .tuple #[.agg #[.int .i64 0, .int .i64 0, .int .i64 0], .int .i64 er]) (by simp only [results, Try.results38]; go_simp) rfl
    ⟨rfl, (grown_set (grown_set (grown_set ((World.grownBy_alloc w _ none).trans g) (.inl (by omega))) (.inl (by omega))) (.inl (by omega))).trans (World.grownBy_alloc _ _ _)⟩
set_option maxRecDepth 100000 in
theorem move_badh (b : Nat) (sv d c s day : Int) (p1 p2 : Nat) (w : World) (h : Ck 57 w b sv d c s) (hr : rightB day = false) (hz : c ≠ 0 ∨ s ≠ 0) :
    Calls Try.prog 38 #[.pointer (some ⟨b, 0, none⟩), .int .i64 day, .func (.func 39) #[] #[.pointer (some ⟨p1, 0, none⟩), .pointer (some ⟨p2, 0, none⟩)]] w fun e w' => e = .returned (.tuple #[.agg #[.int .i64 0, .int .i64 0, .int .i64 0], .int .i64 23]) ∧ w.grownBy w' none := by
  have c0 := h.c0
  have c1 := h.c1
  have c2 := h.c2
  have c3 := h.c3
  have cl := h.lt
  have K := Lib.hid (right_k day)
  rw [hr] at K
  clear h
  go_enter Try.func38, Try.ntmps38
  go_upto_region 1 with fail
  go_cut [19] (fun u wx => u = .bool false ∧ wx = w.alloc (.cells #[.int .i64 0, .int .i64 0, .int .i64 0] 39))
  case first =>
    go_wp2_with fail
    all_goals first | omega | (go_meet; exact ⟨rfl, rfl⟩)
  case rest =>
  obtain ⟨rfl, rfl⟩ := hcut
  clear c0 c1 c2 c3
  go_wp2_with fail
  refine (K.out _).mono ?_
  rintro e w1 ⟨rfl, rfl⟩
  go_wp2_with fail
  exact bodyPost_ret (v := .tuple #[.agg #[.int .i64 0, .int .i64 0, .int .i64 0], .int .i64 23]) (by simp [results, Try.results38, go_sem]) rfl ⟨rfl, World.grownBy_alloc w _ none⟩
set_option maxRecDepth 100000 in
theorem move_zeroh (b : Nat) (sv day : Int) (p1 p2 : Nat) (w : World) (h : Ck 57 w b sv 0 0 0) :
    Calls Try.prog 38 #[.pointer (some ⟨b, 0, none⟩), .int .i64 day, .func (.func 39) #[] #[.pointer (some ⟨p1, 0, none⟩), .pointer (some ⟨p2, 0, none⟩)]] w fun e w' => e = .returned (.tuple #[.agg #[.int .i64 0, .int .i64 0, .int .i64 0], .int .i64 1]) ∧ w.grownBy w' none := by
  have c0 := h.c0
  have c1 := h.c1
  have c2 := h.c2
  have c3 := h.c3
  have cl := h.lt
  clear h
  go_enter Try.func38, Try.ntmps38
  go_wp2_with fail
  exact bodyPost_ret (v := .tuple #[.agg #[.int .i64 0, .int .i64 0, .int .i64 0], .int .i64 1]) (by simp [results, Try.results38, go_sem]) rfl ⟨rfl, World.grownBy_alloc w _ none⟩
set_option maxRecDepth 100000 in
theorem move_nilh (day : Int) (p1 p2 : Nat) (w : World) :
    Calls Try.prog 38 #[.pointer none, .int .i64 day, .func (.func 39) #[] #[.pointer (some ⟨p1, 0, none⟩), .pointer (some ⟨p2, 0, none⟩)]] w fun e w' => e = .returned (.tuple #[.agg #[.int .i64 0, .int .i64 0, .int .i64 0], .int .i64 1]) ∧ w.grownBy w' none := by
  go_enter Try.func38, Try.ntmps38
  go_wp2_with fail
  exact bodyPost_ret (v := .tuple #[.agg #[.int .i64 0, .int .i64 0, .int .i64 0], .int .i64 1]) (by simp [results, Try.results38, go_sem]) rfl ⟨rfl, World.grownBy_alloc w _ none⟩
end Go.Proofs.Ytgfifpbmjkjnpaa
