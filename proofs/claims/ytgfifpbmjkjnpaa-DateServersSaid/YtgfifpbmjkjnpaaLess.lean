/-
  The clocks of date, by their contracts.
-/
import Derived.Test.YtgfifpbmjkjnpaaNum
import Derived.Deep.DeepCutAuto
import Derived.Deep.RegionHeld3
import Derived.Deep.QuietTactic
import Derived.BigQuiet
namespace Go.Proofs.Ytgfifpbmjkjnpaa
open Go.RowKit
theorem grown_al {a w : World} {o : Obj} (h : a.grownBy w none) : a.grownBy (w.alloc o) none := h.trans (World.grownBy_alloc w o none)
theorem grown_dr {a w : World} (h : a.grownBy w none) : a.grownBy w.drew none := ⟨h.os, h.tape, h.output, h.size, h.block⟩
theorem grown_drewN (w : World) (k : Nat) (row : Option Nat) : w.grownBy (w.drewN k) row := ⟨rfl, rfl, rfl, Nat.le_refl _, fun _ _ _ => rfl⟩
theorem grown_dn {a w : World} {k : Nat} (h : a.grownBy w none) : a.grownBy (w.drewN k) none := h.trans (grown_drewN _ _ _)
theorem gcell {w w' : World} {a : Addr} {v : Value} (h : w.grownBy w' none) (c : w.cell? a = some v) : w'.cell? a = some v := h.cell c (by simp)
theorem cell_at {w : World} {b i : Nat} {cs : Array Value} {t : TypeId} (h : b = w.heap.size) : (w.alloc (.cells cs t)).cell? ⟨b, i, none⟩ = cs[i]? := by
  subst h; exact World.cell?_alloc_new ..
theorem cell_pass {w : World} {b i : Nat} {o : Obj} (h : b < w.heap.size) : (w.alloc o).cell? ⟨b, i, none⟩ = w.cell? ⟨b, i, none⟩ := World.cell?_alloc_lt _ _ _ h
theorem parts_k (d c s : Int) (w : World) : Calls Try.prog 42 #[.agg #[.int .i64 d, .int .i64 c, .int .i64 s]] w fun e w' => e = .returned (.agg #[.int .i64 d, .int .i64 c, .int .i64 s]) ∧
    w' = (w.alloc (.cells #[.int .i64 d, .int .i64 c, .int .i64 s] 39)).alloc (.cells #[.int .i64 d, .int .i64 c, .int .i64 s] 66) := by
  go_enter Try.func42, Try.ntmps42
  go_wp2_with fail
  exact bodyPost_ret (v := .agg #[.int .i64 d, .int .i64 c, .int .i64 s]) (by simp [results, Try.results42, go_sem]) rfl ⟨rfl, rfl⟩
def Arr (w : World) (b : Nat) (d c s : Int) : Prop := w.cell? ⟨b, 0, none⟩ = some (.int .i64 d) ∧ w.cell? ⟨b, 1, none⟩ = some (.int .i64 c) ∧ w.cell? ⟨b, 2, none⟩ = some (.int .i64 s)
theorem arr_of {w : World} {b : Nat} {d c s : Int} (h0 : w.cell? ⟨b, 0, none⟩ = some (.int .i64 d)) (h1 : w.cell? ⟨b, 1, none⟩ = some (.int .i64 c)) (h2 : w.cell? ⟨b, 2, none⟩ = some (.int .i64 s)) : Arr w b d c s := ⟨h0, h1, h2⟩
def lessB (d c s x y z : Int) : Bool := decide (d < x ∨ (d = x ∧ (c < y ∨ (c = y ∧ s < z))))
def pre (d c s x y z : Int) (k : Nat) : Prop := (0 < k → d = x) ∧ (1 < k → c = y) ∧ (2 < k → s = z)
theorem pre_all {d c s x y z : Int} {k : Nat} (h : pre d c s x y z k) (hk : 3 ≤ k) : lessB d c s x y z = false := by
  obtain ⟨h1, h2, h3⟩ := h
  unfold lessB
  simp only [decide_eq_false_iff_not]
  omega
theorem cmp3 {w : World} {p q : Nat} {d c s x y z : Int} (hp : Arr w p d c s) (hq : Arr w q x y z) (k : Nat) (hk : k < 3) :
    ∃ u v : Int, w.cell? ⟨p, k, none⟩ = some (.int .i64 u) ∧ w.cell? ⟨q, k, none⟩ = some (.int .i64 v) ∧ (pre d c s x y z k → u = v → pre d c s x y z (k + 1)) ∧ (pre d c s x y z k → u ≠ v → lessB d c s x y z = decide (u < v)) := by
  obtain ⟨a0, a1, a2⟩ := hp
  obtain ⟨b0, b1, b2⟩ := hq
  have : k = 0 ∨ k = 1 ∨ k = 2 := by omega
  rcases this with rfl | rfl | rfl
  · refine ⟨d, x, a0, b0, fun h e => ?_, fun h e => ?_⟩
    · unfold pre at *; omega
    · unfold pre at h; unfold lessB; congr 1; simp only [eq_iff_iff]; omega
  · refine ⟨c, y, a1, b1, fun h e => ?_, fun h e => ?_⟩
    · unfold pre at *; omega
    · unfold pre at h; unfold lessB; congr 1; simp only [eq_iff_iff]; omega
  · refine ⟨s, z, a2, b2, fun h e => ?_, fun h e => ?_⟩
    · unfold pre at *; omega
    · unfold pre at h; unfold lessB; congr 1; simp only [eq_iff_iff]; omega
set_option maxRecDepth 100000 in
set_option maxHeartbeats 4000000 in
theorem less_k (d c s x y z : Int) (w : World) : Calls Try.prog 32 #[.agg #[.int .i64 d, .int .i64 c, .int .i64 s], .agg #[.int .i64 x, .int .i64 y, .int .i64 z]] w fun e w' => e = .returned (.bool (lessB d c s x y z)) ∧ w.grownBy w' none := by
  go_enter Try.func32, Try.ntmps32
  go_upto_region 1 with fail
  go_cut [5, 6] (fun u v wx => ∃ p q : Nat, u = .pointer (some ⟨p, 0, none⟩) ∧ v = .pointer (some ⟨q, 0, none⟩) ∧ Arr wx p d c s ∧ Arr wx q x y z ∧ w.grownBy wx none)
  case first =>
    have gw : w.grownBy ((w.alloc (Obj.cells #[Value.int IntKind.i64 d, Value.int IntKind.i64 c, Value.int IntKind.i64 s] 39)).alloc (Obj.cells #[Value.int IntKind.i64 x, Value.int IntKind.i64 y, Value.int IntKind.i64 z] 39)) none := grown_al (World.grownBy_alloc w _ none)
    have c0 : ((w.alloc (Obj.cells #[Value.int IntKind.i64 d, Value.int IntKind.i64 c, Value.int IntKind.i64 s] 39)).alloc (Obj.cells #[Value.int IntKind.i64 x, Value.int IntKind.i64 y, Value.int IntKind.i64 z] 39)).cell? ⟨w.heap.size, 0, none⟩ = some (.int .i64 d) := (cell_pass (by simp)).trans (cell_at rfl)
    have c1 : ((w.alloc (Obj.cells #[Value.int IntKind.i64 d, Value.int IntKind.i64 c, Value.int IntKind.i64 s] 39)).alloc (Obj.cells #[Value.int IntKind.i64 x, Value.int IntKind.i64 y, Value.int IntKind.i64 z] 39)).cell? ⟨w.heap.size, 1, none⟩ = some (.int .i64 c) := (cell_pass (by simp)).trans (cell_at rfl)
    have c2 : ((w.alloc (Obj.cells #[Value.int IntKind.i64 d, Value.int IntKind.i64 c, Value.int IntKind.i64 s] 39)).alloc (Obj.cells #[Value.int IntKind.i64 x, Value.int IntKind.i64 y, Value.int IntKind.i64 z] 39)).cell? ⟨w.heap.size, 2, none⟩ = some (.int .i64 s) := (cell_pass (by simp)).trans (cell_at rfl)
    have c3 : ((w.alloc (Obj.cells #[Value.int IntKind.i64 d, Value.int IntKind.i64 c, Value.int IntKind.i64 s] 39)).alloc (Obj.cells #[Value.int IntKind.i64 x, Value.int IntKind.i64 y, Value.int IntKind.i64 z] 39)).cell? ⟨w.heap.size + 1, 0, none⟩ = some (.int .i64 x) := cell_at (by simp)
    have c4 : ((w.alloc (Obj.cells #[Value.int IntKind.i64 d, Value.int IntKind.i64 c, Value.int IntKind.i64 s] 39)).alloc (Obj.cells #[Value.int IntKind.i64 x, Value.int IntKind.i64 y, Value.int IntKind.i64 z] 39)).cell? ⟨w.heap.size + 1, 1, none⟩ = some (.int .i64 y) := cell_at (by simp)
    have c5 : ((w.alloc (Obj.cells #[Value.int IntKind.i64 d, Value.int IntKind.i64 c, Value.int IntKind.i64 s] 39)).alloc (Obj.cells #[Value.int IntKind.i64 x, Value.int IntKind.i64 y, Value.int IntKind.i64 z] 39)).cell? ⟨w.heap.size + 1, 2, none⟩ = some (.int .i64 z) := cell_at (by simp)
    generalize ((w.alloc (Obj.cells #[Value.int IntKind.i64 d, Value.int IntKind.i64 c, Value.int IntKind.i64 s] 39)).alloc (Obj.cells #[Value.int IntKind.i64 x, Value.int IntKind.i64 y, Value.int IntKind.i64 z] 39)) = w0 at *
    refine wp_region_noPanic ?_
    refine wp_region_held_drew (S := (fun w' => w0.grownBy w' none)) (by kernel_rfl) ?_ (fun hHeld => ?_)
    · (try dsimp only); (repeat (first | exact World.grownBy.refl _ _ | refine grown_dr ?_ | refine grown_al ?_))
    refine wpAnyH_take (i := 0) (oi := _) (v := .agg #[.int .i64 d, .int .i64 c, .int .i64 s]) rfl (by kernel_rfl) (by kernel_rfl) (by kernel_rfl) (fun _ _ _ h => h) (Or.inl ⟨by kernel_rfl, ?_⟩) (by assumption) ?_
    · (intro w hSw; (try dsimp only at hSw); go_simp; have q0 := gcell hSw c0; have q1 := gcell hSw c1; have q2 := gcell hSw c2; clear hSw; go_simp; first | done | with_reducible rfl)
    try go_simp
    refine wpAnyH_take (i := 2) (oi := _) (v := .agg #[.int .i64 x, .int .i64 y, .int .i64 z]) rfl (by kernel_rfl) (by kernel_rfl) (by kernel_rfl) (fun _ _ _ h => h) (Or.inl ⟨by kernel_rfl, ?_⟩) (by assumption) ?_
    · (intro w hSw; (try dsimp only at hSw); go_simp; have q0 := gcell hSw c3; have q1 := gcell hSw c4; have q2 := gcell hSw c5; clear hSw; go_simp; first | done | with_reducible rfl)
    try go_simp
    refine wpAnyH_ready (rs := [1, 4, 5]) (by kernel_rfl) (by simp) ?_
    refine AllReadyH.cons (o := _) rfl (fun K hK => ?_) ?_
    · clear hHeld
      go_simp
      refine (parts_k d c s _).mono ?_
      rintro e w' ⟨rfl, rfl⟩
      first | (refine hK.out _ _ ?_ (fun hHeld => ?_)) | (go_wp2_with fail; refine hK.out _ _ ?_ (fun hHeld => ?_))
      · (try dsimp only); (repeat (first | exact World.grownBy.refl _ _ | refine grown_dr ?_ | refine grown_al ?_))
      clear hK K
      refine wpAnyH_ready (rs := [3, 4, 5]) (by kernel_rfl) (by simp) ?_
      refine AllReadyH.cons (o := _) rfl (fun K hK => ?_) ?_
      · clear hHeld
        go_simp
        refine (parts_k x y z _).mono ?_
        rintro e w' ⟨rfl, rfl⟩
        first | (refine hK.out _ _ ?_ (fun hHeld => ?_)) | (go_wp2_with fail; refine hK.out _ _ ?_ (fun hHeld => ?_))
        · (try dsimp only); (repeat (first | exact World.grownBy.refl _ _ | refine grown_dr ?_ | refine grown_al ?_))
        clear hK K
        refine wpAnyH_ready (rs := [4, 5]) (by kernel_rfl) (by simp) ?_
        refine AllReadyH.cons (o := _) rfl (fun K hK => ?_) ?_
        · clear hHeld
          go_simp
          first | (refine hK.out _ _ ?_ (fun hHeld => ?_)) | (go_wp2_with fail; refine hK.out _ _ ?_ (fun hHeld => ?_))
          · (try dsimp only); (repeat (first | exact World.grownBy.refl _ _ | refine grown_dr ?_ | refine grown_al ?_))
          clear hK K
          refine wpAnyH_ready (rs := [5]) (by kernel_rfl) (by simp) ?_
          refine AllReadyH.cons (o := _) rfl (fun K hK => ?_) ?_
          · clear hHeld
            go_simp
            first | (refine hK.out _ _ ?_ (fun hHeld => ?_)) | (go_wp2_with fail; refine hK.out _ _ ?_ (fun hHeld => ?_))
            · (try dsimp only); (repeat (first | exact World.grownBy.refl _ _ | refine grown_dr ?_ | refine grown_al ?_))
            clear hK K
            refine wpAnyH_ready (rs := [6]) (by kernel_rfl) (by simp) ?_
            refine AllReadyH.cons (o := _) rfl (fun K hK => ?_) ?_
            · clear hHeld
              go_simp
              first | (refine hK.out _ _ ?_ (fun hHeld => ?_)) | (go_wp2_with fail; refine hK.out _ _ ?_ (fun hHeld => ?_))
              · (try dsimp only); (repeat (first | exact World.grownBy.refl _ _ | refine grown_dr ?_ | refine grown_al ?_))
              clear hK K
              refine wpAnyH_ready (rs := [7]) (by kernel_rfl) (by simp) ?_
              refine AllReadyH.cons (o := _) rfl (fun K hK => ?_) ?_
              · clear hHeld
                go_simp
                first | (refine hK.out _ _ ?_ (fun hHeld => ?_)) | (go_wp2_with fail; refine hK.out _ _ ?_ (fun hHeld => ?_))
                · (try dsimp only); (repeat (first | exact World.grownBy.refl _ _ | refine grown_dr ?_ | refine grown_al ?_))
                clear hK K
                refine wpAnyH_done (by kernel_rfl) ?_ _
                refine NoPanic.normal ?_
                go_simp
                go_wp2_with fail
                go_meet
                exact ⟨_, _, rfl, rfl, arr_of (by (try rw [World.cell?_drew]); repeat (first | (refine (cell_at ?_).trans ?_; (focus (simp; done)); rfl) | (refine (cell_pass ?_).trans ?_; (focus (first | (simp; done) | (simp; omega)))))) (by (try rw [World.cell?_drew]); repeat (first | (refine (cell_at ?_).trans ?_; (focus (simp; done)); rfl) | (refine (cell_pass ?_).trans ?_; (focus (first | (simp; done) | (simp; omega)))))) (by (try rw [World.cell?_drew]); repeat (first | (refine (cell_at ?_).trans ?_; (focus (simp; done)); rfl) | (refine (cell_pass ?_).trans ?_; (focus (first | (simp; done) | (simp; omega)))))), arr_of (by (try rw [World.cell?_drew]); repeat (first | (refine (cell_at ?_).trans ?_; (focus (simp; done)); rfl) | (refine (cell_pass ?_).trans ?_; (focus (first | (simp; done) | (simp; omega)))))) (by (try rw [World.cell?_drew]); repeat (first | (refine (cell_at ?_).trans ?_; (focus (simp; done)); rfl) | (refine (cell_pass ?_).trans ?_; (focus (first | (simp; done) | (simp; omega)))))) (by (try rw [World.cell?_drew]); repeat (first | (refine (cell_at ?_).trans ?_; (focus (simp; done)); rfl) | (refine (cell_pass ?_).trans ?_; (focus (first | (simp; done) | (simp; omega)))))), gw.trans (by (repeat (first | exact World.grownBy.refl _ _ | refine grown_dr ?_ | refine grown_al ?_)))⟩
              exact AllReadyH.nil
            exact AllReadyH.nil
          exact AllReadyH.nil
        refine AllReadyH.cons (o := _) rfl (fun K hK => ?_) ?_
        · clear hHeld
          go_simp
          first | (refine hK.out _ _ ?_ (fun hHeld => ?_)) | (go_wp2_with fail; refine hK.out _ _ ?_ (fun hHeld => ?_))
          · (try dsimp only); (repeat (first | exact World.grownBy.refl _ _ | refine grown_dr ?_ | refine grown_al ?_))
          clear hK K
          refine wpAnyH_ready (rs := [4]) (by kernel_rfl) (by simp) ?_
          refine AllReadyH.cons (o := _) rfl (fun K hK => ?_) ?_
          · clear hHeld
            go_simp
            first | (refine hK.out _ _ ?_ (fun hHeld => ?_)) | (go_wp2_with fail; refine hK.out _ _ ?_ (fun hHeld => ?_))
            · (try dsimp only); (repeat (first | exact World.grownBy.refl _ _ | refine grown_dr ?_ | refine grown_al ?_))
            clear hK K
            refine wpAnyH_ready (rs := [6]) (by kernel_rfl) (by simp) ?_
            refine AllReadyH.cons (o := _) rfl (fun K hK => ?_) ?_
            · clear hHeld
              go_simp
              first | (refine hK.out _ _ ?_ (fun hHeld => ?_)) | (go_wp2_with fail; refine hK.out _ _ ?_ (fun hHeld => ?_))
              · (try dsimp only); (repeat (first | exact World.grownBy.refl _ _ | refine grown_dr ?_ | refine grown_al ?_))
              clear hK K
              refine wpAnyH_ready (rs := [7]) (by kernel_rfl) (by simp) ?_
              refine AllReadyH.cons (o := _) rfl (fun K hK => ?_) ?_
              · clear hHeld
                go_simp
                first | (refine hK.out _ _ ?_ (fun hHeld => ?_)) | (go_wp2_with fail; refine hK.out _ _ ?_ (fun hHeld => ?_))
                · (try dsimp only); (repeat (first | exact World.grownBy.refl _ _ | refine grown_dr ?_ | refine grown_al ?_))
                clear hK K
                refine wpAnyH_done (by kernel_rfl) ?_ _
                refine NoPanic.normal ?_
                go_simp
                go_wp2_with fail
                go_meet
                exact ⟨_, _, rfl, rfl, arr_of (by (try rw [World.cell?_drew]); repeat (first | (refine (cell_at ?_).trans ?_; (focus (simp; done)); rfl) | (refine (cell_pass ?_).trans ?_; (focus (first | (simp; done) | (simp; omega)))))) (by (try rw [World.cell?_drew]); repeat (first | (refine (cell_at ?_).trans ?_; (focus (simp; done)); rfl) | (refine (cell_pass ?_).trans ?_; (focus (first | (simp; done) | (simp; omega)))))) (by (try rw [World.cell?_drew]); repeat (first | (refine (cell_at ?_).trans ?_; (focus (simp; done)); rfl) | (refine (cell_pass ?_).trans ?_; (focus (first | (simp; done) | (simp; omega)))))), arr_of (by (try rw [World.cell?_drew]); repeat (first | (refine (cell_at ?_).trans ?_; (focus (simp; done)); rfl) | (refine (cell_pass ?_).trans ?_; (focus (first | (simp; done) | (simp; omega)))))) (by (try rw [World.cell?_drew]); repeat (first | (refine (cell_at ?_).trans ?_; (focus (simp; done)); rfl) | (refine (cell_pass ?_).trans ?_; (focus (first | (simp; done) | (simp; omega)))))) (by (try rw [World.cell?_drew]); repeat (first | (refine (cell_at ?_).trans ?_; (focus (simp; done)); rfl) | (refine (cell_pass ?_).trans ?_; (focus (first | (simp; done) | (simp; omega)))))), gw.trans (by (repeat (first | exact World.grownBy.refl _ _ | refine grown_dr ?_ | refine grown_al ?_)))⟩
              exact AllReadyH.nil
            exact AllReadyH.nil
          exact AllReadyH.nil
        exact AllReadyH.nil
      refine AllReadyH.cons (o := _) rfl (fun K hK => ?_) ?_
      · clear hHeld
        go_simp
        first | (refine hK.out _ _ ?_ (fun hHeld => ?_)) | (go_wp2_with fail; refine hK.out _ _ ?_ (fun hHeld => ?_))
        · (try dsimp only); (repeat (first | exact World.grownBy.refl _ _ | refine grown_dr ?_ | refine grown_al ?_))
        clear hK K
        refine wpAnyH_ready (rs := [3, 5]) (by kernel_rfl) (by simp) ?_
        refine AllReadyH.cons (o := _) rfl (fun K hK => ?_) ?_
        · clear hHeld
          go_simp
          refine (parts_k x y z _).mono ?_
          rintro e w' ⟨rfl, rfl⟩
          first | (refine hK.out _ _ ?_ (fun hHeld => ?_)) | (go_wp2_with fail; refine hK.out _ _ ?_ (fun hHeld => ?_))
          · (try dsimp only); (repeat (first | exact World.grownBy.refl _ _ | refine grown_dr ?_ | refine grown_al ?_))
          clear hK K
          refine wpAnyH_ready (rs := [5]) (by kernel_rfl) (by simp) ?_
          refine AllReadyH.cons (o := _) rfl (fun K hK => ?_) ?_
          · clear hHeld
            go_simp
            first | (refine hK.out _ _ ?_ (fun hHeld => ?_)) | (go_wp2_with fail; refine hK.out _ _ ?_ (fun hHeld => ?_))
            · (try dsimp only); (repeat (first | exact World.grownBy.refl _ _ | refine grown_dr ?_ | refine grown_al ?_))
            clear hK K
            refine wpAnyH_ready (rs := [6]) (by kernel_rfl) (by simp) ?_
            refine AllReadyH.cons (o := _) rfl (fun K hK => ?_) ?_
            · clear hHeld
              go_simp
              first | (refine hK.out _ _ ?_ (fun hHeld => ?_)) | (go_wp2_with fail; refine hK.out _ _ ?_ (fun hHeld => ?_))
              · (try dsimp only); (repeat (first | exact World.grownBy.refl _ _ | refine grown_dr ?_ | refine grown_al ?_))
              clear hK K
              refine wpAnyH_ready (rs := [7]) (by kernel_rfl) (by simp) ?_
              refine AllReadyH.cons (o := _) rfl (fun K hK => ?_) ?_
              · clear hHeld
                go_simp
                first | (refine hK.out _ _ ?_ (fun hHeld => ?_)) | (go_wp2_with fail; refine hK.out _ _ ?_ (fun hHeld => ?_))
                · (try dsimp only); (repeat (first | exact World.grownBy.refl _ _ | refine grown_dr ?_ | refine grown_al ?_))
                clear hK K
                refine wpAnyH_done (by kernel_rfl) ?_ _
                refine NoPanic.normal ?_
                go_simp
                go_wp2_with fail
                go_meet
                exact ⟨_, _, rfl, rfl, arr_of (by (try rw [World.cell?_drew]); repeat (first | (refine (cell_at ?_).trans ?_; (focus (simp; done)); rfl) | (refine (cell_pass ?_).trans ?_; (focus (first | (simp; done) | (simp; omega)))))) (by (try rw [World.cell?_drew]); repeat (first | (refine (cell_at ?_).trans ?_; (focus (simp; done)); rfl) | (refine (cell_pass ?_).trans ?_; (focus (first | (simp; done) | (simp; omega)))))) (by (try rw [World.cell?_drew]); repeat (first | (refine (cell_at ?_).trans ?_; (focus (simp; done)); rfl) | (refine (cell_pass ?_).trans ?_; (focus (first | (simp; done) | (simp; omega)))))), arr_of (by (try rw [World.cell?_drew]); repeat (first | (refine (cell_at ?_).trans ?_; (focus (simp; done)); rfl) | (refine (cell_pass ?_).trans ?_; (focus (first | (simp; done) | (simp; omega)))))) (by (try rw [World.cell?_drew]); repeat (first | (refine (cell_at ?_).trans ?_; (focus (simp; done)); rfl) | (refine (cell_pass ?_).trans ?_; (focus (first | (simp; done) | (simp; omega)))))) (by (try rw [World.cell?_drew]); repeat (first | (refine (cell_at ?_).trans ?_; (focus (simp; done)); rfl) | (refine (cell_pass ?_).trans ?_; (focus (first | (simp; done) | (simp; omega)))))), gw.trans (by (repeat (first | exact World.grownBy.refl _ _ | refine grown_dr ?_ | refine grown_al ?_)))⟩
              exact AllReadyH.nil
            exact AllReadyH.nil
          exact AllReadyH.nil
        refine AllReadyH.cons (o := _) rfl (fun K hK => ?_) ?_
        · clear hHeld
          go_simp
          first | (refine hK.out _ _ ?_ (fun hHeld => ?_)) | (go_wp2_with fail; refine hK.out _ _ ?_ (fun hHeld => ?_))
          · (try dsimp only); (repeat (first | exact World.grownBy.refl _ _ | refine grown_dr ?_ | refine grown_al ?_))
          clear hK K
          refine wpAnyH_ready (rs := [3]) (by kernel_rfl) (by simp) ?_
          refine AllReadyH.cons (o := _) rfl (fun K hK => ?_) ?_
          · clear hHeld
            go_simp
            refine (parts_k x y z _).mono ?_
            rintro e w' ⟨rfl, rfl⟩
            first | (refine hK.out _ _ ?_ (fun hHeld => ?_)) | (go_wp2_with fail; refine hK.out _ _ ?_ (fun hHeld => ?_))
            · (try dsimp only); (repeat (first | exact World.grownBy.refl _ _ | refine grown_dr ?_ | refine grown_al ?_))
            clear hK K
            refine wpAnyH_ready (rs := [6]) (by kernel_rfl) (by simp) ?_
            refine AllReadyH.cons (o := _) rfl (fun K hK => ?_) ?_
            · clear hHeld
              go_simp
              first | (refine hK.out _ _ ?_ (fun hHeld => ?_)) | (go_wp2_with fail; refine hK.out _ _ ?_ (fun hHeld => ?_))
              · (try dsimp only); (repeat (first | exact World.grownBy.refl _ _ | refine grown_dr ?_ | refine grown_al ?_))
              clear hK K
              refine wpAnyH_ready (rs := [7]) (by kernel_rfl) (by simp) ?_
              refine AllReadyH.cons (o := _) rfl (fun K hK => ?_) ?_
              · clear hHeld
                go_simp
                first | (refine hK.out _ _ ?_ (fun hHeld => ?_)) | (go_wp2_with fail; refine hK.out _ _ ?_ (fun hHeld => ?_))
                · (try dsimp only); (repeat (first | exact World.grownBy.refl _ _ | refine grown_dr ?_ | refine grown_al ?_))
                clear hK K
                refine wpAnyH_done (by kernel_rfl) ?_ _
                refine NoPanic.normal ?_
                go_simp
                go_wp2_with fail
                go_meet
                exact ⟨_, _, rfl, rfl, arr_of (by (try rw [World.cell?_drew]); repeat (first | (refine (cell_at ?_).trans ?_; (focus (simp; done)); rfl) | (refine (cell_pass ?_).trans ?_; (focus (first | (simp; done) | (simp; omega)))))) (by (try rw [World.cell?_drew]); repeat (first | (refine (cell_at ?_).trans ?_; (focus (simp; done)); rfl) | (refine (cell_pass ?_).trans ?_; (focus (first | (simp; done) | (simp; omega)))))) (by (try rw [World.cell?_drew]); repeat (first | (refine (cell_at ?_).trans ?_; (focus (simp; done)); rfl) | (refine (cell_pass ?_).trans ?_; (focus (first | (simp; done) | (simp; omega)))))), arr_of (by (try rw [World.cell?_drew]); repeat (first | (refine (cell_at ?_).trans ?_; (focus (simp; done)); rfl) | (refine (cell_pass ?_).trans ?_; (focus (first | (simp; done) | (simp; omega)))))) (by (try rw [World.cell?_drew]); repeat (first | (refine (cell_at ?_).trans ?_; (focus (simp; done)); rfl) | (refine (cell_pass ?_).trans ?_; (focus (first | (simp; done) | (simp; omega)))))) (by (try rw [World.cell?_drew]); repeat (first | (refine (cell_at ?_).trans ?_; (focus (simp; done)); rfl) | (refine (cell_pass ?_).trans ?_; (focus (first | (simp; done) | (simp; omega)))))), gw.trans (by (repeat (first | exact World.grownBy.refl _ _ | refine grown_dr ?_ | refine grown_al ?_)))⟩
              exact AllReadyH.nil
            exact AllReadyH.nil
          exact AllReadyH.nil
        exact AllReadyH.nil
      refine AllReadyH.cons (o := _) rfl (fun K hK => ?_) ?_
      · clear hHeld
        go_simp
        first | (refine hK.out _ _ ?_ (fun hHeld => ?_)) | (go_wp2_with fail; refine hK.out _ _ ?_ (fun hHeld => ?_))
        · (try dsimp only); (repeat (first | exact World.grownBy.refl _ _ | refine grown_dr ?_ | refine grown_al ?_))
        clear hK K
        refine wpAnyH_ready (rs := [3, 4]) (by kernel_rfl) (by simp) ?_
        refine AllReadyH.cons (o := _) rfl (fun K hK => ?_) ?_
        · clear hHeld
          go_simp
          refine (parts_k x y z _).mono ?_
          rintro e w' ⟨rfl, rfl⟩
          first | (refine hK.out _ _ ?_ (fun hHeld => ?_)) | (go_wp2_with fail; refine hK.out _ _ ?_ (fun hHeld => ?_))
          · (try dsimp only); (repeat (first | exact World.grownBy.refl _ _ | refine grown_dr ?_ | refine grown_al ?_))
          clear hK K
          refine wpAnyH_ready (rs := [4]) (by kernel_rfl) (by simp) ?_
          refine AllReadyH.cons (o := _) rfl (fun K hK => ?_) ?_
          · clear hHeld
            go_simp
            first | (refine hK.out _ _ ?_ (fun hHeld => ?_)) | (go_wp2_with fail; refine hK.out _ _ ?_ (fun hHeld => ?_))
            · (try dsimp only); (repeat (first | exact World.grownBy.refl _ _ | refine grown_dr ?_ | refine grown_al ?_))
            clear hK K
            refine wpAnyH_ready (rs := [6]) (by kernel_rfl) (by simp) ?_
            refine AllReadyH.cons (o := _) rfl (fun K hK => ?_) ?_
            · clear hHeld
              go_simp
              first | (refine hK.out _ _ ?_ (fun hHeld => ?_)) | (go_wp2_with fail; refine hK.out _ _ ?_ (fun hHeld => ?_))
              · (try dsimp only); (repeat (first | exact World.grownBy.refl _ _ | refine grown_dr ?_ | refine grown_al ?_))
              clear hK K
              refine wpAnyH_ready (rs := [7]) (by kernel_rfl) (by simp) ?_
              refine AllReadyH.cons (o := _) rfl (fun K hK => ?_) ?_
              · clear hHeld
                go_simp
                first | (refine hK.out _ _ ?_ (fun hHeld => ?_)) | (go_wp2_with fail; refine hK.out _ _ ?_ (fun hHeld => ?_))
                · (try dsimp only); (repeat (first | exact World.grownBy.refl _ _ | refine grown_dr ?_ | refine grown_al ?_))
                clear hK K
                refine wpAnyH_done (by kernel_rfl) ?_ _
                refine NoPanic.normal ?_
                go_simp
                go_wp2_with fail
                go_meet
                exact ⟨_, _, rfl, rfl, arr_of (by (try rw [World.cell?_drew]); repeat (first | (refine (cell_at ?_).trans ?_; (focus (simp; done)); rfl) | (refine (cell_pass ?_).trans ?_; (focus (first | (simp; done) | (simp; omega)))))) (by (try rw [World.cell?_drew]); repeat (first | (refine (cell_at ?_).trans ?_; (focus (simp; done)); rfl) | (refine (cell_pass ?_).trans ?_; (focus (first | (simp; done) | (simp; omega)))))) (by (try rw [World.cell?_drew]); repeat (first | (refine (cell_at ?_).trans ?_; (focus (simp; done)); rfl) | (refine (cell_pass ?_).trans ?_; (focus (first | (simp; done) | (simp; omega)))))), arr_of (by (try rw [World.cell?_drew]); repeat (first | (refine (cell_at ?_).trans ?_; (focus (simp; done)); rfl) | (refine (cell_pass ?_).trans ?_; (focus (first | (simp; done) | (simp; omega)))))) (by (try rw [World.cell?_drew]); repeat (first | (refine (cell_at ?_).trans ?_; (focus (simp; done)); rfl) | (refine (cell_pass ?_).trans ?_; (focus (first | (simp; done) | (simp; omega)))))) (by (try rw [World.cell?_drew]); repeat (first | (refine (cell_at ?_).trans ?_; (focus (simp; done)); rfl) | (refine (cell_pass ?_).trans ?_; (focus (first | (simp; done) | (simp; omega)))))), gw.trans (by (repeat (first | exact World.grownBy.refl _ _ | refine grown_dr ?_ | refine grown_al ?_)))⟩
              exact AllReadyH.nil
            exact AllReadyH.nil
          exact AllReadyH.nil
        refine AllReadyH.cons (o := _) rfl (fun K hK => ?_) ?_
        · clear hHeld
          go_simp
          first | (refine hK.out _ _ ?_ (fun hHeld => ?_)) | (go_wp2_with fail; refine hK.out _ _ ?_ (fun hHeld => ?_))
          · (try dsimp only); (repeat (first | exact World.grownBy.refl _ _ | refine grown_dr ?_ | refine grown_al ?_))
          clear hK K
          refine wpAnyH_ready (rs := [3]) (by kernel_rfl) (by simp) ?_
          refine AllReadyH.cons (o := _) rfl (fun K hK => ?_) ?_
          · clear hHeld
            go_simp
            refine (parts_k x y z _).mono ?_
            rintro e w' ⟨rfl, rfl⟩
            first | (refine hK.out _ _ ?_ (fun hHeld => ?_)) | (go_wp2_with fail; refine hK.out _ _ ?_ (fun hHeld => ?_))
            · (try dsimp only); (repeat (first | exact World.grownBy.refl _ _ | refine grown_dr ?_ | refine grown_al ?_))
            clear hK K
            refine wpAnyH_ready (rs := [6]) (by kernel_rfl) (by simp) ?_
            refine AllReadyH.cons (o := _) rfl (fun K hK => ?_) ?_
            · clear hHeld
              go_simp
              first | (refine hK.out _ _ ?_ (fun hHeld => ?_)) | (go_wp2_with fail; refine hK.out _ _ ?_ (fun hHeld => ?_))
              · (try dsimp only); (repeat (first | exact World.grownBy.refl _ _ | refine grown_dr ?_ | refine grown_al ?_))
              clear hK K
              refine wpAnyH_ready (rs := [7]) (by kernel_rfl) (by simp) ?_
              refine AllReadyH.cons (o := _) rfl (fun K hK => ?_) ?_
              · clear hHeld
                go_simp
                first | (refine hK.out _ _ ?_ (fun hHeld => ?_)) | (go_wp2_with fail; refine hK.out _ _ ?_ (fun hHeld => ?_))
                · (try dsimp only); (repeat (first | exact World.grownBy.refl _ _ | refine grown_dr ?_ | refine grown_al ?_))
                clear hK K
                refine wpAnyH_done (by kernel_rfl) ?_ _
                refine NoPanic.normal ?_
                go_simp
                go_wp2_with fail
                go_meet
                exact ⟨_, _, rfl, rfl, arr_of (by (try rw [World.cell?_drew]); repeat (first | (refine (cell_at ?_).trans ?_; (focus (simp; done)); rfl) | (refine (cell_pass ?_).trans ?_; (focus (first | (simp; done) | (simp; omega)))))) (by (try rw [World.cell?_drew]); repeat (first | (refine (cell_at ?_).trans ?_; (focus (simp; done)); rfl) | (refine (cell_pass ?_).trans ?_; (focus (first | (simp; done) | (simp; omega)))))) (by (try rw [World.cell?_drew]); repeat (first | (refine (cell_at ?_).trans ?_; (focus (simp; done)); rfl) | (refine (cell_pass ?_).trans ?_; (focus (first | (simp; done) | (simp; omega)))))), arr_of (by (try rw [World.cell?_drew]); repeat (first | (refine (cell_at ?_).trans ?_; (focus (simp; done)); rfl) | (refine (cell_pass ?_).trans ?_; (focus (first | (simp; done) | (simp; omega)))))) (by (try rw [World.cell?_drew]); repeat (first | (refine (cell_at ?_).trans ?_; (focus (simp; done)); rfl) | (refine (cell_pass ?_).trans ?_; (focus (first | (simp; done) | (simp; omega)))))) (by (try rw [World.cell?_drew]); repeat (first | (refine (cell_at ?_).trans ?_; (focus (simp; done)); rfl) | (refine (cell_pass ?_).trans ?_; (focus (first | (simp; done) | (simp; omega)))))), gw.trans (by (repeat (first | exact World.grownBy.refl _ _ | refine grown_dr ?_ | refine grown_al ?_)))⟩
              exact AllReadyH.nil
            exact AllReadyH.nil
          exact AllReadyH.nil
        exact AllReadyH.nil
      exact AllReadyH.nil
    refine AllReadyH.cons (o := _) rfl (fun K hK => ?_) ?_
    · clear hHeld
      go_simp
      first | (refine hK.out _ _ ?_ (fun hHeld => ?_)) | (go_wp2_with fail; refine hK.out _ _ ?_ (fun hHeld => ?_))
      · (try dsimp only); (repeat (first | exact World.grownBy.refl _ _ | refine grown_dr ?_ | refine grown_al ?_))
      clear hK K
      refine wpAnyH_ready (rs := [1, 5]) (by kernel_rfl) (by simp) ?_
      refine AllReadyH.cons (o := _) rfl (fun K hK => ?_) ?_
      · clear hHeld
        go_simp
        refine (parts_k d c s _).mono ?_
        rintro e w' ⟨rfl, rfl⟩
        first | (refine hK.out _ _ ?_ (fun hHeld => ?_)) | (go_wp2_with fail; refine hK.out _ _ ?_ (fun hHeld => ?_))
        · (try dsimp only); (repeat (first | exact World.grownBy.refl _ _ | refine grown_dr ?_ | refine grown_al ?_))
        clear hK K
        refine wpAnyH_ready (rs := [3, 5]) (by kernel_rfl) (by simp) ?_
        refine AllReadyH.cons (o := _) rfl (fun K hK => ?_) ?_
        · clear hHeld
          go_simp
          refine (parts_k x y z _).mono ?_
          rintro e w' ⟨rfl, rfl⟩
          first | (refine hK.out _ _ ?_ (fun hHeld => ?_)) | (go_wp2_with fail; refine hK.out _ _ ?_ (fun hHeld => ?_))
          · (try dsimp only); (repeat (first | exact World.grownBy.refl _ _ | refine grown_dr ?_ | refine grown_al ?_))
          clear hK K
          refine wpAnyH_ready (rs := [5]) (by kernel_rfl) (by simp) ?_
          refine AllReadyH.cons (o := _) rfl (fun K hK => ?_) ?_
          · clear hHeld
            go_simp
            first | (refine hK.out _ _ ?_ (fun hHeld => ?_)) | (go_wp2_with fail; refine hK.out _ _ ?_ (fun hHeld => ?_))
            · (try dsimp only); (repeat (first | exact World.grownBy.refl _ _ | refine grown_dr ?_ | refine grown_al ?_))
            clear hK K
            refine wpAnyH_ready (rs := [6]) (by kernel_rfl) (by simp) ?_
            refine AllReadyH.cons (o := _) rfl (fun K hK => ?_) ?_
            · clear hHeld
              go_simp
              first | (refine hK.out _ _ ?_ (fun hHeld => ?_)) | (go_wp2_with fail; refine hK.out _ _ ?_ (fun hHeld => ?_))
              · (try dsimp only); (repeat (first | exact World.grownBy.refl _ _ | refine grown_dr ?_ | refine grown_al ?_))
              clear hK K
              refine wpAnyH_ready (rs := [7]) (by kernel_rfl) (by simp) ?_
              refine AllReadyH.cons (o := _) rfl (fun K hK => ?_) ?_
              · clear hHeld
                go_simp
                first | (refine hK.out _ _ ?_ (fun hHeld => ?_)) | (go_wp2_with fail; refine hK.out _ _ ?_ (fun hHeld => ?_))
                · (try dsimp only); (repeat (first | exact World.grownBy.refl _ _ | refine grown_dr ?_ | refine grown_al ?_))
                clear hK K
                refine wpAnyH_done (by kernel_rfl) ?_ _
                refine NoPanic.normal ?_
                go_simp
                go_wp2_with fail
                go_meet
                exact ⟨_, _, rfl, rfl, arr_of (by (try rw [World.cell?_drew]); repeat (first | (refine (cell_at ?_).trans ?_; (focus (simp; done)); rfl) | (refine (cell_pass ?_).trans ?_; (focus (first | (simp; done) | (simp; omega)))))) (by (try rw [World.cell?_drew]); repeat (first | (refine (cell_at ?_).trans ?_; (focus (simp; done)); rfl) | (refine (cell_pass ?_).trans ?_; (focus (first | (simp; done) | (simp; omega)))))) (by (try rw [World.cell?_drew]); repeat (first | (refine (cell_at ?_).trans ?_; (focus (simp; done)); rfl) | (refine (cell_pass ?_).trans ?_; (focus (first | (simp; done) | (simp; omega)))))), arr_of (by (try rw [World.cell?_drew]); repeat (first | (refine (cell_at ?_).trans ?_; (focus (simp; done)); rfl) | (refine (cell_pass ?_).trans ?_; (focus (first | (simp; done) | (simp; omega)))))) (by (try rw [World.cell?_drew]); repeat (first | (refine (cell_at ?_).trans ?_; (focus (simp; done)); rfl) | (refine (cell_pass ?_).trans ?_; (focus (first | (simp; done) | (simp; omega)))))) (by (try rw [World.cell?_drew]); repeat (first | (refine (cell_at ?_).trans ?_; (focus (simp; done)); rfl) | (refine (cell_pass ?_).trans ?_; (focus (first | (simp; done) | (simp; omega)))))), gw.trans (by (repeat (first | exact World.grownBy.refl _ _ | refine grown_dr ?_ | refine grown_al ?_)))⟩
              exact AllReadyH.nil
            exact AllReadyH.nil
          exact AllReadyH.nil
        refine AllReadyH.cons (o := _) rfl (fun K hK => ?_) ?_
        · clear hHeld
          go_simp
          first | (refine hK.out _ _ ?_ (fun hHeld => ?_)) | (go_wp2_with fail; refine hK.out _ _ ?_ (fun hHeld => ?_))
          · (try dsimp only); (repeat (first | exact World.grownBy.refl _ _ | refine grown_dr ?_ | refine grown_al ?_))
          clear hK K
          refine wpAnyH_ready (rs := [3]) (by kernel_rfl) (by simp) ?_
          refine AllReadyH.cons (o := _) rfl (fun K hK => ?_) ?_
          · clear hHeld
            go_simp
            refine (parts_k x y z _).mono ?_
            rintro e w' ⟨rfl, rfl⟩
            first | (refine hK.out _ _ ?_ (fun hHeld => ?_)) | (go_wp2_with fail; refine hK.out _ _ ?_ (fun hHeld => ?_))
            · (try dsimp only); (repeat (first | exact World.grownBy.refl _ _ | refine grown_dr ?_ | refine grown_al ?_))
            clear hK K
            refine wpAnyH_ready (rs := [6]) (by kernel_rfl) (by simp) ?_
            refine AllReadyH.cons (o := _) rfl (fun K hK => ?_) ?_
            · clear hHeld
              go_simp
              first | (refine hK.out _ _ ?_ (fun hHeld => ?_)) | (go_wp2_with fail; refine hK.out _ _ ?_ (fun hHeld => ?_))
              · (try dsimp only); (repeat (first | exact World.grownBy.refl _ _ | refine grown_dr ?_ | refine grown_al ?_))
              clear hK K
              refine wpAnyH_ready (rs := [7]) (by kernel_rfl) (by simp) ?_
              refine AllReadyH.cons (o := _) rfl (fun K hK => ?_) ?_
              · clear hHeld
                go_simp
                first | (refine hK.out _ _ ?_ (fun hHeld => ?_)) | (go_wp2_with fail; refine hK.out _ _ ?_ (fun hHeld => ?_))
                · (try dsimp only); (repeat (first | exact World.grownBy.refl _ _ | refine grown_dr ?_ | refine grown_al ?_))
                clear hK K
                refine wpAnyH_done (by kernel_rfl) ?_ _
                refine NoPanic.normal ?_
                go_simp
                go_wp2_with fail
                go_meet
                exact ⟨_, _, rfl, rfl, arr_of (by (try rw [World.cell?_drew]); repeat (first | (refine (cell_at ?_).trans ?_; (focus (simp; done)); rfl) | (refine (cell_pass ?_).trans ?_; (focus (first | (simp; done) | (simp; omega)))))) (by (try rw [World.cell?_drew]); repeat (first | (refine (cell_at ?_).trans ?_; (focus (simp; done)); rfl) | (refine (cell_pass ?_).trans ?_; (focus (first | (simp; done) | (simp; omega)))))) (by (try rw [World.cell?_drew]); repeat (first | (refine (cell_at ?_).trans ?_; (focus (simp; done)); rfl) | (refine (cell_pass ?_).trans ?_; (focus (first | (simp; done) | (simp; omega)))))), arr_of (by (try rw [World.cell?_drew]); repeat (first | (refine (cell_at ?_).trans ?_; (focus (simp; done)); rfl) | (refine (cell_pass ?_).trans ?_; (focus (first | (simp; done) | (simp; omega)))))) (by (try rw [World.cell?_drew]); repeat (first | (refine (cell_at ?_).trans ?_; (focus (simp; done)); rfl) | (refine (cell_pass ?_).trans ?_; (focus (first | (simp; done) | (simp; omega)))))) (by (try rw [World.cell?_drew]); repeat (first | (refine (cell_at ?_).trans ?_; (focus (simp; done)); rfl) | (refine (cell_pass ?_).trans ?_; (focus (first | (simp; done) | (simp; omega)))))), gw.trans (by (repeat (first | exact World.grownBy.refl _ _ | refine grown_dr ?_ | refine grown_al ?_)))⟩
              exact AllReadyH.nil
            exact AllReadyH.nil
          exact AllReadyH.nil
        exact AllReadyH.nil
      refine AllReadyH.cons (o := _) rfl (fun K hK => ?_) ?_
      · clear hHeld
        go_simp
        first | (refine hK.out _ _ ?_ (fun hHeld => ?_)) | (go_wp2_with fail; refine hK.out _ _ ?_ (fun hHeld => ?_))
        · (try dsimp only); (repeat (first | exact World.grownBy.refl _ _ | refine grown_dr ?_ | refine grown_al ?_))
        clear hK K
        refine wpAnyH_ready (rs := [1]) (by kernel_rfl) (by simp) ?_
        refine AllReadyH.cons (o := _) rfl (fun K hK => ?_) ?_
        · clear hHeld
          go_simp
          refine (parts_k d c s _).mono ?_
          rintro e w' ⟨rfl, rfl⟩
          first | (refine hK.out _ _ ?_ (fun hHeld => ?_)) | (go_wp2_with fail; refine hK.out _ _ ?_ (fun hHeld => ?_))
          · (try dsimp only); (repeat (first | exact World.grownBy.refl _ _ | refine grown_dr ?_ | refine grown_al ?_))
          clear hK K
          refine wpAnyH_ready (rs := [3]) (by kernel_rfl) (by simp) ?_
          refine AllReadyH.cons (o := _) rfl (fun K hK => ?_) ?_
          · clear hHeld
            go_simp
            refine (parts_k x y z _).mono ?_
            rintro e w' ⟨rfl, rfl⟩
            first | (refine hK.out _ _ ?_ (fun hHeld => ?_)) | (go_wp2_with fail; refine hK.out _ _ ?_ (fun hHeld => ?_))
            · (try dsimp only); (repeat (first | exact World.grownBy.refl _ _ | refine grown_dr ?_ | refine grown_al ?_))
            clear hK K
            refine wpAnyH_ready (rs := [6]) (by kernel_rfl) (by simp) ?_
            refine AllReadyH.cons (o := _) rfl (fun K hK => ?_) ?_
            · clear hHeld
              go_simp
              first | (refine hK.out _ _ ?_ (fun hHeld => ?_)) | (go_wp2_with fail; refine hK.out _ _ ?_ (fun hHeld => ?_))
              · (try dsimp only); (repeat (first | exact World.grownBy.refl _ _ | refine grown_dr ?_ | refine grown_al ?_))
              clear hK K
              refine wpAnyH_ready (rs := [7]) (by kernel_rfl) (by simp) ?_
              refine AllReadyH.cons (o := _) rfl (fun K hK => ?_) ?_
              · clear hHeld
                go_simp
                first | (refine hK.out _ _ ?_ (fun hHeld => ?_)) | (go_wp2_with fail; refine hK.out _ _ ?_ (fun hHeld => ?_))
                · (try dsimp only); (repeat (first | exact World.grownBy.refl _ _ | refine grown_dr ?_ | refine grown_al ?_))
                clear hK K
                refine wpAnyH_done (by kernel_rfl) ?_ _
                refine NoPanic.normal ?_
                go_simp
                go_wp2_with fail
                go_meet
                exact ⟨_, _, rfl, rfl, arr_of (by (try rw [World.cell?_drew]); repeat (first | (refine (cell_at ?_).trans ?_; (focus (simp; done)); rfl) | (refine (cell_pass ?_).trans ?_; (focus (first | (simp; done) | (simp; omega)))))) (by (try rw [World.cell?_drew]); repeat (first | (refine (cell_at ?_).trans ?_; (focus (simp; done)); rfl) | (refine (cell_pass ?_).trans ?_; (focus (first | (simp; done) | (simp; omega)))))) (by (try rw [World.cell?_drew]); repeat (first | (refine (cell_at ?_).trans ?_; (focus (simp; done)); rfl) | (refine (cell_pass ?_).trans ?_; (focus (first | (simp; done) | (simp; omega)))))), arr_of (by (try rw [World.cell?_drew]); repeat (first | (refine (cell_at ?_).trans ?_; (focus (simp; done)); rfl) | (refine (cell_pass ?_).trans ?_; (focus (first | (simp; done) | (simp; omega)))))) (by (try rw [World.cell?_drew]); repeat (first | (refine (cell_at ?_).trans ?_; (focus (simp; done)); rfl) | (refine (cell_pass ?_).trans ?_; (focus (first | (simp; done) | (simp; omega)))))) (by (try rw [World.cell?_drew]); repeat (first | (refine (cell_at ?_).trans ?_; (focus (simp; done)); rfl) | (refine (cell_pass ?_).trans ?_; (focus (first | (simp; done) | (simp; omega)))))), gw.trans (by (repeat (first | exact World.grownBy.refl _ _ | refine grown_dr ?_ | refine grown_al ?_)))⟩
              exact AllReadyH.nil
            exact AllReadyH.nil
          exact AllReadyH.nil
        exact AllReadyH.nil
      exact AllReadyH.nil
    refine AllReadyH.cons (o := _) rfl (fun K hK => ?_) ?_
    · clear hHeld
      go_simp
      first | (refine hK.out _ _ ?_ (fun hHeld => ?_)) | (go_wp2_with fail; refine hK.out _ _ ?_ (fun hHeld => ?_))
      · (try dsimp only); (repeat (first | exact World.grownBy.refl _ _ | refine grown_dr ?_ | refine grown_al ?_))
      clear hK K
      refine wpAnyH_ready (rs := [1, 4]) (by kernel_rfl) (by simp) ?_
      refine AllReadyH.cons (o := _) rfl (fun K hK => ?_) ?_
      · clear hHeld
        go_simp
        refine (parts_k d c s _).mono ?_
        rintro e w' ⟨rfl, rfl⟩
        first | (refine hK.out _ _ ?_ (fun hHeld => ?_)) | (go_wp2_with fail; refine hK.out _ _ ?_ (fun hHeld => ?_))
        · (try dsimp only); (repeat (first | exact World.grownBy.refl _ _ | refine grown_dr ?_ | refine grown_al ?_))
        clear hK K
        refine wpAnyH_ready (rs := [3, 4]) (by kernel_rfl) (by simp) ?_
        refine AllReadyH.cons (o := _) rfl (fun K hK => ?_) ?_
        · clear hHeld
          go_simp
          refine (parts_k x y z _).mono ?_
          rintro e w' ⟨rfl, rfl⟩
          first | (refine hK.out _ _ ?_ (fun hHeld => ?_)) | (go_wp2_with fail; refine hK.out _ _ ?_ (fun hHeld => ?_))
          · (try dsimp only); (repeat (first | exact World.grownBy.refl _ _ | refine grown_dr ?_ | refine grown_al ?_))
          clear hK K
          refine wpAnyH_ready (rs := [4]) (by kernel_rfl) (by simp) ?_
          refine AllReadyH.cons (o := _) rfl (fun K hK => ?_) ?_
          · clear hHeld
            go_simp
            first | (refine hK.out _ _ ?_ (fun hHeld => ?_)) | (go_wp2_with fail; refine hK.out _ _ ?_ (fun hHeld => ?_))
            · (try dsimp only); (repeat (first | exact World.grownBy.refl _ _ | refine grown_dr ?_ | refine grown_al ?_))
            clear hK K
            refine wpAnyH_ready (rs := [6]) (by kernel_rfl) (by simp) ?_
            refine AllReadyH.cons (o := _) rfl (fun K hK => ?_) ?_
            · clear hHeld
              go_simp
              first | (refine hK.out _ _ ?_ (fun hHeld => ?_)) | (go_wp2_with fail; refine hK.out _ _ ?_ (fun hHeld => ?_))
              · (try dsimp only); (repeat (first | exact World.grownBy.refl _ _ | refine grown_dr ?_ | refine grown_al ?_))
              clear hK K
              refine wpAnyH_ready (rs := [7]) (by kernel_rfl) (by simp) ?_
              refine AllReadyH.cons (o := _) rfl (fun K hK => ?_) ?_
              · clear hHeld
                go_simp
                first | (refine hK.out _ _ ?_ (fun hHeld => ?_)) | (go_wp2_with fail; refine hK.out _ _ ?_ (fun hHeld => ?_))
                · (try dsimp only); (repeat (first | exact World.grownBy.refl _ _ | refine grown_dr ?_ | refine grown_al ?_))
                clear hK K
                refine wpAnyH_done (by kernel_rfl) ?_ _
                refine NoPanic.normal ?_
                go_simp
                go_wp2_with fail
                go_meet
                exact ⟨_, _, rfl, rfl, arr_of (by (try rw [World.cell?_drew]); repeat (first | (refine (cell_at ?_).trans ?_; (focus (simp; done)); rfl) | (refine (cell_pass ?_).trans ?_; (focus (first | (simp; done) | (simp; omega)))))) (by (try rw [World.cell?_drew]); repeat (first | (refine (cell_at ?_).trans ?_; (focus (simp; done)); rfl) | (refine (cell_pass ?_).trans ?_; (focus (first | (simp; done) | (simp; omega)))))) (by (try rw [World.cell?_drew]); repeat (first | (refine (cell_at ?_).trans ?_; (focus (simp; done)); rfl) | (refine (cell_pass ?_).trans ?_; (focus (first | (simp; done) | (simp; omega)))))), arr_of (by (try rw [World.cell?_drew]); repeat (first | (refine (cell_at ?_).trans ?_; (focus (simp; done)); rfl) | (refine (cell_pass ?_).trans ?_; (focus (first | (simp; done) | (simp; omega)))))) (by (try rw [World.cell?_drew]); repeat (first | (refine (cell_at ?_).trans ?_; (focus (simp; done)); rfl) | (refine (cell_pass ?_).trans ?_; (focus (first | (simp; done) | (simp; omega)))))) (by (try rw [World.cell?_drew]); repeat (first | (refine (cell_at ?_).trans ?_; (focus (simp; done)); rfl) | (refine (cell_pass ?_).trans ?_; (focus (first | (simp; done) | (simp; omega)))))), gw.trans (by (repeat (first | exact World.grownBy.refl _ _ | refine grown_dr ?_ | refine grown_al ?_)))⟩
              exact AllReadyH.nil
            exact AllReadyH.nil
          exact AllReadyH.nil
        refine AllReadyH.cons (o := _) rfl (fun K hK => ?_) ?_
        · clear hHeld
          go_simp
          first | (refine hK.out _ _ ?_ (fun hHeld => ?_)) | (go_wp2_with fail; refine hK.out _ _ ?_ (fun hHeld => ?_))
          · (try dsimp only); (repeat (first | exact World.grownBy.refl _ _ | refine grown_dr ?_ | refine grown_al ?_))
          clear hK K
          refine wpAnyH_ready (rs := [3]) (by kernel_rfl) (by simp) ?_
          refine AllReadyH.cons (o := _) rfl (fun K hK => ?_) ?_
          · clear hHeld
            go_simp
            refine (parts_k x y z _).mono ?_
            rintro e w' ⟨rfl, rfl⟩
            first | (refine hK.out _ _ ?_ (fun hHeld => ?_)) | (go_wp2_with fail; refine hK.out _ _ ?_ (fun hHeld => ?_))
            · (try dsimp only); (repeat (first | exact World.grownBy.refl _ _ | refine grown_dr ?_ | refine grown_al ?_))
            clear hK K
            refine wpAnyH_ready (rs := [6]) (by kernel_rfl) (by simp) ?_
            refine AllReadyH.cons (o := _) rfl (fun K hK => ?_) ?_
            · clear hHeld
              go_simp
              first | (refine hK.out _ _ ?_ (fun hHeld => ?_)) | (go_wp2_with fail; refine hK.out _ _ ?_ (fun hHeld => ?_))
              · (try dsimp only); (repeat (first | exact World.grownBy.refl _ _ | refine grown_dr ?_ | refine grown_al ?_))
              clear hK K
              refine wpAnyH_ready (rs := [7]) (by kernel_rfl) (by simp) ?_
              refine AllReadyH.cons (o := _) rfl (fun K hK => ?_) ?_
              · clear hHeld
                go_simp
                first | (refine hK.out _ _ ?_ (fun hHeld => ?_)) | (go_wp2_with fail; refine hK.out _ _ ?_ (fun hHeld => ?_))
                · (try dsimp only); (repeat (first | exact World.grownBy.refl _ _ | refine grown_dr ?_ | refine grown_al ?_))
                clear hK K
                refine wpAnyH_done (by kernel_rfl) ?_ _
                refine NoPanic.normal ?_
                go_simp
                go_wp2_with fail
                go_meet
                exact ⟨_, _, rfl, rfl, arr_of (by (try rw [World.cell?_drew]); repeat (first | (refine (cell_at ?_).trans ?_; (focus (simp; done)); rfl) | (refine (cell_pass ?_).trans ?_; (focus (first | (simp; done) | (simp; omega)))))) (by (try rw [World.cell?_drew]); repeat (first | (refine (cell_at ?_).trans ?_; (focus (simp; done)); rfl) | (refine (cell_pass ?_).trans ?_; (focus (first | (simp; done) | (simp; omega)))))) (by (try rw [World.cell?_drew]); repeat (first | (refine (cell_at ?_).trans ?_; (focus (simp; done)); rfl) | (refine (cell_pass ?_).trans ?_; (focus (first | (simp; done) | (simp; omega)))))), arr_of (by (try rw [World.cell?_drew]); repeat (first | (refine (cell_at ?_).trans ?_; (focus (simp; done)); rfl) | (refine (cell_pass ?_).trans ?_; (focus (first | (simp; done) | (simp; omega)))))) (by (try rw [World.cell?_drew]); repeat (first | (refine (cell_at ?_).trans ?_; (focus (simp; done)); rfl) | (refine (cell_pass ?_).trans ?_; (focus (first | (simp; done) | (simp; omega)))))) (by (try rw [World.cell?_drew]); repeat (first | (refine (cell_at ?_).trans ?_; (focus (simp; done)); rfl) | (refine (cell_pass ?_).trans ?_; (focus (first | (simp; done) | (simp; omega)))))), gw.trans (by (repeat (first | exact World.grownBy.refl _ _ | refine grown_dr ?_ | refine grown_al ?_)))⟩
              exact AllReadyH.nil
            exact AllReadyH.nil
          exact AllReadyH.nil
        exact AllReadyH.nil
      refine AllReadyH.cons (o := _) rfl (fun K hK => ?_) ?_
      · clear hHeld
        go_simp
        first | (refine hK.out _ _ ?_ (fun hHeld => ?_)) | (go_wp2_with fail; refine hK.out _ _ ?_ (fun hHeld => ?_))
        · (try dsimp only); (repeat (first | exact World.grownBy.refl _ _ | refine grown_dr ?_ | refine grown_al ?_))
        clear hK K
        refine wpAnyH_ready (rs := [1]) (by kernel_rfl) (by simp) ?_
        refine AllReadyH.cons (o := _) rfl (fun K hK => ?_) ?_
        · clear hHeld
          go_simp
          refine (parts_k d c s _).mono ?_
          rintro e w' ⟨rfl, rfl⟩
          first | (refine hK.out _ _ ?_ (fun hHeld => ?_)) | (go_wp2_with fail; refine hK.out _ _ ?_ (fun hHeld => ?_))
          · (try dsimp only); (repeat (first | exact World.grownBy.refl _ _ | refine grown_dr ?_ | refine grown_al ?_))
          clear hK K
          refine wpAnyH_ready (rs := [3]) (by kernel_rfl) (by simp) ?_
          refine AllReadyH.cons (o := _) rfl (fun K hK => ?_) ?_
          · clear hHeld
            go_simp
            refine (parts_k x y z _).mono ?_
            rintro e w' ⟨rfl, rfl⟩
            first | (refine hK.out _ _ ?_ (fun hHeld => ?_)) | (go_wp2_with fail; refine hK.out _ _ ?_ (fun hHeld => ?_))
            · (try dsimp only); (repeat (first | exact World.grownBy.refl _ _ | refine grown_dr ?_ | refine grown_al ?_))
            clear hK K
            refine wpAnyH_ready (rs := [6]) (by kernel_rfl) (by simp) ?_
            refine AllReadyH.cons (o := _) rfl (fun K hK => ?_) ?_
            · clear hHeld
              go_simp
              first | (refine hK.out _ _ ?_ (fun hHeld => ?_)) | (go_wp2_with fail; refine hK.out _ _ ?_ (fun hHeld => ?_))
              · (try dsimp only); (repeat (first | exact World.grownBy.refl _ _ | refine grown_dr ?_ | refine grown_al ?_))
              clear hK K
              refine wpAnyH_ready (rs := [7]) (by kernel_rfl) (by simp) ?_
              refine AllReadyH.cons (o := _) rfl (fun K hK => ?_) ?_
              · clear hHeld
                go_simp
                first | (refine hK.out _ _ ?_ (fun hHeld => ?_)) | (go_wp2_with fail; refine hK.out _ _ ?_ (fun hHeld => ?_))
                · (try dsimp only); (repeat (first | exact World.grownBy.refl _ _ | refine grown_dr ?_ | refine grown_al ?_))
                clear hK K
                refine wpAnyH_done (by kernel_rfl) ?_ _
                refine NoPanic.normal ?_
                go_simp
                go_wp2_with fail
                go_meet
                exact ⟨_, _, rfl, rfl, arr_of (by (try rw [World.cell?_drew]); repeat (first | (refine (cell_at ?_).trans ?_; (focus (simp; done)); rfl) | (refine (cell_pass ?_).trans ?_; (focus (first | (simp; done) | (simp; omega)))))) (by (try rw [World.cell?_drew]); repeat (first | (refine (cell_at ?_).trans ?_; (focus (simp; done)); rfl) | (refine (cell_pass ?_).trans ?_; (focus (first | (simp; done) | (simp; omega)))))) (by (try rw [World.cell?_drew]); repeat (first | (refine (cell_at ?_).trans ?_; (focus (simp; done)); rfl) | (refine (cell_pass ?_).trans ?_; (focus (first | (simp; done) | (simp; omega)))))), arr_of (by (try rw [World.cell?_drew]); repeat (first | (refine (cell_at ?_).trans ?_; (focus (simp; done)); rfl) | (refine (cell_pass ?_).trans ?_; (focus (first | (simp; done) | (simp; omega)))))) (by (try rw [World.cell?_drew]); repeat (first | (refine (cell_at ?_).trans ?_; (focus (simp; done)); rfl) | (refine (cell_pass ?_).trans ?_; (focus (first | (simp; done) | (simp; omega)))))) (by (try rw [World.cell?_drew]); repeat (first | (refine (cell_at ?_).trans ?_; (focus (simp; done)); rfl) | (refine (cell_pass ?_).trans ?_; (focus (first | (simp; done) | (simp; omega)))))), gw.trans (by (repeat (first | exact World.grownBy.refl _ _ | refine grown_dr ?_ | refine grown_al ?_)))⟩
              exact AllReadyH.nil
            exact AllReadyH.nil
          exact AllReadyH.nil
        exact AllReadyH.nil
      exact AllReadyH.nil
    exact AllReadyH.nil
  case rest =>
    obtain ⟨p, q, rfl, rfl, ap, aq, g⟩ := hcut
    go_wp2_with fail
    go_loopw [12] (fun i wr => ∃ k : Nat, k ≤ 3 ∧ i = .int .i64 k ∧ pre d c s x y z k ∧ ∃ n, wr = wc.drewN n) (fun i _ => 3 - (intOf i).toNat)
    case atStart => exact ⟨0, by omega, rfl, ⟨by omega, by omega, by omega⟩, 0, rfl⟩
    case round =>
      obtain ⟨k, hk, rfl, hpre, n, rfl⟩ := hrel
      by_cases hlt : k < 3
      · obtain ⟨u, v, cu, cv, H1, H2⟩ := cmp3 ap aq k hlt
        have H1 := Lib.hid (H1 hpre)
        have H2 := Lib.hid (H2 hpre)
        clear hpre ap aq
        have r1 : (0 : Int) ≤ (k : Int) := by omega
        have r2 : (k : Int) < 3 := by omega
        by_cases huv : u = v
        · have hb : (u != v) = false := by simp [huv]
          have H1 := Lib.hid (H1.out huv)
          clear huv
          go_wp2_with fail
          go_quiet (fail)
          go_wp2_with fail
          go_roundw
          case rel => exact ⟨k + 1, by omega, by go_num, H1.out, _, rfl⟩
          case measure => simp [intOf]; omega
        · have hb : (u != v) = true := by simp [huv]
          have H2 := Lib.hid (H2.out huv)
          clear huv
          go_wp2_with fail
          go_quiet (fail)
          go_wp2_with fail
          go_quiet (fail)
          go_wp2_with fail
          go_ret
          exact ⟨ret_bool H2.out.symm, grown_dn (grown_dn (grown_dn g))⟩
      · have H := Lib.hid (pre_all hpre (by omega))
        go_wp2_with fail
        go_ret
        exact ⟨ret_bool H.out.symm, g.trans (grown_drewN _ _ _)⟩
end Go.Proofs.Ytgfifpbmjkjnpaa
