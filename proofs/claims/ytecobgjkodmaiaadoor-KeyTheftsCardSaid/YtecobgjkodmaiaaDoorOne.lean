/-
  The reference's look at one key, by its contract.
-/
import Derived.Test.YtecobgjkodmaiaaDoorCheck
import Derived.Deep.RegionHeld3
namespace Go.Proofs.YtecobgjkodmaiaaDoor
open Go.RowKit
attribute [local go_sem] get_mk extract_mk
/-- the same errors, as the reference asks for them -/
def oneV (o : Option K) (k : K) : Int :=
  if k.id < 1 then 3 else if k.sec = [] then 3 else if 40 < k.sec.length then 3
  else if (match o with | some b => decide (k.id ≤ b.id) | none => false) = true then 7
  else if rightD k.frm = false then 23 else if rightD k.stl = false then 23 else if k.stl ≠ 0 ∧ k.stl < k.frm then 23
  else if (match o with | some b => decide (k.frm < b.frm) | none => false) = true then 7 else 0
theorem oneV_some (b k : K) : oneV (some b) k = chkN b k := by
  unfold oneV chkN canS
  by_cases c1 : k.id < 1
  · simp [c1]
  by_cases c2 : k.sec = []
  · simp [c1, c2]
  by_cases c3 : 40 < k.sec.length
  · simp [c1, c2, c3]
  by_cases c4 : k.id ≤ b.id
  · simp [c1, c2, c3, c4]
  by_cases c5 : rightD k.frm = false
  · simp [c1, c2, c3, c4, c5]
  by_cases c6 : k.stl = 0
  · simp [c1, c2, c3, c4, c5, c6, show rightD 0 = true from rfl]
  by_cases c7 : rightD k.stl = false
  · simp [c1, c2, c3, c4, c5, c6, c7]
  by_cases c8 : k.stl < k.frm
  · simp [c1, c2, c3, c4, c5, c6, c7, c8]
  · have c9 : k.frm ≤ k.stl := by omega
    simp [c1, c2, c3, c4, c5, c6, c7, c8, c9]
theorem oneV_none (k : K) : oneV none k = chkN K0 k := by
  rw [← oneV_some]
  unfold oneV
  by_cases c1 : k.id < 1
  · simp [c1]
  by_cases c2 : k.sec = []
  · simp [c1, c2]
  by_cases c3 : 40 < k.sec.length
  · simp [c1, c2, c3]
  have c4 : ¬ k.id ≤ 0 := by omega
  by_cases c5 : rightD k.frm = false
  · simp [c1, c2, c3, c4, c5, K0]
  have c6 : ¬ k.frm < 0 := by unfold rightD at c5; simp at c5; omega
  simp [c1, c2, c3, c4, c5, c6, K0]
set_option maxRecDepth 100000 in
set_option maxHeartbeats 4000000 in
theorem one_z (ad : Addr) (n c : Nat) (hn : 0 < n) (_ : n ≤ 9223372036854775807) (i : Int) (s : Str) (f t : Int) (hi : i64 i) (hs : s.length ≤ 1152921504606846976) (hf : i64 f) (ht : i64 t) (w : World)
    (x0 : w.cell? ad = some (.int .i64 i)) (x1 : w.cell? ⟨ad.block, ad.off + 1, none⟩ = some (.string ⟨s.toArray⟩)) (x2 : w.cell? ⟨ad.block, ad.off + 2, none⟩ = some (.int .i64 f)) (x3 : w.cell? ⟨ad.block, ad.off + 3, none⟩ = some (.int .i64 t)) :
    Calls Tryd.prog 31 #[.slice (some ad) n c, .int .i64 0] w fun e w' => e = .returned (.int .i64 (chkN K0 ⟨i, s, f, t⟩)) ∧ w.grownBy w' none := by
  obtain ⟨f1, f2⟩ := id hf
  obtain ⟨t1, t2⟩ := id ht
  obtain ⟨i1, i2⟩ := id hi
  by_cases c0 : i < 1
  · have HE : Hid (chkN K0 ⟨i, s, f, t⟩ = 3) := Lib.hid (by rw [← oneV_none]; unfold oneV; simp [c0])
    have h0 : decide (i < 1) = true := by simp; omega
    clear c0
    go_enter Tryd.func31, Tryd.ntmps31
    go_upto_region 2 with fail
    obtain ⟨w3, e3, HX, g⟩ := row_of w 28 #[.int .i64 i, .string ⟨s.toArray⟩, .int .i64 f, .int .i64 t]
    rw [← e3]
    clear e3
    have z0 : w3.cell? ⟨w.heap.size, 0, none⟩ = some (.int .i64 i) := HX.c 0 rfl
    have z1 : w3.cell? ⟨w.heap.size, 1, none⟩ = some (.string ⟨s.toArray⟩) := HX.c 1 rfl
    have z2 : w3.cell? ⟨w.heap.size, 2, none⟩ = some (.int .i64 f) := HX.c 2 rfl
    have z3 : w3.cell? ⟨w.heap.size, 3, none⟩ = some (.int .i64 t) := HX.c 3 rfl
    clear HX x0 x1 x2 x3
    go_wp2_with fail
    go_ret
    exact ⟨by rw [HE.out]; rfl, g⟩
  · by_cases c1 : s = []
    · have HE : Hid (chkN K0 ⟨i, s, f, t⟩ = 3) := Lib.hid (by rw [← oneV_none]; unfold oneV; simp [c0, c1])
      have h0 : decide (i < 1) = false := by simp; omega
      have h1 : decide ((s.length : Int) < 1) = true := by simp [c1]
      clear c0 c1
      go_enter Tryd.func31, Tryd.ntmps31
      go_upto_region 2 with fail
      obtain ⟨w3, e3, HX, g⟩ := row_of w 28 #[.int .i64 i, .string ⟨s.toArray⟩, .int .i64 f, .int .i64 t]
      rw [← e3]
      clear e3
      have z0 : w3.cell? ⟨w.heap.size, 0, none⟩ = some (.int .i64 i) := HX.c 0 rfl
      have z1 : w3.cell? ⟨w.heap.size, 1, none⟩ = some (.string ⟨s.toArray⟩) := HX.c 1 rfl
      have z2 : w3.cell? ⟨w.heap.size, 2, none⟩ = some (.int .i64 f) := HX.c 2 rfl
      have z3 : w3.cell? ⟨w.heap.size, 3, none⟩ = some (.int .i64 t) := HX.c 3 rfl
      clear HX x0 x1 x2 x3
      go_wp2_with fail
      go_ret
      exact ⟨by rw [HE.out]; rfl, g⟩
    · by_cases c2 : 40 < s.length
      · have HE : Hid (chkN K0 ⟨i, s, f, t⟩ = 3) := Lib.hid (by rw [← oneV_none]; unfold oneV; simp [c0, c1, c2])
        have h0 : decide (i < 1) = false := by simp; omega
        have h1 : decide ((s.length : Int) < 1) = false := by have := List.length_pos_iff.2 c1; simp; omega
        have h2 : decide ((s.length : Int) > 40) = true := by simp; omega
        clear c0 c1 c2
        go_enter Tryd.func31, Tryd.ntmps31
        go_upto_region 2 with fail
        obtain ⟨w3, e3, HX, g⟩ := row_of w 28 #[.int .i64 i, .string ⟨s.toArray⟩, .int .i64 f, .int .i64 t]
        rw [← e3]
        clear e3
        have z0 : w3.cell? ⟨w.heap.size, 0, none⟩ = some (.int .i64 i) := HX.c 0 rfl
        have z1 : w3.cell? ⟨w.heap.size, 1, none⟩ = some (.string ⟨s.toArray⟩) := HX.c 1 rfl
        have z2 : w3.cell? ⟨w.heap.size, 2, none⟩ = some (.int .i64 f) := HX.c 2 rfl
        have z3 : w3.cell? ⟨w.heap.size, 3, none⟩ = some (.int .i64 t) := HX.c 3 rfl
        clear HX x0 x1 x2 x3
        go_wp2_with fail
        go_ret
        exact ⟨by rw [HE.out]; rfl, g⟩
      · by_cases c3 : False
        · exact c3.elim
        · by_cases c4 : rightD f = false
          · have HE : Hid (chkN K0 ⟨i, s, f, t⟩ = 23) := Lib.hid (by rw [← oneV_none]; unfold oneV; simp [c0, c1, c2, c4])
            have h0 : decide (i < 1) = false := by simp; omega
            have h1 : decide ((s.length : Int) < 1) = false := by have := List.length_pos_iff.2 c1; simp; omega
            have h2 : decide ((s.length : Int) > 40) = false := by simp; omega
            have h4 := c4
            clear c0 c1 c2 c3 c4
            go_enter Tryd.func31, Tryd.ntmps31
            go_upto_region 2 with fail
            obtain ⟨w3, e3, HX, g⟩ := row_of w 28 #[.int .i64 i, .string ⟨s.toArray⟩, .int .i64 f, .int .i64 t]
            rw [← e3]
            clear e3
            have z0 : w3.cell? ⟨w.heap.size, 0, none⟩ = some (.int .i64 i) := HX.c 0 rfl
            have z1 : w3.cell? ⟨w.heap.size, 1, none⟩ = some (.string ⟨s.toArray⟩) := HX.c 1 rfl
            have z2 : w3.cell? ⟨w.heap.size, 2, none⟩ = some (.int .i64 f) := HX.c 2 rfl
            have z3 : w3.cell? ⟨w.heap.size, 3, none⟩ = some (.int .i64 t) := HX.c 3 rfl
            clear HX x0 x1 x2 x3
            go_upto_region 4 with fail
            have gz : w3.grownBy w3.drew none := grown_dr (grown_refl _)
            refine wp_region_noPanic ?_
            refine wp_region_held_drew (S := (fun w' => w3.grownBy w' none)) (by kernel_rfl) ?_ (fun hHeld => ?_)
            · (try dsimp only); (repeat (first | assumption | exact grown_refl _ | refine grown_dr ?_ | refine grown_dn ?_ | refine grown_al ?_))
            refine wpAnyH_take (i := 0) (oi := _) (v := ?_) rfl (by kernel_rfl) (by kernel_rfl) (by kernel_rfl) (fun _ _ _ h => h) (Or.inl ⟨by rfl, ?_⟩) (by assumption) ?_
            rotate_left 1
            · (intro w hSw; (try dsimp only at hSw); go_simp; first | done | with_reducible rfl)
            try go_simp
            refine wpAnyH_take (i := 1) (oi := _) (v := ?_) rfl (by kernel_rfl) (by kernel_rfl) (by kernel_rfl) (fun _ _ _ h => h) (Or.inl ⟨by rfl, ?_⟩) (by assumption) ?_
            rotate_left 1
            · (intro w hSw; (try dsimp only at hSw); go_simp; first | done | with_reducible rfl)
            try go_simp
            refine wpAnyH_take (i := 2) (oi := _) (v := ?_) rfl (by kernel_rfl) (by kernel_rfl) (by kernel_rfl) (fun _ _ _ h => h) (Or.inl ⟨by rfl, ?_⟩) (by assumption) ?_
            rotate_left 1
            · (intro w hSw; (try dsimp only at hSw); go_simp; first | done | with_reducible rfl)
            try go_simp
            refine wpAnyH_take (i := 3) (oi := _) (v := undef) rfl (by kernel_rfl) (by kernel_rfl) (by kernel_rfl) (fun _ _ _ h => h) (Or.inr ⟨by kernel_rfl, rfl⟩) (by assumption) ?_
            try go_simp
            refine wpAnyH_take (i := 4) (oi := _) (v := undef) rfl (by kernel_rfl) (by kernel_rfl) (by kernel_rfl) (fun _ _ _ h => h) (Or.inr ⟨by kernel_rfl, rfl⟩) (by assumption) ?_
            try go_simp
            refine wpAnyH_take (i := 5) (oi := _) (v := undef) rfl (by kernel_rfl) (by kernel_rfl) (by kernel_rfl) (fun _ _ _ h => h) (Or.inr ⟨by kernel_rfl, rfl⟩) (by assumption) ?_
            try go_simp
            refine wpAnyH_take (i := 6) (oi := _) (v := undef) rfl (by kernel_rfl) (by kernel_rfl) (by kernel_rfl) (fun _ _ _ h => h) (Or.inr ⟨by kernel_rfl, rfl⟩) (by assumption) ?_
            try go_simp
            refine wpAnyH_take (i := 7) (oi := _) (v := undef) rfl (by kernel_rfl) (by kernel_rfl) (by kernel_rfl) (fun _ _ _ h => h) (Or.inr ⟨by kernel_rfl, rfl⟩) (by assumption) ?_
            try go_simp
            refine wpAnyH_take (i := 8) (oi := _) (v := undef) rfl (by kernel_rfl) (by kernel_rfl) (by kernel_rfl) (fun _ _ _ h => h) (Or.inr ⟨by kernel_rfl, rfl⟩) (by assumption) ?_
            try go_simp
            refine wpAnyH_take (i := 9) (oi := _) (v := undef) rfl (by kernel_rfl) (by kernel_rfl) (by kernel_rfl) (fun _ _ _ h => h) (Or.inr ⟨by kernel_rfl, rfl⟩) (by assumption) ?_
            try go_simp
            refine wpAnyH_take (i := 10) (oi := _) (v := undef) rfl (by kernel_rfl) (by kernel_rfl) (by kernel_rfl) (fun _ _ _ h => h) (Or.inr ⟨by kernel_rfl, rfl⟩) (by assumption) ?_
            try go_simp
            refine wpAnyH_take (i := 11) (oi := _) (v := undef) rfl (by kernel_rfl) (by kernel_rfl) (by kernel_rfl) (fun _ _ _ h => h) (Or.inr ⟨by kernel_rfl, rfl⟩) (by assumption) ?_
            try go_simp
            refine wpAnyH_take (i := 12) (oi := _) (v := ?_) rfl (by kernel_rfl) (by kernel_rfl) (by kernel_rfl) (fun _ _ _ h => h) (Or.inl ⟨by rfl, ?_⟩) (by assumption) ?_
            rotate_left 1
            · (intro w hSw; (try dsimp only at hSw); go_simp; first | done | with_reducible rfl)
            try go_simp
            refine wpAnyH_done (by kernel_rfl) ?_ _
            refine NoPanic.normal ?_
            go_simp
            go_wp2_with fail
            refine (day_r f hf _).mono ?_
            rintro e w5 ⟨rfl, rfl⟩
            go_wp2_with fail
            refine (day_r t ht _).mono ?_
            rintro e w6 ⟨rfl, rfl⟩
            go_wp2_with fail
            go_ret
            exact ⟨by rw [HE.out]; rfl, g.trans (grown_dr (grown_refl _))⟩
          · by_cases c5 : rightD t = false
            · have HE : Hid (chkN K0 ⟨i, s, f, t⟩ = 23) := Lib.hid (by rw [← oneV_none]; unfold oneV; simp [c0, c1, c2, c4, c5])
              have h0 : decide (i < 1) = false := by simp; omega
              have h1 : decide ((s.length : Int) < 1) = false := by have := List.length_pos_iff.2 c1; simp; omega
              have h2 : decide ((s.length : Int) > 40) = false := by simp; omega
              have h4 := not_false c4
              have h5 := c5
              clear c0 c1 c2 c3 c4 c5
              go_enter Tryd.func31, Tryd.ntmps31
              go_upto_region 2 with fail
              obtain ⟨w3, e3, HX, g⟩ := row_of w 28 #[.int .i64 i, .string ⟨s.toArray⟩, .int .i64 f, .int .i64 t]
              rw [← e3]
              clear e3
              have z0 : w3.cell? ⟨w.heap.size, 0, none⟩ = some (.int .i64 i) := HX.c 0 rfl
              have z1 : w3.cell? ⟨w.heap.size, 1, none⟩ = some (.string ⟨s.toArray⟩) := HX.c 1 rfl
              have z2 : w3.cell? ⟨w.heap.size, 2, none⟩ = some (.int .i64 f) := HX.c 2 rfl
              have z3 : w3.cell? ⟨w.heap.size, 3, none⟩ = some (.int .i64 t) := HX.c 3 rfl
              clear HX x0 x1 x2 x3
              go_upto_region 4 with fail
              have gz : w3.grownBy w3.drew none := grown_dr (grown_refl _)
              refine wp_region_noPanic ?_
              refine wp_region_held_drew (S := (fun w' => w3.grownBy w' none)) (by kernel_rfl) ?_ (fun hHeld => ?_)
              · (try dsimp only); (repeat (first | assumption | exact grown_refl _ | refine grown_dr ?_ | refine grown_dn ?_ | refine grown_al ?_))
              refine wpAnyH_take (i := 0) (oi := _) (v := ?_) rfl (by kernel_rfl) (by kernel_rfl) (by kernel_rfl) (fun _ _ _ h => h) (Or.inl ⟨by rfl, ?_⟩) (by assumption) ?_
              rotate_left 1
              · (intro w hSw; (try dsimp only at hSw); go_simp; first | done | with_reducible rfl)
              try go_simp
              refine wpAnyH_take (i := 1) (oi := _) (v := ?_) rfl (by kernel_rfl) (by kernel_rfl) (by kernel_rfl) (fun _ _ _ h => h) (Or.inl ⟨by rfl, ?_⟩) (by assumption) ?_
              rotate_left 1
              · (intro w hSw; (try dsimp only at hSw); go_simp; first | done | with_reducible rfl)
              try go_simp
              refine wpAnyH_take (i := 2) (oi := _) (v := ?_) rfl (by kernel_rfl) (by kernel_rfl) (by kernel_rfl) (fun _ _ _ h => h) (Or.inl ⟨by rfl, ?_⟩) (by assumption) ?_
              rotate_left 1
              · (intro w hSw; (try dsimp only at hSw); go_simp; first | done | with_reducible rfl)
              try go_simp
              refine wpAnyH_take (i := 3) (oi := _) (v := undef) rfl (by kernel_rfl) (by kernel_rfl) (by kernel_rfl) (fun _ _ _ h => h) (Or.inr ⟨by kernel_rfl, rfl⟩) (by assumption) ?_
              try go_simp
              refine wpAnyH_take (i := 4) (oi := _) (v := undef) rfl (by kernel_rfl) (by kernel_rfl) (by kernel_rfl) (fun _ _ _ h => h) (Or.inr ⟨by kernel_rfl, rfl⟩) (by assumption) ?_
              try go_simp
              refine wpAnyH_take (i := 5) (oi := _) (v := undef) rfl (by kernel_rfl) (by kernel_rfl) (by kernel_rfl) (fun _ _ _ h => h) (Or.inr ⟨by kernel_rfl, rfl⟩) (by assumption) ?_
              try go_simp
              refine wpAnyH_take (i := 6) (oi := _) (v := undef) rfl (by kernel_rfl) (by kernel_rfl) (by kernel_rfl) (fun _ _ _ h => h) (Or.inr ⟨by kernel_rfl, rfl⟩) (by assumption) ?_
              try go_simp
              refine wpAnyH_take (i := 7) (oi := _) (v := undef) rfl (by kernel_rfl) (by kernel_rfl) (by kernel_rfl) (fun _ _ _ h => h) (Or.inr ⟨by kernel_rfl, rfl⟩) (by assumption) ?_
              try go_simp
              refine wpAnyH_take (i := 8) (oi := _) (v := undef) rfl (by kernel_rfl) (by kernel_rfl) (by kernel_rfl) (fun _ _ _ h => h) (Or.inr ⟨by kernel_rfl, rfl⟩) (by assumption) ?_
              try go_simp
              refine wpAnyH_take (i := 9) (oi := _) (v := undef) rfl (by kernel_rfl) (by kernel_rfl) (by kernel_rfl) (fun _ _ _ h => h) (Or.inr ⟨by kernel_rfl, rfl⟩) (by assumption) ?_
              try go_simp
              refine wpAnyH_take (i := 10) (oi := _) (v := undef) rfl (by kernel_rfl) (by kernel_rfl) (by kernel_rfl) (fun _ _ _ h => h) (Or.inr ⟨by kernel_rfl, rfl⟩) (by assumption) ?_
              try go_simp
              refine wpAnyH_take (i := 11) (oi := _) (v := undef) rfl (by kernel_rfl) (by kernel_rfl) (by kernel_rfl) (fun _ _ _ h => h) (Or.inr ⟨by kernel_rfl, rfl⟩) (by assumption) ?_
              try go_simp
              refine wpAnyH_take (i := 12) (oi := _) (v := ?_) rfl (by kernel_rfl) (by kernel_rfl) (by kernel_rfl) (fun _ _ _ h => h) (Or.inl ⟨by rfl, ?_⟩) (by assumption) ?_
              rotate_left 1
              · (intro w hSw; (try dsimp only at hSw); go_simp; first | done | with_reducible rfl)
              try go_simp
              refine wpAnyH_done (by kernel_rfl) ?_ _
              refine NoPanic.normal ?_
              go_simp
              go_wp2_with fail
              refine (day_r f hf _).mono ?_
              rintro e w5 ⟨rfl, rfl⟩
              go_wp2_with fail
              refine (day_r t ht _).mono ?_
              rintro e w6 ⟨rfl, rfl⟩
              go_wp2_with fail
              go_ret
              exact ⟨by rw [HE.out]; rfl, g.trans (grown_dr (grown_refl _))⟩
            · by_cases c6 : t ≠ 0 ∧ t < f
              · have HE : Hid (chkN K0 ⟨i, s, f, t⟩ = 23) := Lib.hid (by rw [← oneV_none]; unfold oneV; simp [c0, c1, c2, c4, c5, c6])
                have h0 : decide (i < 1) = false := by simp; omega
                have h1 : decide ((s.length : Int) < 1) = false := by have := List.length_pos_iff.2 c1; simp; omega
                have h2 : decide ((s.length : Int) > 40) = false := by simp; omega
                have h4 := not_false c4
                have h5 := not_false c5
                have h6 : (t != 0) = true := by simp [c6.1]
                have h7 : decide (t < f) = true := by simp; omega
                clear c0 c1 c2 c3 c4 c5 c6
                go_enter Tryd.func31, Tryd.ntmps31
                go_upto_region 2 with fail
                obtain ⟨w3, e3, HX, g⟩ := row_of w 28 #[.int .i64 i, .string ⟨s.toArray⟩, .int .i64 f, .int .i64 t]
                rw [← e3]
                clear e3
                have z0 : w3.cell? ⟨w.heap.size, 0, none⟩ = some (.int .i64 i) := HX.c 0 rfl
                have z1 : w3.cell? ⟨w.heap.size, 1, none⟩ = some (.string ⟨s.toArray⟩) := HX.c 1 rfl
                have z2 : w3.cell? ⟨w.heap.size, 2, none⟩ = some (.int .i64 f) := HX.c 2 rfl
                have z3 : w3.cell? ⟨w.heap.size, 3, none⟩ = some (.int .i64 t) := HX.c 3 rfl
                clear HX x0 x1 x2 x3
                go_upto_region 4 with fail
                have gz : w3.grownBy w3.drew none := grown_dr (grown_refl _)
                refine wp_region_noPanic ?_
                refine wp_region_held_drew (S := (fun w' => w3.grownBy w' none)) (by kernel_rfl) ?_ (fun hHeld => ?_)
                · (try dsimp only); (repeat (first | assumption | exact grown_refl _ | refine grown_dr ?_ | refine grown_dn ?_ | refine grown_al ?_))
                refine wpAnyH_take (i := 0) (oi := _) (v := ?_) rfl (by kernel_rfl) (by kernel_rfl) (by kernel_rfl) (fun _ _ _ h => h) (Or.inl ⟨by rfl, ?_⟩) (by assumption) ?_
                rotate_left 1
                · (intro w hSw; (try dsimp only at hSw); go_simp; first | done | with_reducible rfl)
                try go_simp
                refine wpAnyH_take (i := 1) (oi := _) (v := ?_) rfl (by kernel_rfl) (by kernel_rfl) (by kernel_rfl) (fun _ _ _ h => h) (Or.inl ⟨by rfl, ?_⟩) (by assumption) ?_
                rotate_left 1
                · (intro w hSw; (try dsimp only at hSw); go_simp; first | done | with_reducible rfl)
                try go_simp
                refine wpAnyH_take (i := 2) (oi := _) (v := ?_) rfl (by kernel_rfl) (by kernel_rfl) (by kernel_rfl) (fun _ _ _ h => h) (Or.inl ⟨by rfl, ?_⟩) (by assumption) ?_
                rotate_left 1
                · (intro w hSw; (try dsimp only at hSw); go_simp; first | done | with_reducible rfl)
                try go_simp
                refine wpAnyH_take (i := 3) (oi := _) (v := undef) rfl (by kernel_rfl) (by kernel_rfl) (by kernel_rfl) (fun _ _ _ h => h) (Or.inr ⟨by kernel_rfl, rfl⟩) (by assumption) ?_
                try go_simp
                refine wpAnyH_take (i := 4) (oi := _) (v := undef) rfl (by kernel_rfl) (by kernel_rfl) (by kernel_rfl) (fun _ _ _ h => h) (Or.inr ⟨by kernel_rfl, rfl⟩) (by assumption) ?_
                try go_simp
                refine wpAnyH_take (i := 5) (oi := _) (v := undef) rfl (by kernel_rfl) (by kernel_rfl) (by kernel_rfl) (fun _ _ _ h => h) (Or.inr ⟨by kernel_rfl, rfl⟩) (by assumption) ?_
                try go_simp
                refine wpAnyH_take (i := 6) (oi := _) (v := undef) rfl (by kernel_rfl) (by kernel_rfl) (by kernel_rfl) (fun _ _ _ h => h) (Or.inr ⟨by kernel_rfl, rfl⟩) (by assumption) ?_
                try go_simp
                refine wpAnyH_take (i := 7) (oi := _) (v := undef) rfl (by kernel_rfl) (by kernel_rfl) (by kernel_rfl) (fun _ _ _ h => h) (Or.inr ⟨by kernel_rfl, rfl⟩) (by assumption) ?_
                try go_simp
                refine wpAnyH_take (i := 8) (oi := _) (v := undef) rfl (by kernel_rfl) (by kernel_rfl) (by kernel_rfl) (fun _ _ _ h => h) (Or.inr ⟨by kernel_rfl, rfl⟩) (by assumption) ?_
                try go_simp
                refine wpAnyH_take (i := 9) (oi := _) (v := undef) rfl (by kernel_rfl) (by kernel_rfl) (by kernel_rfl) (fun _ _ _ h => h) (Or.inr ⟨by kernel_rfl, rfl⟩) (by assumption) ?_
                try go_simp
                refine wpAnyH_take (i := 10) (oi := _) (v := undef) rfl (by kernel_rfl) (by kernel_rfl) (by kernel_rfl) (fun _ _ _ h => h) (Or.inr ⟨by kernel_rfl, rfl⟩) (by assumption) ?_
                try go_simp
                refine wpAnyH_take (i := 11) (oi := _) (v := undef) rfl (by kernel_rfl) (by kernel_rfl) (by kernel_rfl) (fun _ _ _ h => h) (Or.inr ⟨by kernel_rfl, rfl⟩) (by assumption) ?_
                try go_simp
                refine wpAnyH_take (i := 12) (oi := _) (v := ?_) rfl (by kernel_rfl) (by kernel_rfl) (by kernel_rfl) (fun _ _ _ h => h) (Or.inl ⟨by rfl, ?_⟩) (by assumption) ?_
                rotate_left 1
                · (intro w hSw; (try dsimp only at hSw); go_simp; first | done | with_reducible rfl)
                try go_simp
                refine wpAnyH_done (by kernel_rfl) ?_ _
                refine NoPanic.normal ?_
                go_simp
                go_wp2_with fail
                refine (day_r f hf _).mono ?_
                rintro e w5 ⟨rfl, rfl⟩
                go_wp2_with fail
                refine (day_r t ht _).mono ?_
                rintro e w6 ⟨rfl, rfl⟩
                go_wp2_with fail
                go_ret
                exact ⟨by rw [HE.out]; rfl, g.trans (grown_dr (grown_refl _))⟩
              · by_cases c7 : False
                · exact c7.elim
                · by_cases c9 : t = 0
                  · have HE : Hid (chkN K0 ⟨i, s, f, t⟩ = 0) := Lib.hid (by rw [← oneV_none]; unfold oneV; simp [c0, c1, c2, c4, c5, c6])
                    have h0 : decide (i < 1) = false := by simp; omega
                    have h1 : decide ((s.length : Int) < 1) = false := by have := List.length_pos_iff.2 c1; simp; omega
                    have h2 : decide ((s.length : Int) > 40) = false := by simp; omega
                    have h4 := not_false c4
                    have h5 := not_false c5
                    have h6 : (t != 0) = false := by simp [c9]
                    clear c0 c1 c2 c3 c4 c5 c6 c7 c9
                    go_enter Tryd.func31, Tryd.ntmps31
                    go_upto_region 2 with fail
                    obtain ⟨w3, e3, HX, g⟩ := row_of w 28 #[.int .i64 i, .string ⟨s.toArray⟩, .int .i64 f, .int .i64 t]
                    rw [← e3]
                    clear e3
                    have z0 : w3.cell? ⟨w.heap.size, 0, none⟩ = some (.int .i64 i) := HX.c 0 rfl
                    have z1 : w3.cell? ⟨w.heap.size, 1, none⟩ = some (.string ⟨s.toArray⟩) := HX.c 1 rfl
                    have z2 : w3.cell? ⟨w.heap.size, 2, none⟩ = some (.int .i64 f) := HX.c 2 rfl
                    have z3 : w3.cell? ⟨w.heap.size, 3, none⟩ = some (.int .i64 t) := HX.c 3 rfl
                    clear HX x0 x1 x2 x3
                    go_upto_region 4 with fail
                    have gz : w3.grownBy w3.drew none := grown_dr (grown_refl _)
                    refine wp_region_noPanic ?_
                    refine wp_region_held_drew (S := (fun w' => w3.grownBy w' none)) (by kernel_rfl) ?_ (fun hHeld => ?_)
                    · (try dsimp only); (repeat (first | assumption | exact grown_refl _ | refine grown_dr ?_ | refine grown_dn ?_ | refine grown_al ?_))
                    refine wpAnyH_take (i := 0) (oi := _) (v := ?_) rfl (by kernel_rfl) (by kernel_rfl) (by kernel_rfl) (fun _ _ _ h => h) (Or.inl ⟨by rfl, ?_⟩) (by assumption) ?_
                    rotate_left 1
                    · (intro w hSw; (try dsimp only at hSw); go_simp; first | done | with_reducible rfl)
                    try go_simp
                    refine wpAnyH_take (i := 1) (oi := _) (v := ?_) rfl (by kernel_rfl) (by kernel_rfl) (by kernel_rfl) (fun _ _ _ h => h) (Or.inl ⟨by rfl, ?_⟩) (by assumption) ?_
                    rotate_left 1
                    · (intro w hSw; (try dsimp only at hSw); go_simp; first | done | with_reducible rfl)
                    try go_simp
                    refine wpAnyH_take (i := 2) (oi := _) (v := ?_) rfl (by kernel_rfl) (by kernel_rfl) (by kernel_rfl) (fun _ _ _ h => h) (Or.inl ⟨by rfl, ?_⟩) (by assumption) ?_
                    rotate_left 1
                    · (intro w hSw; (try dsimp only at hSw); go_simp; first | done | with_reducible rfl)
                    try go_simp
                    refine wpAnyH_take (i := 3) (oi := _) (v := undef) rfl (by kernel_rfl) (by kernel_rfl) (by kernel_rfl) (fun _ _ _ h => h) (Or.inr ⟨by kernel_rfl, rfl⟩) (by assumption) ?_
                    try go_simp
                    refine wpAnyH_take (i := 4) (oi := _) (v := undef) rfl (by kernel_rfl) (by kernel_rfl) (by kernel_rfl) (fun _ _ _ h => h) (Or.inr ⟨by kernel_rfl, rfl⟩) (by assumption) ?_
                    try go_simp
                    refine wpAnyH_take (i := 5) (oi := _) (v := undef) rfl (by kernel_rfl) (by kernel_rfl) (by kernel_rfl) (fun _ _ _ h => h) (Or.inr ⟨by kernel_rfl, rfl⟩) (by assumption) ?_
                    try go_simp
                    refine wpAnyH_take (i := 6) (oi := _) (v := undef) rfl (by kernel_rfl) (by kernel_rfl) (by kernel_rfl) (fun _ _ _ h => h) (Or.inr ⟨by kernel_rfl, rfl⟩) (by assumption) ?_
                    try go_simp
                    refine wpAnyH_take (i := 7) (oi := _) (v := undef) rfl (by kernel_rfl) (by kernel_rfl) (by kernel_rfl) (fun _ _ _ h => h) (Or.inr ⟨by kernel_rfl, rfl⟩) (by assumption) ?_
                    try go_simp
                    refine wpAnyH_take (i := 8) (oi := _) (v := undef) rfl (by kernel_rfl) (by kernel_rfl) (by kernel_rfl) (fun _ _ _ h => h) (Or.inr ⟨by kernel_rfl, rfl⟩) (by assumption) ?_
                    try go_simp
                    refine wpAnyH_take (i := 9) (oi := _) (v := undef) rfl (by kernel_rfl) (by kernel_rfl) (by kernel_rfl) (fun _ _ _ h => h) (Or.inr ⟨by kernel_rfl, rfl⟩) (by assumption) ?_
                    try go_simp
                    refine wpAnyH_take (i := 10) (oi := _) (v := undef) rfl (by kernel_rfl) (by kernel_rfl) (by kernel_rfl) (fun _ _ _ h => h) (Or.inr ⟨by kernel_rfl, rfl⟩) (by assumption) ?_
                    try go_simp
                    refine wpAnyH_take (i := 11) (oi := _) (v := undef) rfl (by kernel_rfl) (by kernel_rfl) (by kernel_rfl) (fun _ _ _ h => h) (Or.inr ⟨by kernel_rfl, rfl⟩) (by assumption) ?_
                    try go_simp
                    refine wpAnyH_take (i := 12) (oi := _) (v := ?_) rfl (by kernel_rfl) (by kernel_rfl) (by kernel_rfl) (fun _ _ _ h => h) (Or.inl ⟨by rfl, ?_⟩) (by assumption) ?_
                    rotate_left 1
                    · (intro w hSw; (try dsimp only at hSw); go_simp; first | done | with_reducible rfl)
                    try go_simp
                    refine wpAnyH_done (by kernel_rfl) ?_ _
                    refine NoPanic.normal ?_
                    go_simp
                    go_wp2_with fail
                    refine (day_r f hf _).mono ?_
                    rintro e w5 ⟨rfl, rfl⟩
                    go_wp2_with fail
                    refine (day_r t ht _).mono ?_
                    rintro e w6 ⟨rfl, rfl⟩
                    go_upto_region 10 with fail
                    have q2 : w3.drew.cell? ⟨w.heap.size, 2, none⟩ = some (.int .i64 f) := gcell gz z2
                    clear gz
                    have gz : w3.grownBy w3.drew none := grown_dr (grown_refl _)
                    have gz2 : w3.drew.grownBy w3.drew.drew none := grown_dr (grown_refl _)
                    refine wp_region_noPanic ?_
                    refine wp_region_held_drew (S := (fun w' => w3.drew.grownBy w' none)) (by kernel_rfl) ?_ (fun hHeld => ?_)
                    · (try dsimp only); (repeat (first | assumption | exact grown_refl _ | refine grown_dr ?_ | refine grown_dn ?_ | refine grown_al ?_))
                    refine wpAnyH_take (i := 0) (oi := _) (v := ?_) rfl (by kernel_rfl) (by kernel_rfl) (by kernel_rfl) (fun _ _ _ h => h) (Or.inl ⟨by rfl, ?_⟩) (by assumption) ?_
                    rotate_left 1
                    · (intro w hSw; (try dsimp only at hSw); go_simp; first | done | with_reducible rfl)
                    try go_simp
                    refine wpAnyH_take (i := 1) (oi := _) (v := ?_) rfl (by kernel_rfl) (by kernel_rfl) (by kernel_rfl) (fun _ _ _ h => h) (Or.inl ⟨by rfl, ?_⟩) (by assumption) ?_
                    rotate_left 1
                    · (intro w hSw; (try dsimp only at hSw); go_simp; first | done | with_reducible rfl)
                    try go_simp
                    refine wpAnyH_take (i := 2) (oi := _) (v := ?_) rfl (by kernel_rfl) (by kernel_rfl) (by kernel_rfl) (fun _ _ _ h => h) (Or.inl ⟨by rfl, ?_⟩) (by assumption) ?_
                    rotate_left 1
                    · (intro w hSw; (try dsimp only at hSw); go_simp; first | done | with_reducible rfl)
                    try go_simp
                    refine wpAnyH_take (i := 3) (oi := _) (v := undef) rfl (by kernel_rfl) (by kernel_rfl) (by kernel_rfl) (fun _ _ _ h => h) (Or.inr ⟨by kernel_rfl, rfl⟩) (by assumption) ?_
                    try go_simp
                    refine wpAnyH_take (i := 4) (oi := _) (v := undef) rfl (by kernel_rfl) (by kernel_rfl) (by kernel_rfl) (fun _ _ _ h => h) (Or.inr ⟨by kernel_rfl, rfl⟩) (by assumption) ?_
                    try go_simp
                    refine wpAnyH_take (i := 5) (oi := _) (v := undef) rfl (by kernel_rfl) (by kernel_rfl) (by kernel_rfl) (fun _ _ _ h => h) (Or.inr ⟨by kernel_rfl, rfl⟩) (by assumption) ?_
                    try go_simp
                    refine wpAnyH_take (i := 6) (oi := _) (v := undef) rfl (by kernel_rfl) (by kernel_rfl) (by kernel_rfl) (fun _ _ _ h => h) (Or.inr ⟨by kernel_rfl, rfl⟩) (by assumption) ?_
                    try go_simp
                    refine wpAnyH_take (i := 7) (oi := _) (v := undef) rfl (by kernel_rfl) (by kernel_rfl) (by kernel_rfl) (fun _ _ _ h => h) (Or.inr ⟨by kernel_rfl, rfl⟩) (by assumption) ?_
                    try go_simp
                    refine wpAnyH_take (i := 8) (oi := _) (v := undef) rfl (by kernel_rfl) (by kernel_rfl) (by kernel_rfl) (fun _ _ _ h => h) (Or.inr ⟨by kernel_rfl, rfl⟩) (by assumption) ?_
                    try go_simp
                    refine wpAnyH_take (i := 9) (oi := _) (v := undef) rfl (by kernel_rfl) (by kernel_rfl) (by kernel_rfl) (fun _ _ _ h => h) (Or.inr ⟨by kernel_rfl, rfl⟩) (by assumption) ?_
                    try go_simp
                    refine wpAnyH_take (i := 10) (oi := _) (v := undef) rfl (by kernel_rfl) (by kernel_rfl) (by kernel_rfl) (fun _ _ _ h => h) (Or.inr ⟨by kernel_rfl, rfl⟩) (by assumption) ?_
                    try go_simp
                    refine wpAnyH_take (i := 11) (oi := _) (v := undef) rfl (by kernel_rfl) (by kernel_rfl) (by kernel_rfl) (fun _ _ _ h => h) (Or.inr ⟨by kernel_rfl, rfl⟩) (by assumption) ?_
                    try go_simp
                    refine wpAnyH_take (i := 12) (oi := _) (v := ?_) rfl (by kernel_rfl) (by kernel_rfl) (by kernel_rfl) (fun _ _ _ h => h) (Or.inl ⟨by rfl, ?_⟩) (by assumption) ?_
                    rotate_left 1
                    · (intro w hSw; (try dsimp only at hSw); go_simp; first | done | with_reducible rfl)
                    try go_simp
                    refine wpAnyH_done (by kernel_rfl) ?_ _
                    refine NoPanic.normal ?_
                    go_simp
                    go_wp2_with fail
                    go_ret
                    exact ⟨by rw [HE.out]; rfl, g.trans (grown_dr gz)⟩
                  · have HE : Hid (chkN K0 ⟨i, s, f, t⟩ = 0) := Lib.hid (by rw [← oneV_none]; unfold oneV; simp [c0, c1, c2, c4, c5, c6])
                    have h0 : decide (i < 1) = false := by simp; omega
                    have h1 : decide ((s.length : Int) < 1) = false := by have := List.length_pos_iff.2 c1; simp; omega
                    have h2 : decide ((s.length : Int) > 40) = false := by simp; omega
                    have h4 := not_false c4
                    have h5 := not_false c5
                    have h6 : (t != 0) = true := by simp [c9]
                    have h7 : decide (t < f) = false := by simp [c9] at c6; simp; omega
                    clear c0 c1 c2 c3 c4 c5 c6 c7 c9
                    go_enter Tryd.func31, Tryd.ntmps31
                    go_upto_region 2 with fail
                    obtain ⟨w3, e3, HX, g⟩ := row_of w 28 #[.int .i64 i, .string ⟨s.toArray⟩, .int .i64 f, .int .i64 t]
                    rw [← e3]
                    clear e3
                    have z0 : w3.cell? ⟨w.heap.size, 0, none⟩ = some (.int .i64 i) := HX.c 0 rfl
                    have z1 : w3.cell? ⟨w.heap.size, 1, none⟩ = some (.string ⟨s.toArray⟩) := HX.c 1 rfl
                    have z2 : w3.cell? ⟨w.heap.size, 2, none⟩ = some (.int .i64 f) := HX.c 2 rfl
                    have z3 : w3.cell? ⟨w.heap.size, 3, none⟩ = some (.int .i64 t) := HX.c 3 rfl
                    clear HX x0 x1 x2 x3
                    go_upto_region 4 with fail
                    have gz : w3.grownBy w3.drew none := grown_dr (grown_refl _)
                    refine wp_region_noPanic ?_
                    refine wp_region_held_drew (S := (fun w' => w3.grownBy w' none)) (by kernel_rfl) ?_ (fun hHeld => ?_)
                    · (try dsimp only); (repeat (first | assumption | exact grown_refl _ | refine grown_dr ?_ | refine grown_dn ?_ | refine grown_al ?_))
                    refine wpAnyH_take (i := 0) (oi := _) (v := ?_) rfl (by kernel_rfl) (by kernel_rfl) (by kernel_rfl) (fun _ _ _ h => h) (Or.inl ⟨by rfl, ?_⟩) (by assumption) ?_
                    rotate_left 1
                    · (intro w hSw; (try dsimp only at hSw); go_simp; first | done | with_reducible rfl)
                    try go_simp
                    refine wpAnyH_take (i := 1) (oi := _) (v := ?_) rfl (by kernel_rfl) (by kernel_rfl) (by kernel_rfl) (fun _ _ _ h => h) (Or.inl ⟨by rfl, ?_⟩) (by assumption) ?_
                    rotate_left 1
                    · (intro w hSw; (try dsimp only at hSw); go_simp; first | done | with_reducible rfl)
                    try go_simp
                    refine wpAnyH_take (i := 2) (oi := _) (v := ?_) rfl (by kernel_rfl) (by kernel_rfl) (by kernel_rfl) (fun _ _ _ h => h) (Or.inl ⟨by rfl, ?_⟩) (by assumption) ?_
                    rotate_left 1
                    · (intro w hSw; (try dsimp only at hSw); go_simp; first | done | with_reducible rfl)
                    try go_simp
                    refine wpAnyH_take (i := 3) (oi := _) (v := undef) rfl (by kernel_rfl) (by kernel_rfl) (by kernel_rfl) (fun _ _ _ h => h) (Or.inr ⟨by kernel_rfl, rfl⟩) (by assumption) ?_
                    try go_simp
                    refine wpAnyH_take (i := 4) (oi := _) (v := undef) rfl (by kernel_rfl) (by kernel_rfl) (by kernel_rfl) (fun _ _ _ h => h) (Or.inr ⟨by kernel_rfl, rfl⟩) (by assumption) ?_
                    try go_simp
                    refine wpAnyH_take (i := 5) (oi := _) (v := undef) rfl (by kernel_rfl) (by kernel_rfl) (by kernel_rfl) (fun _ _ _ h => h) (Or.inr ⟨by kernel_rfl, rfl⟩) (by assumption) ?_
                    try go_simp
                    refine wpAnyH_take (i := 6) (oi := _) (v := undef) rfl (by kernel_rfl) (by kernel_rfl) (by kernel_rfl) (fun _ _ _ h => h) (Or.inr ⟨by kernel_rfl, rfl⟩) (by assumption) ?_
                    try go_simp
                    refine wpAnyH_take (i := 7) (oi := _) (v := undef) rfl (by kernel_rfl) (by kernel_rfl) (by kernel_rfl) (fun _ _ _ h => h) (Or.inr ⟨by kernel_rfl, rfl⟩) (by assumption) ?_
                    try go_simp
                    refine wpAnyH_take (i := 8) (oi := _) (v := undef) rfl (by kernel_rfl) (by kernel_rfl) (by kernel_rfl) (fun _ _ _ h => h) (Or.inr ⟨by kernel_rfl, rfl⟩) (by assumption) ?_
                    try go_simp
                    refine wpAnyH_take (i := 9) (oi := _) (v := undef) rfl (by kernel_rfl) (by kernel_rfl) (by kernel_rfl) (fun _ _ _ h => h) (Or.inr ⟨by kernel_rfl, rfl⟩) (by assumption) ?_
                    try go_simp
                    refine wpAnyH_take (i := 10) (oi := _) (v := undef) rfl (by kernel_rfl) (by kernel_rfl) (by kernel_rfl) (fun _ _ _ h => h) (Or.inr ⟨by kernel_rfl, rfl⟩) (by assumption) ?_
                    try go_simp
                    refine wpAnyH_take (i := 11) (oi := _) (v := undef) rfl (by kernel_rfl) (by kernel_rfl) (by kernel_rfl) (fun _ _ _ h => h) (Or.inr ⟨by kernel_rfl, rfl⟩) (by assumption) ?_
                    try go_simp
                    refine wpAnyH_take (i := 12) (oi := _) (v := ?_) rfl (by kernel_rfl) (by kernel_rfl) (by kernel_rfl) (fun _ _ _ h => h) (Or.inl ⟨by rfl, ?_⟩) (by assumption) ?_
                    rotate_left 1
                    · (intro w hSw; (try dsimp only at hSw); go_simp; first | done | with_reducible rfl)
                    try go_simp
                    refine wpAnyH_done (by kernel_rfl) ?_ _
                    refine NoPanic.normal ?_
                    go_simp
                    go_wp2_with fail
                    refine (day_r f hf _).mono ?_
                    rintro e w5 ⟨rfl, rfl⟩
                    go_wp2_with fail
                    refine (day_r t ht _).mono ?_
                    rintro e w6 ⟨rfl, rfl⟩
                    go_upto_region 10 with fail
                    have q2 : w3.drew.cell? ⟨w.heap.size, 2, none⟩ = some (.int .i64 f) := gcell gz z2
                    clear gz
                    have gz : w3.grownBy w3.drew none := grown_dr (grown_refl _)
                    have gz2 : w3.drew.grownBy w3.drew.drew none := grown_dr (grown_refl _)
                    refine wp_region_noPanic ?_
                    refine wp_region_held_drew (S := (fun w' => w3.drew.grownBy w' none)) (by kernel_rfl) ?_ (fun hHeld => ?_)
                    · (try dsimp only); (repeat (first | assumption | exact grown_refl _ | refine grown_dr ?_ | refine grown_dn ?_ | refine grown_al ?_))
                    refine wpAnyH_take (i := 0) (oi := _) (v := ?_) rfl (by kernel_rfl) (by kernel_rfl) (by kernel_rfl) (fun _ _ _ h => h) (Or.inl ⟨by rfl, ?_⟩) (by assumption) ?_
                    rotate_left 1
                    · (intro w hSw; (try dsimp only at hSw); go_simp; first | done | with_reducible rfl)
                    try go_simp
                    refine wpAnyH_take (i := 1) (oi := _) (v := ?_) rfl (by kernel_rfl) (by kernel_rfl) (by kernel_rfl) (fun _ _ _ h => h) (Or.inl ⟨by rfl, ?_⟩) (by assumption) ?_
                    rotate_left 1
                    · (intro w hSw; (try dsimp only at hSw); go_simp; first | done | with_reducible rfl)
                    try go_simp
                    refine wpAnyH_take (i := 2) (oi := _) (v := ?_) rfl (by kernel_rfl) (by kernel_rfl) (by kernel_rfl) (fun _ _ _ h => h) (Or.inl ⟨by rfl, ?_⟩) (by assumption) ?_
                    rotate_left 1
                    · (intro w hSw; (try dsimp only at hSw); go_simp; first | done | with_reducible rfl)
                    try go_simp
                    refine wpAnyH_take (i := 3) (oi := _) (v := undef) rfl (by kernel_rfl) (by kernel_rfl) (by kernel_rfl) (fun _ _ _ h => h) (Or.inr ⟨by kernel_rfl, rfl⟩) (by assumption) ?_
                    try go_simp
                    refine wpAnyH_take (i := 4) (oi := _) (v := undef) rfl (by kernel_rfl) (by kernel_rfl) (by kernel_rfl) (fun _ _ _ h => h) (Or.inr ⟨by kernel_rfl, rfl⟩) (by assumption) ?_
                    try go_simp
                    refine wpAnyH_take (i := 5) (oi := _) (v := undef) rfl (by kernel_rfl) (by kernel_rfl) (by kernel_rfl) (fun _ _ _ h => h) (Or.inr ⟨by kernel_rfl, rfl⟩) (by assumption) ?_
                    try go_simp
                    refine wpAnyH_take (i := 6) (oi := _) (v := undef) rfl (by kernel_rfl) (by kernel_rfl) (by kernel_rfl) (fun _ _ _ h => h) (Or.inr ⟨by kernel_rfl, rfl⟩) (by assumption) ?_
                    try go_simp
                    refine wpAnyH_take (i := 7) (oi := _) (v := undef) rfl (by kernel_rfl) (by kernel_rfl) (by kernel_rfl) (fun _ _ _ h => h) (Or.inr ⟨by kernel_rfl, rfl⟩) (by assumption) ?_
                    try go_simp
                    refine wpAnyH_take (i := 8) (oi := _) (v := undef) rfl (by kernel_rfl) (by kernel_rfl) (by kernel_rfl) (fun _ _ _ h => h) (Or.inr ⟨by kernel_rfl, rfl⟩) (by assumption) ?_
                    try go_simp
                    refine wpAnyH_take (i := 9) (oi := _) (v := undef) rfl (by kernel_rfl) (by kernel_rfl) (by kernel_rfl) (fun _ _ _ h => h) (Or.inr ⟨by kernel_rfl, rfl⟩) (by assumption) ?_
                    try go_simp
                    refine wpAnyH_take (i := 10) (oi := _) (v := undef) rfl (by kernel_rfl) (by kernel_rfl) (by kernel_rfl) (fun _ _ _ h => h) (Or.inr ⟨by kernel_rfl, rfl⟩) (by assumption) ?_
                    try go_simp
                    refine wpAnyH_take (i := 11) (oi := _) (v := undef) rfl (by kernel_rfl) (by kernel_rfl) (by kernel_rfl) (fun _ _ _ h => h) (Or.inr ⟨by kernel_rfl, rfl⟩) (by assumption) ?_
                    try go_simp
                    refine wpAnyH_take (i := 12) (oi := _) (v := ?_) rfl (by kernel_rfl) (by kernel_rfl) (by kernel_rfl) (fun _ _ _ h => h) (Or.inl ⟨by rfl, ?_⟩) (by assumption) ?_
                    rotate_left 1
                    · (intro w hSw; (try dsimp only at hSw); go_simp; first | done | with_reducible rfl)
                    try go_simp
                    refine wpAnyH_done (by kernel_rfl) ?_ _
                    refine NoPanic.normal ?_
                    go_simp
                    go_wp2_with fail
                    go_ret
                    exact ⟨by rw [HE.out]; rfl, g.trans (grown_dr gz)⟩
set_option maxRecDepth 100000 in
set_option maxHeartbeats 4000000 in
theorem one_s (ad : Addr) (n c j : Nat) (hn : j + 1 < n) (hc : n ≤ 9223372036854775807) (bi : Int) (bs : Str) (bf bt i : Int) (s : Str) (f t : Int) (hb : i64 bi ∧ i64 bf) (hi : i64 i) (hs : s.length ≤ 1152921504606846976) (hf : i64 f) (ht : i64 t) (w : World)
    (x0 : w.cell? (ad.add ((j + 1) * 4)) = some (.int .i64 i)) (x1 : w.cell? ⟨(ad.add ((j + 1) * 4)).block, (ad.add ((j + 1) * 4)).off + 1, none⟩ = some (.string ⟨s.toArray⟩)) (x2 : w.cell? ⟨(ad.add ((j + 1) * 4)).block, (ad.add ((j + 1) * 4)).off + 2, none⟩ = some (.int .i64 f)) (x3 : w.cell? ⟨(ad.add ((j + 1) * 4)).block, (ad.add ((j + 1) * 4)).off + 3, none⟩ = some (.int .i64 t))
    (y0 : w.cell? (ad.add (j * 4)) = some (.int .i64 bi)) (y2 : w.cell? ⟨(ad.add (j * 4)).block, (ad.add (j * 4)).off + 2, none⟩ = some (.int .i64 bf)) :
    Calls Tryd.prog 31 #[.slice (some ad) n c, .int .i64 ((j + 1 : Nat) : Int)] w fun e w' => e = .returned (.int .i64 (chkN ⟨bi, bs, bf, bt⟩ ⟨i, s, f, t⟩)) ∧ w.grownBy w' none := by
  have hj1 : IntKind.i64.wrap (j : Int) = (j : Int) := by rw [IntKind.wrap_i64]; omega
  have hjn : j < n := by omega
  obtain ⟨f1, f2⟩ := id hf
  obtain ⟨t1, t2⟩ := id ht
  obtain ⟨i1, i2⟩ := id hi
  obtain ⟨⟨b1, b2⟩, b3, b4⟩ := hb
  by_cases c0 : i < 1
  · have HE : Hid (chkN ⟨bi, bs, bf, bt⟩ ⟨i, s, f, t⟩ = 3) := Lib.hid (by rw [← oneV_some]; unfold oneV; simp [c0])
    have h0 : decide (i < 1) = true := by simp; omega
    clear c0
    go_enter Tryd.func31, Tryd.ntmps31
    go_upto_region 2 with fail
    obtain ⟨w3, e3, HX, g⟩ := row_of w 28 #[.int .i64 i, .string ⟨s.toArray⟩, .int .i64 f, .int .i64 t]
    rw [← e3]
    clear e3
    have z0 : w3.cell? ⟨w.heap.size, 0, none⟩ = some (.int .i64 i) := HX.c 0 rfl
    have z1 : w3.cell? ⟨w.heap.size, 1, none⟩ = some (.string ⟨s.toArray⟩) := HX.c 1 rfl
    have z2 : w3.cell? ⟨w.heap.size, 2, none⟩ = some (.int .i64 f) := HX.c 2 rfl
    have z3 : w3.cell? ⟨w.heap.size, 3, none⟩ = some (.int .i64 t) := HX.c 3 rfl
    clear HX x0 x1 x2 x3
    replace y0 := gcell g y0
    replace y2 := gcell g y2
    go_wp2_with fail
    go_ret
    exact ⟨by rw [HE.out]; rfl, g⟩
  · by_cases c1 : s = []
    · have HE : Hid (chkN ⟨bi, bs, bf, bt⟩ ⟨i, s, f, t⟩ = 3) := Lib.hid (by rw [← oneV_some]; unfold oneV; simp [c0, c1])
      have h0 : decide (i < 1) = false := by simp; omega
      have h1 : decide ((s.length : Int) < 1) = true := by simp [c1]
      clear c0 c1
      go_enter Tryd.func31, Tryd.ntmps31
      go_upto_region 2 with fail
      obtain ⟨w3, e3, HX, g⟩ := row_of w 28 #[.int .i64 i, .string ⟨s.toArray⟩, .int .i64 f, .int .i64 t]
      rw [← e3]
      clear e3
      have z0 : w3.cell? ⟨w.heap.size, 0, none⟩ = some (.int .i64 i) := HX.c 0 rfl
      have z1 : w3.cell? ⟨w.heap.size, 1, none⟩ = some (.string ⟨s.toArray⟩) := HX.c 1 rfl
      have z2 : w3.cell? ⟨w.heap.size, 2, none⟩ = some (.int .i64 f) := HX.c 2 rfl
      have z3 : w3.cell? ⟨w.heap.size, 3, none⟩ = some (.int .i64 t) := HX.c 3 rfl
      clear HX x0 x1 x2 x3
      replace y0 := gcell g y0
      replace y2 := gcell g y2
      go_wp2_with fail
      go_ret
      exact ⟨by rw [HE.out]; rfl, g⟩
    · by_cases c2 : 40 < s.length
      · have HE : Hid (chkN ⟨bi, bs, bf, bt⟩ ⟨i, s, f, t⟩ = 3) := Lib.hid (by rw [← oneV_some]; unfold oneV; simp [c0, c1, c2])
        have h0 : decide (i < 1) = false := by simp; omega
        have h1 : decide ((s.length : Int) < 1) = false := by have := List.length_pos_iff.2 c1; simp; omega
        have h2 : decide ((s.length : Int) > 40) = true := by simp; omega
        clear c0 c1 c2
        go_enter Tryd.func31, Tryd.ntmps31
        go_upto_region 2 with fail
        obtain ⟨w3, e3, HX, g⟩ := row_of w 28 #[.int .i64 i, .string ⟨s.toArray⟩, .int .i64 f, .int .i64 t]
        rw [← e3]
        clear e3
        have z0 : w3.cell? ⟨w.heap.size, 0, none⟩ = some (.int .i64 i) := HX.c 0 rfl
        have z1 : w3.cell? ⟨w.heap.size, 1, none⟩ = some (.string ⟨s.toArray⟩) := HX.c 1 rfl
        have z2 : w3.cell? ⟨w.heap.size, 2, none⟩ = some (.int .i64 f) := HX.c 2 rfl
        have z3 : w3.cell? ⟨w.heap.size, 3, none⟩ = some (.int .i64 t) := HX.c 3 rfl
        clear HX x0 x1 x2 x3
        replace y0 := gcell g y0
        replace y2 := gcell g y2
        go_wp2_with fail
        go_ret
        exact ⟨by rw [HE.out]; rfl, g⟩
      · by_cases c3 : i ≤ bi
        · have HE : Hid (chkN ⟨bi, bs, bf, bt⟩ ⟨i, s, f, t⟩ = 7) := Lib.hid (by rw [← oneV_some]; unfold oneV; simp [c0, c1, c2, c3])
          have h0 : decide (i < 1) = false := by simp; omega
          have h1 : decide ((s.length : Int) < 1) = false := by have := List.length_pos_iff.2 c1; simp; omega
          have h2 : decide ((s.length : Int) > 40) = false := by simp; omega
          have h3 : decide (i ≤ bi) = true := by simp; omega
          clear c0 c1 c2 c3
          go_enter Tryd.func31, Tryd.ntmps31
          go_upto_region 2 with fail
          obtain ⟨w3, e3, HX, g⟩ := row_of w 28 #[.int .i64 i, .string ⟨s.toArray⟩, .int .i64 f, .int .i64 t]
          rw [← e3]
          clear e3
          have z0 : w3.cell? ⟨w.heap.size, 0, none⟩ = some (.int .i64 i) := HX.c 0 rfl
          have z1 : w3.cell? ⟨w.heap.size, 1, none⟩ = some (.string ⟨s.toArray⟩) := HX.c 1 rfl
          have z2 : w3.cell? ⟨w.heap.size, 2, none⟩ = some (.int .i64 f) := HX.c 2 rfl
          have z3 : w3.cell? ⟨w.heap.size, 3, none⟩ = some (.int .i64 t) := HX.c 3 rfl
          clear HX x0 x1 x2 x3
          replace y0 := gcell g y0
          replace y2 := gcell g y2
          go_upto_region 4 with fail
          have gz : w3.grownBy w3.drew none := grown_dr (grown_refl _)
          refine wp_region_noPanic ?_
          refine wp_region_held_drew (S := (fun w' => w3.grownBy w' none)) (by kernel_rfl) ?_ (fun hHeld => ?_)
          · (try dsimp only); (repeat (first | assumption | exact grown_refl _ | refine grown_dr ?_ | refine grown_dn ?_ | refine grown_al ?_))
          refine wpAnyH_take (i := 0) (oi := _) (v := ?_) rfl (by kernel_rfl) (by kernel_rfl) (by kernel_rfl) (fun _ _ _ h => h) (Or.inl ⟨by rfl, ?_⟩) (by assumption) ?_
          rotate_left 1
          · (intro w hSw; (try dsimp only at hSw); go_simp; first | done | with_reducible rfl)
          try go_simp
          refine wpAnyH_take (i := 1) (oi := _) (v := ?_) rfl (by kernel_rfl) (by kernel_rfl) (by kernel_rfl) (fun _ _ _ h => h) (Or.inl ⟨by rfl, ?_⟩) (by assumption) ?_
          rotate_left 1
          · (intro w hSw; (try dsimp only at hSw); go_simp; first | done | with_reducible rfl)
          try go_simp
          refine wpAnyH_take (i := 2) (oi := _) (v := ?_) rfl (by kernel_rfl) (by kernel_rfl) (by kernel_rfl) (fun _ _ _ h => h) (Or.inl ⟨by rfl, ?_⟩) (by assumption) ?_
          rotate_left 1
          · (intro w hSw; (try dsimp only at hSw); go_simp; first | done | with_reducible rfl)
          try go_simp
          refine wpAnyH_take (i := 3) (oi := _) (v := ?_) rfl (by kernel_rfl) (by kernel_rfl) (by kernel_rfl) (fun _ _ _ h => h) (Or.inl ⟨by kernel_rfl, ?_⟩) (by assumption) ?_
          rotate_left 1
          · (intro w hSw; (try dsimp only at hSw); go_simp; first | done | with_reducible rfl)
          try go_simp
          refine wpAnyH_take (i := 4) (oi := _) (v := .int .i64 i) rfl (by kernel_rfl) (by kernel_rfl) (by kernel_rfl) (fun _ _ _ h => h) (Or.inl ⟨by kernel_rfl, ?_⟩) (by assumption) ?_
          · (intro w hSw; (try dsimp only at hSw); go_simp; have y0 := gcell hSw z0; clear hSw; go_simp; first | done | with_reducible rfl)
          try go_simp
          refine wpAnyH_take (i := 5) (oi := _) (v := ?_) rfl (by kernel_rfl) (by kernel_rfl) (by kernel_rfl) (fun _ _ _ h => h) (Or.inl ⟨by kernel_rfl, ?_⟩) (by assumption) ?_
          rotate_left 1
          · (intro w hSw; (try dsimp only at hSw); go_simp; first | done | with_reducible rfl)
          try go_simp
          refine wpAnyH_take (i := 6) (oi := _) (v := ?_) rfl (by kernel_rfl) (by kernel_rfl) (by kernel_rfl) (fun _ _ _ h => h) (Or.inl ⟨by kernel_rfl, ?_⟩) (by assumption) ?_
          rotate_left 1
          · (intro w hSw; (try dsimp only at hSw); go_simp; first | done | with_reducible rfl)
          try go_simp
          refine wpAnyH_take (i := 7) (oi := _) (v := .int .i64 (j : Int)) rfl (by kernel_rfl) (by kernel_rfl) (by kernel_rfl) (fun _ _ _ h => h) (Or.inl ⟨by kernel_rfl, ?_⟩) (by assumption) ?_
          · (intro w hSw; (try dsimp only at hSw); go_simp; first | done | with_reducible rfl)
          try go_simp
          refine wpAnyH_take (i := 8) (oi := _) (v := .pointer (some (ad.add (j * 4)))) rfl (by kernel_rfl) (by kernel_rfl) (by kernel_rfl) (fun _ _ _ h => h) (Or.inl ⟨by kernel_rfl, ?_⟩) (by assumption) ?_
          · (intro w hSw; (try dsimp only at hSw); go_simp; first | done | with_reducible rfl)
          try go_simp
          refine wpAnyH_take (i := 9) (oi := _) (v := ?_) rfl (by kernel_rfl) (by kernel_rfl) (by kernel_rfl) (fun _ _ _ h => h) (Or.inl ⟨by kernel_rfl, ?_⟩) (by assumption) ?_
          rotate_left 1
          · (intro w hSw; (try dsimp only at hSw); go_simp; first | done | with_reducible rfl)
          try go_simp
          refine wpAnyH_take (i := 10) (oi := _) (v := .int .i64 bi) rfl (by kernel_rfl) (by kernel_rfl) (by kernel_rfl) (fun _ _ _ h => h) (Or.inl ⟨by kernel_rfl, ?_⟩) (by assumption) ?_
          · (intro w hSw; (try dsimp only at hSw); go_simp; have y0 := gcell hSw y0; clear hSw; go_simp; first | done | with_reducible rfl)
          try go_simp
          refine wpAnyH_take (i := 11) (oi := _) (v := ?_) rfl (by kernel_rfl) (by kernel_rfl) (by kernel_rfl) (fun _ _ _ h => h) (Or.inl ⟨by kernel_rfl, ?_⟩) (by assumption) ?_
          rotate_left 1
          · (intro w hSw; (try dsimp only at hSw); go_simp; first | done | with_reducible rfl)
          try go_simp
          refine wpAnyH_take (i := 12) (oi := _) (v := ?_) rfl (by kernel_rfl) (by kernel_rfl) (by kernel_rfl) (fun _ _ _ h => h) (Or.inl ⟨by rfl, ?_⟩) (by assumption) ?_
          rotate_left 1
          · (intro w hSw; (try dsimp only at hSw); go_simp; first | done | with_reducible rfl)
          try go_simp
          refine wpAnyH_done (by kernel_rfl) ?_ _
          refine NoPanic.normal ?_
          go_simp
          go_wp2_with fail
          go_wp2_with fail
          go_ret
          exact ⟨by rw [HE.out]; rfl, g.trans (grown_dr (grown_refl _))⟩
        · by_cases c4 : rightD f = false
          · have HE : Hid (chkN ⟨bi, bs, bf, bt⟩ ⟨i, s, f, t⟩ = 23) := Lib.hid (by rw [← oneV_some]; unfold oneV; simp [c0, c1, c2, c3, c4])
            have h0 : decide (i < 1) = false := by simp; omega
            have h1 : decide ((s.length : Int) < 1) = false := by have := List.length_pos_iff.2 c1; simp; omega
            have h2 : decide ((s.length : Int) > 40) = false := by simp; omega
            have h3 : decide (i ≤ bi) = false := by simp; omega
            have h4 := c4
            clear c0 c1 c2 c3 c4
            go_enter Tryd.func31, Tryd.ntmps31
            go_upto_region 2 with fail
            obtain ⟨w3, e3, HX, g⟩ := row_of w 28 #[.int .i64 i, .string ⟨s.toArray⟩, .int .i64 f, .int .i64 t]
            rw [← e3]
            clear e3
            have z0 : w3.cell? ⟨w.heap.size, 0, none⟩ = some (.int .i64 i) := HX.c 0 rfl
            have z1 : w3.cell? ⟨w.heap.size, 1, none⟩ = some (.string ⟨s.toArray⟩) := HX.c 1 rfl
            have z2 : w3.cell? ⟨w.heap.size, 2, none⟩ = some (.int .i64 f) := HX.c 2 rfl
            have z3 : w3.cell? ⟨w.heap.size, 3, none⟩ = some (.int .i64 t) := HX.c 3 rfl
            clear HX x0 x1 x2 x3
            replace y0 := gcell g y0
            replace y2 := gcell g y2
            go_upto_region 4 with fail
            have gz : w3.grownBy w3.drew none := grown_dr (grown_refl _)
            refine wp_region_noPanic ?_
            refine wp_region_held_drew (S := (fun w' => w3.grownBy w' none)) (by kernel_rfl) ?_ (fun hHeld => ?_)
            · (try dsimp only); (repeat (first | assumption | exact grown_refl _ | refine grown_dr ?_ | refine grown_dn ?_ | refine grown_al ?_))
            refine wpAnyH_take (i := 0) (oi := _) (v := ?_) rfl (by kernel_rfl) (by kernel_rfl) (by kernel_rfl) (fun _ _ _ h => h) (Or.inl ⟨by rfl, ?_⟩) (by assumption) ?_
            rotate_left 1
            · (intro w hSw; (try dsimp only at hSw); go_simp; first | done | with_reducible rfl)
            try go_simp
            refine wpAnyH_take (i := 1) (oi := _) (v := ?_) rfl (by kernel_rfl) (by kernel_rfl) (by kernel_rfl) (fun _ _ _ h => h) (Or.inl ⟨by rfl, ?_⟩) (by assumption) ?_
            rotate_left 1
            · (intro w hSw; (try dsimp only at hSw); go_simp; first | done | with_reducible rfl)
            try go_simp
            refine wpAnyH_take (i := 2) (oi := _) (v := ?_) rfl (by kernel_rfl) (by kernel_rfl) (by kernel_rfl) (fun _ _ _ h => h) (Or.inl ⟨by rfl, ?_⟩) (by assumption) ?_
            rotate_left 1
            · (intro w hSw; (try dsimp only at hSw); go_simp; first | done | with_reducible rfl)
            try go_simp
            refine wpAnyH_take (i := 3) (oi := _) (v := ?_) rfl (by kernel_rfl) (by kernel_rfl) (by kernel_rfl) (fun _ _ _ h => h) (Or.inl ⟨by kernel_rfl, ?_⟩) (by assumption) ?_
            rotate_left 1
            · (intro w hSw; (try dsimp only at hSw); go_simp; first | done | with_reducible rfl)
            try go_simp
            refine wpAnyH_take (i := 4) (oi := _) (v := .int .i64 i) rfl (by kernel_rfl) (by kernel_rfl) (by kernel_rfl) (fun _ _ _ h => h) (Or.inl ⟨by kernel_rfl, ?_⟩) (by assumption) ?_
            · (intro w hSw; (try dsimp only at hSw); go_simp; have y0 := gcell hSw z0; clear hSw; go_simp; first | done | with_reducible rfl)
            try go_simp
            refine wpAnyH_take (i := 5) (oi := _) (v := ?_) rfl (by kernel_rfl) (by kernel_rfl) (by kernel_rfl) (fun _ _ _ h => h) (Or.inl ⟨by kernel_rfl, ?_⟩) (by assumption) ?_
            rotate_left 1
            · (intro w hSw; (try dsimp only at hSw); go_simp; first | done | with_reducible rfl)
            try go_simp
            refine wpAnyH_take (i := 6) (oi := _) (v := ?_) rfl (by kernel_rfl) (by kernel_rfl) (by kernel_rfl) (fun _ _ _ h => h) (Or.inl ⟨by kernel_rfl, ?_⟩) (by assumption) ?_
            rotate_left 1
            · (intro w hSw; (try dsimp only at hSw); go_simp; first | done | with_reducible rfl)
            try go_simp
            refine wpAnyH_take (i := 7) (oi := _) (v := .int .i64 (j : Int)) rfl (by kernel_rfl) (by kernel_rfl) (by kernel_rfl) (fun _ _ _ h => h) (Or.inl ⟨by kernel_rfl, ?_⟩) (by assumption) ?_
            · (intro w hSw; (try dsimp only at hSw); go_simp; first | done | with_reducible rfl)
            try go_simp
            refine wpAnyH_take (i := 8) (oi := _) (v := .pointer (some (ad.add (j * 4)))) rfl (by kernel_rfl) (by kernel_rfl) (by kernel_rfl) (fun _ _ _ h => h) (Or.inl ⟨by kernel_rfl, ?_⟩) (by assumption) ?_
            · (intro w hSw; (try dsimp only at hSw); go_simp; first | done | with_reducible rfl)
            try go_simp
            refine wpAnyH_take (i := 9) (oi := _) (v := ?_) rfl (by kernel_rfl) (by kernel_rfl) (by kernel_rfl) (fun _ _ _ h => h) (Or.inl ⟨by kernel_rfl, ?_⟩) (by assumption) ?_
            rotate_left 1
            · (intro w hSw; (try dsimp only at hSw); go_simp; first | done | with_reducible rfl)
            try go_simp
            refine wpAnyH_take (i := 10) (oi := _) (v := .int .i64 bi) rfl (by kernel_rfl) (by kernel_rfl) (by kernel_rfl) (fun _ _ _ h => h) (Or.inl ⟨by kernel_rfl, ?_⟩) (by assumption) ?_
            · (intro w hSw; (try dsimp only at hSw); go_simp; have y0 := gcell hSw y0; clear hSw; go_simp; first | done | with_reducible rfl)
            try go_simp
            refine wpAnyH_take (i := 11) (oi := _) (v := ?_) rfl (by kernel_rfl) (by kernel_rfl) (by kernel_rfl) (fun _ _ _ h => h) (Or.inl ⟨by kernel_rfl, ?_⟩) (by assumption) ?_
            rotate_left 1
            · (intro w hSw; (try dsimp only at hSw); go_simp; first | done | with_reducible rfl)
            try go_simp
            refine wpAnyH_take (i := 12) (oi := _) (v := ?_) rfl (by kernel_rfl) (by kernel_rfl) (by kernel_rfl) (fun _ _ _ h => h) (Or.inl ⟨by rfl, ?_⟩) (by assumption) ?_
            rotate_left 1
            · (intro w hSw; (try dsimp only at hSw); go_simp; first | done | with_reducible rfl)
            try go_simp
            refine wpAnyH_done (by kernel_rfl) ?_ _
            refine NoPanic.normal ?_
            go_simp
            go_wp2_with fail
            refine (day_r f hf _).mono ?_
            rintro e w5 ⟨rfl, rfl⟩
            go_wp2_with fail
            refine (day_r t ht _).mono ?_
            rintro e w6 ⟨rfl, rfl⟩
            go_wp2_with fail
            go_ret
            exact ⟨by rw [HE.out]; rfl, g.trans (grown_dr (grown_refl _))⟩
          · by_cases c5 : rightD t = false
            · have HE : Hid (chkN ⟨bi, bs, bf, bt⟩ ⟨i, s, f, t⟩ = 23) := Lib.hid (by rw [← oneV_some]; unfold oneV; simp [c0, c1, c2, c3, c4, c5])
              have h0 : decide (i < 1) = false := by simp; omega
              have h1 : decide ((s.length : Int) < 1) = false := by have := List.length_pos_iff.2 c1; simp; omega
              have h2 : decide ((s.length : Int) > 40) = false := by simp; omega
              have h3 : decide (i ≤ bi) = false := by simp; omega
              have h4 := not_false c4
              have h5 := c5
              clear c0 c1 c2 c3 c4 c5
              go_enter Tryd.func31, Tryd.ntmps31
              go_upto_region 2 with fail
              obtain ⟨w3, e3, HX, g⟩ := row_of w 28 #[.int .i64 i, .string ⟨s.toArray⟩, .int .i64 f, .int .i64 t]
              rw [← e3]
              clear e3
              have z0 : w3.cell? ⟨w.heap.size, 0, none⟩ = some (.int .i64 i) := HX.c 0 rfl
              have z1 : w3.cell? ⟨w.heap.size, 1, none⟩ = some (.string ⟨s.toArray⟩) := HX.c 1 rfl
              have z2 : w3.cell? ⟨w.heap.size, 2, none⟩ = some (.int .i64 f) := HX.c 2 rfl
              have z3 : w3.cell? ⟨w.heap.size, 3, none⟩ = some (.int .i64 t) := HX.c 3 rfl
              clear HX x0 x1 x2 x3
              replace y0 := gcell g y0
              replace y2 := gcell g y2
              go_upto_region 4 with fail
              have gz : w3.grownBy w3.drew none := grown_dr (grown_refl _)
              refine wp_region_noPanic ?_
              refine wp_region_held_drew (S := (fun w' => w3.grownBy w' none)) (by kernel_rfl) ?_ (fun hHeld => ?_)
              · (try dsimp only); (repeat (first | assumption | exact grown_refl _ | refine grown_dr ?_ | refine grown_dn ?_ | refine grown_al ?_))
              refine wpAnyH_take (i := 0) (oi := _) (v := ?_) rfl (by kernel_rfl) (by kernel_rfl) (by kernel_rfl) (fun _ _ _ h => h) (Or.inl ⟨by rfl, ?_⟩) (by assumption) ?_
              rotate_left 1
              · (intro w hSw; (try dsimp only at hSw); go_simp; first | done | with_reducible rfl)
              try go_simp
              refine wpAnyH_take (i := 1) (oi := _) (v := ?_) rfl (by kernel_rfl) (by kernel_rfl) (by kernel_rfl) (fun _ _ _ h => h) (Or.inl ⟨by rfl, ?_⟩) (by assumption) ?_
              rotate_left 1
              · (intro w hSw; (try dsimp only at hSw); go_simp; first | done | with_reducible rfl)
              try go_simp
              refine wpAnyH_take (i := 2) (oi := _) (v := ?_) rfl (by kernel_rfl) (by kernel_rfl) (by kernel_rfl) (fun _ _ _ h => h) (Or.inl ⟨by rfl, ?_⟩) (by assumption) ?_
              rotate_left 1
              · (intro w hSw; (try dsimp only at hSw); go_simp; first | done | with_reducible rfl)
              try go_simp
              refine wpAnyH_take (i := 3) (oi := _) (v := ?_) rfl (by kernel_rfl) (by kernel_rfl) (by kernel_rfl) (fun _ _ _ h => h) (Or.inl ⟨by kernel_rfl, ?_⟩) (by assumption) ?_
              rotate_left 1
              · (intro w hSw; (try dsimp only at hSw); go_simp; first | done | with_reducible rfl)
              try go_simp
              refine wpAnyH_take (i := 4) (oi := _) (v := .int .i64 i) rfl (by kernel_rfl) (by kernel_rfl) (by kernel_rfl) (fun _ _ _ h => h) (Or.inl ⟨by kernel_rfl, ?_⟩) (by assumption) ?_
              · (intro w hSw; (try dsimp only at hSw); go_simp; have y0 := gcell hSw z0; clear hSw; go_simp; first | done | with_reducible rfl)
              try go_simp
              refine wpAnyH_take (i := 5) (oi := _) (v := ?_) rfl (by kernel_rfl) (by kernel_rfl) (by kernel_rfl) (fun _ _ _ h => h) (Or.inl ⟨by kernel_rfl, ?_⟩) (by assumption) ?_
              rotate_left 1
              · (intro w hSw; (try dsimp only at hSw); go_simp; first | done | with_reducible rfl)
              try go_simp
              refine wpAnyH_take (i := 6) (oi := _) (v := ?_) rfl (by kernel_rfl) (by kernel_rfl) (by kernel_rfl) (fun _ _ _ h => h) (Or.inl ⟨by kernel_rfl, ?_⟩) (by assumption) ?_
              rotate_left 1
              · (intro w hSw; (try dsimp only at hSw); go_simp; first | done | with_reducible rfl)
              try go_simp
              refine wpAnyH_take (i := 7) (oi := _) (v := .int .i64 (j : Int)) rfl (by kernel_rfl) (by kernel_rfl) (by kernel_rfl) (fun _ _ _ h => h) (Or.inl ⟨by kernel_rfl, ?_⟩) (by assumption) ?_
              · (intro w hSw; (try dsimp only at hSw); go_simp; first | done | with_reducible rfl)
              try go_simp
              refine wpAnyH_take (i := 8) (oi := _) (v := .pointer (some (ad.add (j * 4)))) rfl (by kernel_rfl) (by kernel_rfl) (by kernel_rfl) (fun _ _ _ h => h) (Or.inl ⟨by kernel_rfl, ?_⟩) (by assumption) ?_
              · (intro w hSw; (try dsimp only at hSw); go_simp; first | done | with_reducible rfl)
              try go_simp
              refine wpAnyH_take (i := 9) (oi := _) (v := ?_) rfl (by kernel_rfl) (by kernel_rfl) (by kernel_rfl) (fun _ _ _ h => h) (Or.inl ⟨by kernel_rfl, ?_⟩) (by assumption) ?_
              rotate_left 1
              · (intro w hSw; (try dsimp only at hSw); go_simp; first | done | with_reducible rfl)
              try go_simp
              refine wpAnyH_take (i := 10) (oi := _) (v := .int .i64 bi) rfl (by kernel_rfl) (by kernel_rfl) (by kernel_rfl) (fun _ _ _ h => h) (Or.inl ⟨by kernel_rfl, ?_⟩) (by assumption) ?_
              · (intro w hSw; (try dsimp only at hSw); go_simp; have y0 := gcell hSw y0; clear hSw; go_simp; first | done | with_reducible rfl)
              try go_simp
              refine wpAnyH_take (i := 11) (oi := _) (v := ?_) rfl (by kernel_rfl) (by kernel_rfl) (by kernel_rfl) (fun _ _ _ h => h) (Or.inl ⟨by kernel_rfl, ?_⟩) (by assumption) ?_
              rotate_left 1
              · (intro w hSw; (try dsimp only at hSw); go_simp; first | done | with_reducible rfl)
              try go_simp
              refine wpAnyH_take (i := 12) (oi := _) (v := ?_) rfl (by kernel_rfl) (by kernel_rfl) (by kernel_rfl) (fun _ _ _ h => h) (Or.inl ⟨by rfl, ?_⟩) (by assumption) ?_
              rotate_left 1
              · (intro w hSw; (try dsimp only at hSw); go_simp; first | done | with_reducible rfl)
              try go_simp
              refine wpAnyH_done (by kernel_rfl) ?_ _
              refine NoPanic.normal ?_
              go_simp
              go_wp2_with fail
              refine (day_r f hf _).mono ?_
              rintro e w5 ⟨rfl, rfl⟩
              go_wp2_with fail
              refine (day_r t ht _).mono ?_
              rintro e w6 ⟨rfl, rfl⟩
              go_wp2_with fail
              go_ret
              exact ⟨by rw [HE.out]; rfl, g.trans (grown_dr (grown_refl _))⟩
            · by_cases c6 : t ≠ 0 ∧ t < f
              · have HE : Hid (chkN ⟨bi, bs, bf, bt⟩ ⟨i, s, f, t⟩ = 23) := Lib.hid (by rw [← oneV_some]; unfold oneV; simp [c0, c1, c2, c3, c4, c5, c6])
                have h0 : decide (i < 1) = false := by simp; omega
                have h1 : decide ((s.length : Int) < 1) = false := by have := List.length_pos_iff.2 c1; simp; omega
                have h2 : decide ((s.length : Int) > 40) = false := by simp; omega
                have h3 : decide (i ≤ bi) = false := by simp; omega
                have h4 := not_false c4
                have h5 := not_false c5
                have h6 : (t != 0) = true := by simp [c6.1]
                have h7 : decide (t < f) = true := by simp; omega
                clear c0 c1 c2 c3 c4 c5 c6
                go_enter Tryd.func31, Tryd.ntmps31
                go_upto_region 2 with fail
                obtain ⟨w3, e3, HX, g⟩ := row_of w 28 #[.int .i64 i, .string ⟨s.toArray⟩, .int .i64 f, .int .i64 t]
                rw [← e3]
                clear e3
                have z0 : w3.cell? ⟨w.heap.size, 0, none⟩ = some (.int .i64 i) := HX.c 0 rfl
                have z1 : w3.cell? ⟨w.heap.size, 1, none⟩ = some (.string ⟨s.toArray⟩) := HX.c 1 rfl
                have z2 : w3.cell? ⟨w.heap.size, 2, none⟩ = some (.int .i64 f) := HX.c 2 rfl
                have z3 : w3.cell? ⟨w.heap.size, 3, none⟩ = some (.int .i64 t) := HX.c 3 rfl
                clear HX x0 x1 x2 x3
                replace y0 := gcell g y0
                replace y2 := gcell g y2
                go_upto_region 4 with fail
                have gz : w3.grownBy w3.drew none := grown_dr (grown_refl _)
                refine wp_region_noPanic ?_
                refine wp_region_held_drew (S := (fun w' => w3.grownBy w' none)) (by kernel_rfl) ?_ (fun hHeld => ?_)
                · (try dsimp only); (repeat (first | assumption | exact grown_refl _ | refine grown_dr ?_ | refine grown_dn ?_ | refine grown_al ?_))
                refine wpAnyH_take (i := 0) (oi := _) (v := ?_) rfl (by kernel_rfl) (by kernel_rfl) (by kernel_rfl) (fun _ _ _ h => h) (Or.inl ⟨by rfl, ?_⟩) (by assumption) ?_
                rotate_left 1
                · (intro w hSw; (try dsimp only at hSw); go_simp; first | done | with_reducible rfl)
                try go_simp
                refine wpAnyH_take (i := 1) (oi := _) (v := ?_) rfl (by kernel_rfl) (by kernel_rfl) (by kernel_rfl) (fun _ _ _ h => h) (Or.inl ⟨by rfl, ?_⟩) (by assumption) ?_
                rotate_left 1
                · (intro w hSw; (try dsimp only at hSw); go_simp; first | done | with_reducible rfl)
                try go_simp
                refine wpAnyH_take (i := 2) (oi := _) (v := ?_) rfl (by kernel_rfl) (by kernel_rfl) (by kernel_rfl) (fun _ _ _ h => h) (Or.inl ⟨by rfl, ?_⟩) (by assumption) ?_
                rotate_left 1
                · (intro w hSw; (try dsimp only at hSw); go_simp; first | done | with_reducible rfl)
                try go_simp
                refine wpAnyH_take (i := 3) (oi := _) (v := ?_) rfl (by kernel_rfl) (by kernel_rfl) (by kernel_rfl) (fun _ _ _ h => h) (Or.inl ⟨by kernel_rfl, ?_⟩) (by assumption) ?_
                rotate_left 1
                · (intro w hSw; (try dsimp only at hSw); go_simp; first | done | with_reducible rfl)
                try go_simp
                refine wpAnyH_take (i := 4) (oi := _) (v := .int .i64 i) rfl (by kernel_rfl) (by kernel_rfl) (by kernel_rfl) (fun _ _ _ h => h) (Or.inl ⟨by kernel_rfl, ?_⟩) (by assumption) ?_
                · (intro w hSw; (try dsimp only at hSw); go_simp; have y0 := gcell hSw z0; clear hSw; go_simp; first | done | with_reducible rfl)
                try go_simp
                refine wpAnyH_take (i := 5) (oi := _) (v := ?_) rfl (by kernel_rfl) (by kernel_rfl) (by kernel_rfl) (fun _ _ _ h => h) (Or.inl ⟨by kernel_rfl, ?_⟩) (by assumption) ?_
                rotate_left 1
                · (intro w hSw; (try dsimp only at hSw); go_simp; first | done | with_reducible rfl)
                try go_simp
                refine wpAnyH_take (i := 6) (oi := _) (v := ?_) rfl (by kernel_rfl) (by kernel_rfl) (by kernel_rfl) (fun _ _ _ h => h) (Or.inl ⟨by kernel_rfl, ?_⟩) (by assumption) ?_
                rotate_left 1
                · (intro w hSw; (try dsimp only at hSw); go_simp; first | done | with_reducible rfl)
                try go_simp
                refine wpAnyH_take (i := 7) (oi := _) (v := .int .i64 (j : Int)) rfl (by kernel_rfl) (by kernel_rfl) (by kernel_rfl) (fun _ _ _ h => h) (Or.inl ⟨by kernel_rfl, ?_⟩) (by assumption) ?_
                · (intro w hSw; (try dsimp only at hSw); go_simp; first | done | with_reducible rfl)
                try go_simp
                refine wpAnyH_take (i := 8) (oi := _) (v := .pointer (some (ad.add (j * 4)))) rfl (by kernel_rfl) (by kernel_rfl) (by kernel_rfl) (fun _ _ _ h => h) (Or.inl ⟨by kernel_rfl, ?_⟩) (by assumption) ?_
                · (intro w hSw; (try dsimp only at hSw); go_simp; first | done | with_reducible rfl)
                try go_simp
                refine wpAnyH_take (i := 9) (oi := _) (v := ?_) rfl (by kernel_rfl) (by kernel_rfl) (by kernel_rfl) (fun _ _ _ h => h) (Or.inl ⟨by kernel_rfl, ?_⟩) (by assumption) ?_
                rotate_left 1
                · (intro w hSw; (try dsimp only at hSw); go_simp; first | done | with_reducible rfl)
                try go_simp
                refine wpAnyH_take (i := 10) (oi := _) (v := .int .i64 bi) rfl (by kernel_rfl) (by kernel_rfl) (by kernel_rfl) (fun _ _ _ h => h) (Or.inl ⟨by kernel_rfl, ?_⟩) (by assumption) ?_
                · (intro w hSw; (try dsimp only at hSw); go_simp; have y0 := gcell hSw y0; clear hSw; go_simp; first | done | with_reducible rfl)
                try go_simp
                refine wpAnyH_take (i := 11) (oi := _) (v := ?_) rfl (by kernel_rfl) (by kernel_rfl) (by kernel_rfl) (fun _ _ _ h => h) (Or.inl ⟨by kernel_rfl, ?_⟩) (by assumption) ?_
                rotate_left 1
                · (intro w hSw; (try dsimp only at hSw); go_simp; first | done | with_reducible rfl)
                try go_simp
                refine wpAnyH_take (i := 12) (oi := _) (v := ?_) rfl (by kernel_rfl) (by kernel_rfl) (by kernel_rfl) (fun _ _ _ h => h) (Or.inl ⟨by rfl, ?_⟩) (by assumption) ?_
                rotate_left 1
                · (intro w hSw; (try dsimp only at hSw); go_simp; first | done | with_reducible rfl)
                try go_simp
                refine wpAnyH_done (by kernel_rfl) ?_ _
                refine NoPanic.normal ?_
                go_simp
                go_wp2_with fail
                refine (day_r f hf _).mono ?_
                rintro e w5 ⟨rfl, rfl⟩
                go_wp2_with fail
                refine (day_r t ht _).mono ?_
                rintro e w6 ⟨rfl, rfl⟩
                go_wp2_with fail
                go_ret
                exact ⟨by rw [HE.out]; rfl, g.trans (grown_dr (grown_refl _))⟩
              · by_cases c7 : f < bf
                · by_cases c9 : t = 0
                  · have HE : Hid (chkN ⟨bi, bs, bf, bt⟩ ⟨i, s, f, t⟩ = 7) := Lib.hid (by rw [← oneV_some]; unfold oneV; simp [c0, c1, c2, c3, c4, c5, c6, c7])
                    have h0 : decide (i < 1) = false := by simp; omega
                    have h1 : decide ((s.length : Int) < 1) = false := by have := List.length_pos_iff.2 c1; simp; omega
                    have h2 : decide ((s.length : Int) > 40) = false := by simp; omega
                    have h3 : decide (i ≤ bi) = false := by simp; omega
                    have h4 := not_false c4
                    have h5 := not_false c5
                    have h8 : decide (f < bf) = true := by simp; omega
                    have h6 : (t != 0) = false := by simp [c9]
                    clear c0 c1 c2 c3 c4 c5 c6 c7 c9
                    go_enter Tryd.func31, Tryd.ntmps31
                    go_upto_region 2 with fail
                    obtain ⟨w3, e3, HX, g⟩ := row_of w 28 #[.int .i64 i, .string ⟨s.toArray⟩, .int .i64 f, .int .i64 t]
                    rw [← e3]
                    clear e3
                    have z0 : w3.cell? ⟨w.heap.size, 0, none⟩ = some (.int .i64 i) := HX.c 0 rfl
                    have z1 : w3.cell? ⟨w.heap.size, 1, none⟩ = some (.string ⟨s.toArray⟩) := HX.c 1 rfl
                    have z2 : w3.cell? ⟨w.heap.size, 2, none⟩ = some (.int .i64 f) := HX.c 2 rfl
                    have z3 : w3.cell? ⟨w.heap.size, 3, none⟩ = some (.int .i64 t) := HX.c 3 rfl
                    clear HX x0 x1 x2 x3
                    replace y0 := gcell g y0
                    replace y2 := gcell g y2
                    go_upto_region 4 with fail
                    have gz : w3.grownBy w3.drew none := grown_dr (grown_refl _)
                    refine wp_region_noPanic ?_
                    refine wp_region_held_drew (S := (fun w' => w3.grownBy w' none)) (by kernel_rfl) ?_ (fun hHeld => ?_)
                    · (try dsimp only); (repeat (first | assumption | exact grown_refl _ | refine grown_dr ?_ | refine grown_dn ?_ | refine grown_al ?_))
                    refine wpAnyH_take (i := 0) (oi := _) (v := ?_) rfl (by kernel_rfl) (by kernel_rfl) (by kernel_rfl) (fun _ _ _ h => h) (Or.inl ⟨by rfl, ?_⟩) (by assumption) ?_
                    rotate_left 1
                    · (intro w hSw; (try dsimp only at hSw); go_simp; first | done | with_reducible rfl)
                    try go_simp
                    refine wpAnyH_take (i := 1) (oi := _) (v := ?_) rfl (by kernel_rfl) (by kernel_rfl) (by kernel_rfl) (fun _ _ _ h => h) (Or.inl ⟨by rfl, ?_⟩) (by assumption) ?_
                    rotate_left 1
                    · (intro w hSw; (try dsimp only at hSw); go_simp; first | done | with_reducible rfl)
                    try go_simp
                    refine wpAnyH_take (i := 2) (oi := _) (v := ?_) rfl (by kernel_rfl) (by kernel_rfl) (by kernel_rfl) (fun _ _ _ h => h) (Or.inl ⟨by rfl, ?_⟩) (by assumption) ?_
                    rotate_left 1
                    · (intro w hSw; (try dsimp only at hSw); go_simp; first | done | with_reducible rfl)
                    try go_simp
                    refine wpAnyH_take (i := 3) (oi := _) (v := ?_) rfl (by kernel_rfl) (by kernel_rfl) (by kernel_rfl) (fun _ _ _ h => h) (Or.inl ⟨by kernel_rfl, ?_⟩) (by assumption) ?_
                    rotate_left 1
                    · (intro w hSw; (try dsimp only at hSw); go_simp; first | done | with_reducible rfl)
                    try go_simp
                    refine wpAnyH_take (i := 4) (oi := _) (v := .int .i64 i) rfl (by kernel_rfl) (by kernel_rfl) (by kernel_rfl) (fun _ _ _ h => h) (Or.inl ⟨by kernel_rfl, ?_⟩) (by assumption) ?_
                    · (intro w hSw; (try dsimp only at hSw); go_simp; have y0 := gcell hSw z0; clear hSw; go_simp; first | done | with_reducible rfl)
                    try go_simp
                    refine wpAnyH_take (i := 5) (oi := _) (v := ?_) rfl (by kernel_rfl) (by kernel_rfl) (by kernel_rfl) (fun _ _ _ h => h) (Or.inl ⟨by kernel_rfl, ?_⟩) (by assumption) ?_
                    rotate_left 1
                    · (intro w hSw; (try dsimp only at hSw); go_simp; first | done | with_reducible rfl)
                    try go_simp
                    refine wpAnyH_take (i := 6) (oi := _) (v := ?_) rfl (by kernel_rfl) (by kernel_rfl) (by kernel_rfl) (fun _ _ _ h => h) (Or.inl ⟨by kernel_rfl, ?_⟩) (by assumption) ?_
                    rotate_left 1
                    · (intro w hSw; (try dsimp only at hSw); go_simp; first | done | with_reducible rfl)
                    try go_simp
                    refine wpAnyH_take (i := 7) (oi := _) (v := .int .i64 (j : Int)) rfl (by kernel_rfl) (by kernel_rfl) (by kernel_rfl) (fun _ _ _ h => h) (Or.inl ⟨by kernel_rfl, ?_⟩) (by assumption) ?_
                    · (intro w hSw; (try dsimp only at hSw); go_simp; first | done | with_reducible rfl)
                    try go_simp
                    refine wpAnyH_take (i := 8) (oi := _) (v := .pointer (some (ad.add (j * 4)))) rfl (by kernel_rfl) (by kernel_rfl) (by kernel_rfl) (fun _ _ _ h => h) (Or.inl ⟨by kernel_rfl, ?_⟩) (by assumption) ?_
                    · (intro w hSw; (try dsimp only at hSw); go_simp; first | done | with_reducible rfl)
                    try go_simp
                    refine wpAnyH_take (i := 9) (oi := _) (v := ?_) rfl (by kernel_rfl) (by kernel_rfl) (by kernel_rfl) (fun _ _ _ h => h) (Or.inl ⟨by kernel_rfl, ?_⟩) (by assumption) ?_
                    rotate_left 1
                    · (intro w hSw; (try dsimp only at hSw); go_simp; first | done | with_reducible rfl)
                    try go_simp
                    refine wpAnyH_take (i := 10) (oi := _) (v := .int .i64 bi) rfl (by kernel_rfl) (by kernel_rfl) (by kernel_rfl) (fun _ _ _ h => h) (Or.inl ⟨by kernel_rfl, ?_⟩) (by assumption) ?_
                    · (intro w hSw; (try dsimp only at hSw); go_simp; have y0 := gcell hSw y0; clear hSw; go_simp; first | done | with_reducible rfl)
                    try go_simp
                    refine wpAnyH_take (i := 11) (oi := _) (v := ?_) rfl (by kernel_rfl) (by kernel_rfl) (by kernel_rfl) (fun _ _ _ h => h) (Or.inl ⟨by kernel_rfl, ?_⟩) (by assumption) ?_
                    rotate_left 1
                    · (intro w hSw; (try dsimp only at hSw); go_simp; first | done | with_reducible rfl)
                    try go_simp
                    refine wpAnyH_take (i := 12) (oi := _) (v := ?_) rfl (by kernel_rfl) (by kernel_rfl) (by kernel_rfl) (fun _ _ _ h => h) (Or.inl ⟨by rfl, ?_⟩) (by assumption) ?_
                    rotate_left 1
                    · (intro w hSw; (try dsimp only at hSw); go_simp; first | done | with_reducible rfl)
                    try go_simp
                    refine wpAnyH_done (by kernel_rfl) ?_ _
                    refine NoPanic.normal ?_
                    go_simp
                    go_wp2_with fail
                    refine (day_r f hf _).mono ?_
                    rintro e w5 ⟨rfl, rfl⟩
                    go_wp2_with fail
                    refine (day_r t ht _).mono ?_
                    rintro e w6 ⟨rfl, rfl⟩
                    go_upto_region 10 with fail
                    have q2 : w3.drew.cell? ⟨w.heap.size, 2, none⟩ = some (.int .i64 f) := gcell gz z2
                    have p2 := gcell gz y2
                    clear gz
                    have gz : w3.grownBy w3.drew none := grown_dr (grown_refl _)
                    have gz2 : w3.drew.grownBy w3.drew.drew none := grown_dr (grown_refl _)
                    refine wp_region_noPanic ?_
                    refine wp_region_held_drew (S := (fun w' => w3.drew.grownBy w' none)) (by kernel_rfl) ?_ (fun hHeld => ?_)
                    · (try dsimp only); (repeat (first | assumption | exact grown_refl _ | refine grown_dr ?_ | refine grown_dn ?_ | refine grown_al ?_))
                    refine wpAnyH_take (i := 0) (oi := _) (v := ?_) rfl (by kernel_rfl) (by kernel_rfl) (by kernel_rfl) (fun _ _ _ h => h) (Or.inl ⟨by rfl, ?_⟩) (by assumption) ?_
                    rotate_left 1
                    · (intro w hSw; (try dsimp only at hSw); go_simp; first | done | with_reducible rfl)
                    try go_simp
                    refine wpAnyH_take (i := 1) (oi := _) (v := ?_) rfl (by kernel_rfl) (by kernel_rfl) (by kernel_rfl) (fun _ _ _ h => h) (Or.inl ⟨by rfl, ?_⟩) (by assumption) ?_
                    rotate_left 1
                    · (intro w hSw; (try dsimp only at hSw); go_simp; first | done | with_reducible rfl)
                    try go_simp
                    refine wpAnyH_take (i := 2) (oi := _) (v := ?_) rfl (by kernel_rfl) (by kernel_rfl) (by kernel_rfl) (fun _ _ _ h => h) (Or.inl ⟨by rfl, ?_⟩) (by assumption) ?_
                    rotate_left 1
                    · (intro w hSw; (try dsimp only at hSw); go_simp; first | done | with_reducible rfl)
                    try go_simp
                    refine wpAnyH_take (i := 3) (oi := _) (v := ?_) rfl (by kernel_rfl) (by kernel_rfl) (by kernel_rfl) (fun _ _ _ h => h) (Or.inl ⟨by kernel_rfl, ?_⟩) (by assumption) ?_
                    rotate_left 1
                    · (intro w hSw; (try dsimp only at hSw); go_simp; first | done | with_reducible rfl)
                    try go_simp
                    refine wpAnyH_take (i := 4) (oi := _) (v := .int .i64 f) rfl (by kernel_rfl) (by kernel_rfl) (by kernel_rfl) (fun _ _ _ h => h) (Or.inl ⟨by kernel_rfl, ?_⟩) (by assumption) ?_
                    · (intro w hSw; (try dsimp only at hSw); go_simp; have y0 := gcell hSw q2; clear hSw; go_simp; first | done | with_reducible rfl)
                    try go_simp
                    refine wpAnyH_take (i := 5) (oi := _) (v := ?_) rfl (by kernel_rfl) (by kernel_rfl) (by kernel_rfl) (fun _ _ _ h => h) (Or.inl ⟨by kernel_rfl, ?_⟩) (by assumption) ?_
                    rotate_left 1
                    · (intro w hSw; (try dsimp only at hSw); go_simp; first | done | with_reducible rfl)
                    try go_simp
                    refine wpAnyH_take (i := 6) (oi := _) (v := ?_) rfl (by kernel_rfl) (by kernel_rfl) (by kernel_rfl) (fun _ _ _ h => h) (Or.inl ⟨by kernel_rfl, ?_⟩) (by assumption) ?_
                    rotate_left 1
                    · (intro w hSw; (try dsimp only at hSw); go_simp; first | done | with_reducible rfl)
                    try go_simp
                    refine wpAnyH_take (i := 7) (oi := _) (v := .int .i64 (j : Int)) rfl (by kernel_rfl) (by kernel_rfl) (by kernel_rfl) (fun _ _ _ h => h) (Or.inl ⟨by kernel_rfl, ?_⟩) (by assumption) ?_
                    · (intro w hSw; (try dsimp only at hSw); go_simp; first | done | with_reducible rfl)
                    try go_simp
                    refine wpAnyH_take (i := 8) (oi := _) (v := .pointer (some (ad.add (j * 4)))) rfl (by kernel_rfl) (by kernel_rfl) (by kernel_rfl) (fun _ _ _ h => h) (Or.inl ⟨by kernel_rfl, ?_⟩) (by assumption) ?_
                    · (intro w hSw; (try dsimp only at hSw); go_simp; first | done | with_reducible rfl)
                    try go_simp
                    refine wpAnyH_take (i := 9) (oi := _) (v := ?_) rfl (by kernel_rfl) (by kernel_rfl) (by kernel_rfl) (fun _ _ _ h => h) (Or.inl ⟨by kernel_rfl, ?_⟩) (by assumption) ?_
                    rotate_left 1
                    · (intro w hSw; (try dsimp only at hSw); go_simp; first | done | with_reducible rfl)
                    try go_simp
                    refine wpAnyH_take (i := 10) (oi := _) (v := .int .i64 bf) rfl (by kernel_rfl) (by kernel_rfl) (by kernel_rfl) (fun _ _ _ h => h) (Or.inl ⟨by kernel_rfl, ?_⟩) (by assumption) ?_
                    · (intro w hSw; (try dsimp only at hSw); go_simp; have y0 := gcell hSw p2; clear hSw; go_simp; first | done | with_reducible rfl)
                    try go_simp
                    refine wpAnyH_take (i := 11) (oi := _) (v := ?_) rfl (by kernel_rfl) (by kernel_rfl) (by kernel_rfl) (fun _ _ _ h => h) (Or.inl ⟨by kernel_rfl, ?_⟩) (by assumption) ?_
                    rotate_left 1
                    · (intro w hSw; (try dsimp only at hSw); go_simp; first | done | with_reducible rfl)
                    try go_simp
                    refine wpAnyH_take (i := 12) (oi := _) (v := ?_) rfl (by kernel_rfl) (by kernel_rfl) (by kernel_rfl) (fun _ _ _ h => h) (Or.inl ⟨by rfl, ?_⟩) (by assumption) ?_
                    rotate_left 1
                    · (intro w hSw; (try dsimp only at hSw); go_simp; first | done | with_reducible rfl)
                    try go_simp
                    refine wpAnyH_done (by kernel_rfl) ?_ _
                    refine NoPanic.normal ?_
                    go_simp
                    go_wp2_with fail
                    go_ret
                    exact ⟨by rw [HE.out]; rfl, g.trans (grown_dr gz)⟩
                  · have HE : Hid (chkN ⟨bi, bs, bf, bt⟩ ⟨i, s, f, t⟩ = 7) := Lib.hid (by rw [← oneV_some]; unfold oneV; simp [c0, c1, c2, c3, c4, c5, c6, c7])
                    have h0 : decide (i < 1) = false := by simp; omega
                    have h1 : decide ((s.length : Int) < 1) = false := by have := List.length_pos_iff.2 c1; simp; omega
                    have h2 : decide ((s.length : Int) > 40) = false := by simp; omega
                    have h3 : decide (i ≤ bi) = false := by simp; omega
                    have h4 := not_false c4
                    have h5 := not_false c5
                    have h8 : decide (f < bf) = true := by simp; omega
                    have h6 : (t != 0) = true := by simp [c9]
                    have h7 : decide (t < f) = false := by simp [c9] at c6; simp; omega
                    clear c0 c1 c2 c3 c4 c5 c6 c7 c9
                    go_enter Tryd.func31, Tryd.ntmps31
                    go_upto_region 2 with fail
                    obtain ⟨w3, e3, HX, g⟩ := row_of w 28 #[.int .i64 i, .string ⟨s.toArray⟩, .int .i64 f, .int .i64 t]
                    rw [← e3]
                    clear e3
                    have z0 : w3.cell? ⟨w.heap.size, 0, none⟩ = some (.int .i64 i) := HX.c 0 rfl
                    have z1 : w3.cell? ⟨w.heap.size, 1, none⟩ = some (.string ⟨s.toArray⟩) := HX.c 1 rfl
                    have z2 : w3.cell? ⟨w.heap.size, 2, none⟩ = some (.int .i64 f) := HX.c 2 rfl
                    have z3 : w3.cell? ⟨w.heap.size, 3, none⟩ = some (.int .i64 t) := HX.c 3 rfl
                    clear HX x0 x1 x2 x3
                    replace y0 := gcell g y0
                    replace y2 := gcell g y2
                    go_upto_region 4 with fail
                    have gz : w3.grownBy w3.drew none := grown_dr (grown_refl _)
                    refine wp_region_noPanic ?_
                    refine wp_region_held_drew (S := (fun w' => w3.grownBy w' none)) (by kernel_rfl) ?_ (fun hHeld => ?_)
                    · (try dsimp only); (repeat (first | assumption | exact grown_refl _ | refine grown_dr ?_ | refine grown_dn ?_ | refine grown_al ?_))
                    refine wpAnyH_take (i := 0) (oi := _) (v := ?_) rfl (by kernel_rfl) (by kernel_rfl) (by kernel_rfl) (fun _ _ _ h => h) (Or.inl ⟨by rfl, ?_⟩) (by assumption) ?_
                    rotate_left 1
                    · (intro w hSw; (try dsimp only at hSw); go_simp; first | done | with_reducible rfl)
                    try go_simp
                    refine wpAnyH_take (i := 1) (oi := _) (v := ?_) rfl (by kernel_rfl) (by kernel_rfl) (by kernel_rfl) (fun _ _ _ h => h) (Or.inl ⟨by rfl, ?_⟩) (by assumption) ?_
                    rotate_left 1
                    · (intro w hSw; (try dsimp only at hSw); go_simp; first | done | with_reducible rfl)
                    try go_simp
                    refine wpAnyH_take (i := 2) (oi := _) (v := ?_) rfl (by kernel_rfl) (by kernel_rfl) (by kernel_rfl) (fun _ _ _ h => h) (Or.inl ⟨by rfl, ?_⟩) (by assumption) ?_
                    rotate_left 1
                    · (intro w hSw; (try dsimp only at hSw); go_simp; first | done | with_reducible rfl)
                    try go_simp
                    refine wpAnyH_take (i := 3) (oi := _) (v := ?_) rfl (by kernel_rfl) (by kernel_rfl) (by kernel_rfl) (fun _ _ _ h => h) (Or.inl ⟨by kernel_rfl, ?_⟩) (by assumption) ?_
                    rotate_left 1
                    · (intro w hSw; (try dsimp only at hSw); go_simp; first | done | with_reducible rfl)
                    try go_simp
                    refine wpAnyH_take (i := 4) (oi := _) (v := .int .i64 i) rfl (by kernel_rfl) (by kernel_rfl) (by kernel_rfl) (fun _ _ _ h => h) (Or.inl ⟨by kernel_rfl, ?_⟩) (by assumption) ?_
                    · (intro w hSw; (try dsimp only at hSw); go_simp; have y0 := gcell hSw z0; clear hSw; go_simp; first | done | with_reducible rfl)
                    try go_simp
                    refine wpAnyH_take (i := 5) (oi := _) (v := ?_) rfl (by kernel_rfl) (by kernel_rfl) (by kernel_rfl) (fun _ _ _ h => h) (Or.inl ⟨by kernel_rfl, ?_⟩) (by assumption) ?_
                    rotate_left 1
                    · (intro w hSw; (try dsimp only at hSw); go_simp; first | done | with_reducible rfl)
                    try go_simp
                    refine wpAnyH_take (i := 6) (oi := _) (v := ?_) rfl (by kernel_rfl) (by kernel_rfl) (by kernel_rfl) (fun _ _ _ h => h) (Or.inl ⟨by kernel_rfl, ?_⟩) (by assumption) ?_
                    rotate_left 1
                    · (intro w hSw; (try dsimp only at hSw); go_simp; first | done | with_reducible rfl)
                    try go_simp
                    refine wpAnyH_take (i := 7) (oi := _) (v := .int .i64 (j : Int)) rfl (by kernel_rfl) (by kernel_rfl) (by kernel_rfl) (fun _ _ _ h => h) (Or.inl ⟨by kernel_rfl, ?_⟩) (by assumption) ?_
                    · (intro w hSw; (try dsimp only at hSw); go_simp; first | done | with_reducible rfl)
                    try go_simp
                    refine wpAnyH_take (i := 8) (oi := _) (v := .pointer (some (ad.add (j * 4)))) rfl (by kernel_rfl) (by kernel_rfl) (by kernel_rfl) (fun _ _ _ h => h) (Or.inl ⟨by kernel_rfl, ?_⟩) (by assumption) ?_
                    · (intro w hSw; (try dsimp only at hSw); go_simp; first | done | with_reducible rfl)
                    try go_simp
                    refine wpAnyH_take (i := 9) (oi := _) (v := ?_) rfl (by kernel_rfl) (by kernel_rfl) (by kernel_rfl) (fun _ _ _ h => h) (Or.inl ⟨by kernel_rfl, ?_⟩) (by assumption) ?_
                    rotate_left 1
                    · (intro w hSw; (try dsimp only at hSw); go_simp; first | done | with_reducible rfl)
                    try go_simp
                    refine wpAnyH_take (i := 10) (oi := _) (v := .int .i64 bi) rfl (by kernel_rfl) (by kernel_rfl) (by kernel_rfl) (fun _ _ _ h => h) (Or.inl ⟨by kernel_rfl, ?_⟩) (by assumption) ?_
                    · (intro w hSw; (try dsimp only at hSw); go_simp; have y0 := gcell hSw y0; clear hSw; go_simp; first | done | with_reducible rfl)
                    try go_simp
                    refine wpAnyH_take (i := 11) (oi := _) (v := ?_) rfl (by kernel_rfl) (by kernel_rfl) (by kernel_rfl) (fun _ _ _ h => h) (Or.inl ⟨by kernel_rfl, ?_⟩) (by assumption) ?_
                    rotate_left 1
                    · (intro w hSw; (try dsimp only at hSw); go_simp; first | done | with_reducible rfl)
                    try go_simp
                    refine wpAnyH_take (i := 12) (oi := _) (v := ?_) rfl (by kernel_rfl) (by kernel_rfl) (by kernel_rfl) (fun _ _ _ h => h) (Or.inl ⟨by rfl, ?_⟩) (by assumption) ?_
                    rotate_left 1
                    · (intro w hSw; (try dsimp only at hSw); go_simp; first | done | with_reducible rfl)
                    try go_simp
                    refine wpAnyH_done (by kernel_rfl) ?_ _
                    refine NoPanic.normal ?_
                    go_simp
                    go_wp2_with fail
                    refine (day_r f hf _).mono ?_
                    rintro e w5 ⟨rfl, rfl⟩
                    go_wp2_with fail
                    refine (day_r t ht _).mono ?_
                    rintro e w6 ⟨rfl, rfl⟩
                    go_upto_region 10 with fail
                    have q2 : w3.drew.cell? ⟨w.heap.size, 2, none⟩ = some (.int .i64 f) := gcell gz z2
                    have p2 := gcell gz y2
                    clear gz
                    have gz : w3.grownBy w3.drew none := grown_dr (grown_refl _)
                    have gz2 : w3.drew.grownBy w3.drew.drew none := grown_dr (grown_refl _)
                    refine wp_region_noPanic ?_
                    refine wp_region_held_drew (S := (fun w' => w3.drew.grownBy w' none)) (by kernel_rfl) ?_ (fun hHeld => ?_)
                    · (try dsimp only); (repeat (first | assumption | exact grown_refl _ | refine grown_dr ?_ | refine grown_dn ?_ | refine grown_al ?_))
                    refine wpAnyH_take (i := 0) (oi := _) (v := ?_) rfl (by kernel_rfl) (by kernel_rfl) (by kernel_rfl) (fun _ _ _ h => h) (Or.inl ⟨by rfl, ?_⟩) (by assumption) ?_
                    rotate_left 1
                    · (intro w hSw; (try dsimp only at hSw); go_simp; first | done | with_reducible rfl)
                    try go_simp
                    refine wpAnyH_take (i := 1) (oi := _) (v := ?_) rfl (by kernel_rfl) (by kernel_rfl) (by kernel_rfl) (fun _ _ _ h => h) (Or.inl ⟨by rfl, ?_⟩) (by assumption) ?_
                    rotate_left 1
                    · (intro w hSw; (try dsimp only at hSw); go_simp; first | done | with_reducible rfl)
                    try go_simp
                    refine wpAnyH_take (i := 2) (oi := _) (v := ?_) rfl (by kernel_rfl) (by kernel_rfl) (by kernel_rfl) (fun _ _ _ h => h) (Or.inl ⟨by rfl, ?_⟩) (by assumption) ?_
                    rotate_left 1
                    · (intro w hSw; (try dsimp only at hSw); go_simp; first | done | with_reducible rfl)
                    try go_simp
                    refine wpAnyH_take (i := 3) (oi := _) (v := ?_) rfl (by kernel_rfl) (by kernel_rfl) (by kernel_rfl) (fun _ _ _ h => h) (Or.inl ⟨by kernel_rfl, ?_⟩) (by assumption) ?_
                    rotate_left 1
                    · (intro w hSw; (try dsimp only at hSw); go_simp; first | done | with_reducible rfl)
                    try go_simp
                    refine wpAnyH_take (i := 4) (oi := _) (v := .int .i64 f) rfl (by kernel_rfl) (by kernel_rfl) (by kernel_rfl) (fun _ _ _ h => h) (Or.inl ⟨by kernel_rfl, ?_⟩) (by assumption) ?_
                    · (intro w hSw; (try dsimp only at hSw); go_simp; have y0 := gcell hSw q2; clear hSw; go_simp; first | done | with_reducible rfl)
                    try go_simp
                    refine wpAnyH_take (i := 5) (oi := _) (v := ?_) rfl (by kernel_rfl) (by kernel_rfl) (by kernel_rfl) (fun _ _ _ h => h) (Or.inl ⟨by kernel_rfl, ?_⟩) (by assumption) ?_
                    rotate_left 1
                    · (intro w hSw; (try dsimp only at hSw); go_simp; first | done | with_reducible rfl)
                    try go_simp
                    refine wpAnyH_take (i := 6) (oi := _) (v := ?_) rfl (by kernel_rfl) (by kernel_rfl) (by kernel_rfl) (fun _ _ _ h => h) (Or.inl ⟨by kernel_rfl, ?_⟩) (by assumption) ?_
                    rotate_left 1
                    · (intro w hSw; (try dsimp only at hSw); go_simp; first | done | with_reducible rfl)
                    try go_simp
                    refine wpAnyH_take (i := 7) (oi := _) (v := .int .i64 (j : Int)) rfl (by kernel_rfl) (by kernel_rfl) (by kernel_rfl) (fun _ _ _ h => h) (Or.inl ⟨by kernel_rfl, ?_⟩) (by assumption) ?_
                    · (intro w hSw; (try dsimp only at hSw); go_simp; first | done | with_reducible rfl)
                    try go_simp
                    refine wpAnyH_take (i := 8) (oi := _) (v := .pointer (some (ad.add (j * 4)))) rfl (by kernel_rfl) (by kernel_rfl) (by kernel_rfl) (fun _ _ _ h => h) (Or.inl ⟨by kernel_rfl, ?_⟩) (by assumption) ?_
                    · (intro w hSw; (try dsimp only at hSw); go_simp; first | done | with_reducible rfl)
                    try go_simp
                    refine wpAnyH_take (i := 9) (oi := _) (v := ?_) rfl (by kernel_rfl) (by kernel_rfl) (by kernel_rfl) (fun _ _ _ h => h) (Or.inl ⟨by kernel_rfl, ?_⟩) (by assumption) ?_
                    rotate_left 1
                    · (intro w hSw; (try dsimp only at hSw); go_simp; first | done | with_reducible rfl)
                    try go_simp
                    refine wpAnyH_take (i := 10) (oi := _) (v := .int .i64 bf) rfl (by kernel_rfl) (by kernel_rfl) (by kernel_rfl) (fun _ _ _ h => h) (Or.inl ⟨by kernel_rfl, ?_⟩) (by assumption) ?_
                    · (intro w hSw; (try dsimp only at hSw); go_simp; have y0 := gcell hSw p2; clear hSw; go_simp; first | done | with_reducible rfl)
                    try go_simp
                    refine wpAnyH_take (i := 11) (oi := _) (v := ?_) rfl (by kernel_rfl) (by kernel_rfl) (by kernel_rfl) (fun _ _ _ h => h) (Or.inl ⟨by kernel_rfl, ?_⟩) (by assumption) ?_
                    rotate_left 1
                    · (intro w hSw; (try dsimp only at hSw); go_simp; first | done | with_reducible rfl)
                    try go_simp
                    refine wpAnyH_take (i := 12) (oi := _) (v := ?_) rfl (by kernel_rfl) (by kernel_rfl) (by kernel_rfl) (fun _ _ _ h => h) (Or.inl ⟨by rfl, ?_⟩) (by assumption) ?_
                    rotate_left 1
                    · (intro w hSw; (try dsimp only at hSw); go_simp; first | done | with_reducible rfl)
                    try go_simp
                    refine wpAnyH_done (by kernel_rfl) ?_ _
                    refine NoPanic.normal ?_
                    go_simp
                    go_wp2_with fail
                    go_ret
                    exact ⟨by rw [HE.out]; rfl, g.trans (grown_dr gz)⟩
                · by_cases c9 : t = 0
                  · have HE : Hid (chkN ⟨bi, bs, bf, bt⟩ ⟨i, s, f, t⟩ = 0) := Lib.hid (by rw [← oneV_some]; unfold oneV; simp [c0, c1, c2, c3, c4, c5, c6, c7])
                    have h0 : decide (i < 1) = false := by simp; omega
                    have h1 : decide ((s.length : Int) < 1) = false := by have := List.length_pos_iff.2 c1; simp; omega
                    have h2 : decide ((s.length : Int) > 40) = false := by simp; omega
                    have h3 : decide (i ≤ bi) = false := by simp; omega
                    have h4 := not_false c4
                    have h5 := not_false c5
                    have h8 : decide (f < bf) = false := by simp; omega
                    have h6 : (t != 0) = false := by simp [c9]
                    clear c0 c1 c2 c3 c4 c5 c6 c7 c9
                    go_enter Tryd.func31, Tryd.ntmps31
                    go_upto_region 2 with fail
                    obtain ⟨w3, e3, HX, g⟩ := row_of w 28 #[.int .i64 i, .string ⟨s.toArray⟩, .int .i64 f, .int .i64 t]
                    rw [← e3]
                    clear e3
                    have z0 : w3.cell? ⟨w.heap.size, 0, none⟩ = some (.int .i64 i) := HX.c 0 rfl
                    have z1 : w3.cell? ⟨w.heap.size, 1, none⟩ = some (.string ⟨s.toArray⟩) := HX.c 1 rfl
                    have z2 : w3.cell? ⟨w.heap.size, 2, none⟩ = some (.int .i64 f) := HX.c 2 rfl
                    have z3 : w3.cell? ⟨w.heap.size, 3, none⟩ = some (.int .i64 t) := HX.c 3 rfl
                    clear HX x0 x1 x2 x3
                    replace y0 := gcell g y0
                    replace y2 := gcell g y2
                    go_upto_region 4 with fail
                    have gz : w3.grownBy w3.drew none := grown_dr (grown_refl _)
                    refine wp_region_noPanic ?_
                    refine wp_region_held_drew (S := (fun w' => w3.grownBy w' none)) (by kernel_rfl) ?_ (fun hHeld => ?_)
                    · (try dsimp only); (repeat (first | assumption | exact grown_refl _ | refine grown_dr ?_ | refine grown_dn ?_ | refine grown_al ?_))
                    refine wpAnyH_take (i := 0) (oi := _) (v := ?_) rfl (by kernel_rfl) (by kernel_rfl) (by kernel_rfl) (fun _ _ _ h => h) (Or.inl ⟨by rfl, ?_⟩) (by assumption) ?_
                    rotate_left 1
                    · (intro w hSw; (try dsimp only at hSw); go_simp; first | done | with_reducible rfl)
                    try go_simp
                    refine wpAnyH_take (i := 1) (oi := _) (v := ?_) rfl (by kernel_rfl) (by kernel_rfl) (by kernel_rfl) (fun _ _ _ h => h) (Or.inl ⟨by rfl, ?_⟩) (by assumption) ?_
                    rotate_left 1
                    · (intro w hSw; (try dsimp only at hSw); go_simp; first | done | with_reducible rfl)
                    try go_simp
                    refine wpAnyH_take (i := 2) (oi := _) (v := ?_) rfl (by kernel_rfl) (by kernel_rfl) (by kernel_rfl) (fun _ _ _ h => h) (Or.inl ⟨by rfl, ?_⟩) (by assumption) ?_
                    rotate_left 1
                    · (intro w hSw; (try dsimp only at hSw); go_simp; first | done | with_reducible rfl)
                    try go_simp
                    refine wpAnyH_take (i := 3) (oi := _) (v := ?_) rfl (by kernel_rfl) (by kernel_rfl) (by kernel_rfl) (fun _ _ _ h => h) (Or.inl ⟨by kernel_rfl, ?_⟩) (by assumption) ?_
                    rotate_left 1
                    · (intro w hSw; (try dsimp only at hSw); go_simp; first | done | with_reducible rfl)
                    try go_simp
                    refine wpAnyH_take (i := 4) (oi := _) (v := .int .i64 i) rfl (by kernel_rfl) (by kernel_rfl) (by kernel_rfl) (fun _ _ _ h => h) (Or.inl ⟨by kernel_rfl, ?_⟩) (by assumption) ?_
                    · (intro w hSw; (try dsimp only at hSw); go_simp; have y0 := gcell hSw z0; clear hSw; go_simp; first | done | with_reducible rfl)
                    try go_simp
                    refine wpAnyH_take (i := 5) (oi := _) (v := ?_) rfl (by kernel_rfl) (by kernel_rfl) (by kernel_rfl) (fun _ _ _ h => h) (Or.inl ⟨by kernel_rfl, ?_⟩) (by assumption) ?_
                    rotate_left 1
                    · (intro w hSw; (try dsimp only at hSw); go_simp; first | done | with_reducible rfl)
                    try go_simp
                    refine wpAnyH_take (i := 6) (oi := _) (v := ?_) rfl (by kernel_rfl) (by kernel_rfl) (by kernel_rfl) (fun _ _ _ h => h) (Or.inl ⟨by kernel_rfl, ?_⟩) (by assumption) ?_
                    rotate_left 1
                    · (intro w hSw; (try dsimp only at hSw); go_simp; first | done | with_reducible rfl)
                    try go_simp
                    refine wpAnyH_take (i := 7) (oi := _) (v := .int .i64 (j : Int)) rfl (by kernel_rfl) (by kernel_rfl) (by kernel_rfl) (fun _ _ _ h => h) (Or.inl ⟨by kernel_rfl, ?_⟩) (by assumption) ?_
                    · (intro w hSw; (try dsimp only at hSw); go_simp; first | done | with_reducible rfl)
                    try go_simp
                    refine wpAnyH_take (i := 8) (oi := _) (v := .pointer (some (ad.add (j * 4)))) rfl (by kernel_rfl) (by kernel_rfl) (by kernel_rfl) (fun _ _ _ h => h) (Or.inl ⟨by kernel_rfl, ?_⟩) (by assumption) ?_
                    · (intro w hSw; (try dsimp only at hSw); go_simp; first | done | with_reducible rfl)
                    try go_simp
                    refine wpAnyH_take (i := 9) (oi := _) (v := ?_) rfl (by kernel_rfl) (by kernel_rfl) (by kernel_rfl) (fun _ _ _ h => h) (Or.inl ⟨by kernel_rfl, ?_⟩) (by assumption) ?_
                    rotate_left 1
                    · (intro w hSw; (try dsimp only at hSw); go_simp; first | done | with_reducible rfl)
                    try go_simp
                    refine wpAnyH_take (i := 10) (oi := _) (v := .int .i64 bi) rfl (by kernel_rfl) (by kernel_rfl) (by kernel_rfl) (fun _ _ _ h => h) (Or.inl ⟨by kernel_rfl, ?_⟩) (by assumption) ?_
                    · (intro w hSw; (try dsimp only at hSw); go_simp; have y0 := gcell hSw y0; clear hSw; go_simp; first | done | with_reducible rfl)
                    try go_simp
                    refine wpAnyH_take (i := 11) (oi := _) (v := ?_) rfl (by kernel_rfl) (by kernel_rfl) (by kernel_rfl) (fun _ _ _ h => h) (Or.inl ⟨by kernel_rfl, ?_⟩) (by assumption) ?_
                    rotate_left 1
                    · (intro w hSw; (try dsimp only at hSw); go_simp; first | done | with_reducible rfl)
                    try go_simp
                    refine wpAnyH_take (i := 12) (oi := _) (v := ?_) rfl (by kernel_rfl) (by kernel_rfl) (by kernel_rfl) (fun _ _ _ h => h) (Or.inl ⟨by rfl, ?_⟩) (by assumption) ?_
                    rotate_left 1
                    · (intro w hSw; (try dsimp only at hSw); go_simp; first | done | with_reducible rfl)
                    try go_simp
                    refine wpAnyH_done (by kernel_rfl) ?_ _
                    refine NoPanic.normal ?_
                    go_simp
                    go_wp2_with fail
                    refine (day_r f hf _).mono ?_
                    rintro e w5 ⟨rfl, rfl⟩
                    go_wp2_with fail
                    refine (day_r t ht _).mono ?_
                    rintro e w6 ⟨rfl, rfl⟩
                    go_upto_region 10 with fail
                    have q2 : w3.drew.cell? ⟨w.heap.size, 2, none⟩ = some (.int .i64 f) := gcell gz z2
                    have p2 := gcell gz y2
                    clear gz
                    have gz : w3.grownBy w3.drew none := grown_dr (grown_refl _)
                    have gz2 : w3.drew.grownBy w3.drew.drew none := grown_dr (grown_refl _)
                    refine wp_region_noPanic ?_
                    refine wp_region_held_drew (S := (fun w' => w3.drew.grownBy w' none)) (by kernel_rfl) ?_ (fun hHeld => ?_)
                    · (try dsimp only); (repeat (first | assumption | exact grown_refl _ | refine grown_dr ?_ | refine grown_dn ?_ | refine grown_al ?_))
                    refine wpAnyH_take (i := 0) (oi := _) (v := ?_) rfl (by kernel_rfl) (by kernel_rfl) (by kernel_rfl) (fun _ _ _ h => h) (Or.inl ⟨by rfl, ?_⟩) (by assumption) ?_
                    rotate_left 1
                    · (intro w hSw; (try dsimp only at hSw); go_simp; first | done | with_reducible rfl)
                    try go_simp
                    refine wpAnyH_take (i := 1) (oi := _) (v := ?_) rfl (by kernel_rfl) (by kernel_rfl) (by kernel_rfl) (fun _ _ _ h => h) (Or.inl ⟨by rfl, ?_⟩) (by assumption) ?_
                    rotate_left 1
                    · (intro w hSw; (try dsimp only at hSw); go_simp; first | done | with_reducible rfl)
                    try go_simp
                    refine wpAnyH_take (i := 2) (oi := _) (v := ?_) rfl (by kernel_rfl) (by kernel_rfl) (by kernel_rfl) (fun _ _ _ h => h) (Or.inl ⟨by rfl, ?_⟩) (by assumption) ?_
                    rotate_left 1
                    · (intro w hSw; (try dsimp only at hSw); go_simp; first | done | with_reducible rfl)
                    try go_simp
                    refine wpAnyH_take (i := 3) (oi := _) (v := ?_) rfl (by kernel_rfl) (by kernel_rfl) (by kernel_rfl) (fun _ _ _ h => h) (Or.inl ⟨by kernel_rfl, ?_⟩) (by assumption) ?_
                    rotate_left 1
                    · (intro w hSw; (try dsimp only at hSw); go_simp; first | done | with_reducible rfl)
                    try go_simp
                    refine wpAnyH_take (i := 4) (oi := _) (v := .int .i64 f) rfl (by kernel_rfl) (by kernel_rfl) (by kernel_rfl) (fun _ _ _ h => h) (Or.inl ⟨by kernel_rfl, ?_⟩) (by assumption) ?_
                    · (intro w hSw; (try dsimp only at hSw); go_simp; have y0 := gcell hSw q2; clear hSw; go_simp; first | done | with_reducible rfl)
                    try go_simp
                    refine wpAnyH_take (i := 5) (oi := _) (v := ?_) rfl (by kernel_rfl) (by kernel_rfl) (by kernel_rfl) (fun _ _ _ h => h) (Or.inl ⟨by kernel_rfl, ?_⟩) (by assumption) ?_
                    rotate_left 1
                    · (intro w hSw; (try dsimp only at hSw); go_simp; first | done | with_reducible rfl)
                    try go_simp
                    refine wpAnyH_take (i := 6) (oi := _) (v := ?_) rfl (by kernel_rfl) (by kernel_rfl) (by kernel_rfl) (fun _ _ _ h => h) (Or.inl ⟨by kernel_rfl, ?_⟩) (by assumption) ?_
                    rotate_left 1
                    · (intro w hSw; (try dsimp only at hSw); go_simp; first | done | with_reducible rfl)
                    try go_simp
                    refine wpAnyH_take (i := 7) (oi := _) (v := .int .i64 (j : Int)) rfl (by kernel_rfl) (by kernel_rfl) (by kernel_rfl) (fun _ _ _ h => h) (Or.inl ⟨by kernel_rfl, ?_⟩) (by assumption) ?_
                    · (intro w hSw; (try dsimp only at hSw); go_simp; first | done | with_reducible rfl)
                    try go_simp
                    refine wpAnyH_take (i := 8) (oi := _) (v := .pointer (some (ad.add (j * 4)))) rfl (by kernel_rfl) (by kernel_rfl) (by kernel_rfl) (fun _ _ _ h => h) (Or.inl ⟨by kernel_rfl, ?_⟩) (by assumption) ?_
                    · (intro w hSw; (try dsimp only at hSw); go_simp; first | done | with_reducible rfl)
                    try go_simp
                    refine wpAnyH_take (i := 9) (oi := _) (v := ?_) rfl (by kernel_rfl) (by kernel_rfl) (by kernel_rfl) (fun _ _ _ h => h) (Or.inl ⟨by kernel_rfl, ?_⟩) (by assumption) ?_
                    rotate_left 1
                    · (intro w hSw; (try dsimp only at hSw); go_simp; first | done | with_reducible rfl)
                    try go_simp
                    refine wpAnyH_take (i := 10) (oi := _) (v := .int .i64 bf) rfl (by kernel_rfl) (by kernel_rfl) (by kernel_rfl) (fun _ _ _ h => h) (Or.inl ⟨by kernel_rfl, ?_⟩) (by assumption) ?_
                    · (intro w hSw; (try dsimp only at hSw); go_simp; have y0 := gcell hSw p2; clear hSw; go_simp; first | done | with_reducible rfl)
                    try go_simp
                    refine wpAnyH_take (i := 11) (oi := _) (v := ?_) rfl (by kernel_rfl) (by kernel_rfl) (by kernel_rfl) (fun _ _ _ h => h) (Or.inl ⟨by kernel_rfl, ?_⟩) (by assumption) ?_
                    rotate_left 1
                    · (intro w hSw; (try dsimp only at hSw); go_simp; first | done | with_reducible rfl)
                    try go_simp
                    refine wpAnyH_take (i := 12) (oi := _) (v := ?_) rfl (by kernel_rfl) (by kernel_rfl) (by kernel_rfl) (fun _ _ _ h => h) (Or.inl ⟨by rfl, ?_⟩) (by assumption) ?_
                    rotate_left 1
                    · (intro w hSw; (try dsimp only at hSw); go_simp; first | done | with_reducible rfl)
                    try go_simp
                    refine wpAnyH_done (by kernel_rfl) ?_ _
                    refine NoPanic.normal ?_
                    go_simp
                    go_wp2_with fail
                    go_ret
                    exact ⟨by rw [HE.out]; rfl, g.trans (grown_dr gz)⟩
                  · have HE : Hid (chkN ⟨bi, bs, bf, bt⟩ ⟨i, s, f, t⟩ = 0) := Lib.hid (by rw [← oneV_some]; unfold oneV; simp [c0, c1, c2, c3, c4, c5, c6, c7])
                    have h0 : decide (i < 1) = false := by simp; omega
                    have h1 : decide ((s.length : Int) < 1) = false := by have := List.length_pos_iff.2 c1; simp; omega
                    have h2 : decide ((s.length : Int) > 40) = false := by simp; omega
                    have h3 : decide (i ≤ bi) = false := by simp; omega
                    have h4 := not_false c4
                    have h5 := not_false c5
                    have h8 : decide (f < bf) = false := by simp; omega
                    have h6 : (t != 0) = true := by simp [c9]
                    have h7 : decide (t < f) = false := by simp [c9] at c6; simp; omega
                    clear c0 c1 c2 c3 c4 c5 c6 c7 c9
                    go_enter Tryd.func31, Tryd.ntmps31
                    go_upto_region 2 with fail
                    obtain ⟨w3, e3, HX, g⟩ := row_of w 28 #[.int .i64 i, .string ⟨s.toArray⟩, .int .i64 f, .int .i64 t]
                    rw [← e3]
                    clear e3
                    have z0 : w3.cell? ⟨w.heap.size, 0, none⟩ = some (.int .i64 i) := HX.c 0 rfl
                    have z1 : w3.cell? ⟨w.heap.size, 1, none⟩ = some (.string ⟨s.toArray⟩) := HX.c 1 rfl
                    have z2 : w3.cell? ⟨w.heap.size, 2, none⟩ = some (.int .i64 f) := HX.c 2 rfl
                    have z3 : w3.cell? ⟨w.heap.size, 3, none⟩ = some (.int .i64 t) := HX.c 3 rfl
                    clear HX x0 x1 x2 x3
                    replace y0 := gcell g y0
                    replace y2 := gcell g y2
                    go_upto_region 4 with fail
                    have gz : w3.grownBy w3.drew none := grown_dr (grown_refl _)
                    refine wp_region_noPanic ?_
                    refine wp_region_held_drew (S := (fun w' => w3.grownBy w' none)) (by kernel_rfl) ?_ (fun hHeld => ?_)
                    · (try dsimp only); (repeat (first | assumption | exact grown_refl _ | refine grown_dr ?_ | refine grown_dn ?_ | refine grown_al ?_))
                    refine wpAnyH_take (i := 0) (oi := _) (v := ?_) rfl (by kernel_rfl) (by kernel_rfl) (by kernel_rfl) (fun _ _ _ h => h) (Or.inl ⟨by rfl, ?_⟩) (by assumption) ?_
                    rotate_left 1
                    · (intro w hSw; (try dsimp only at hSw); go_simp; first | done | with_reducible rfl)
                    try go_simp
                    refine wpAnyH_take (i := 1) (oi := _) (v := ?_) rfl (by kernel_rfl) (by kernel_rfl) (by kernel_rfl) (fun _ _ _ h => h) (Or.inl ⟨by rfl, ?_⟩) (by assumption) ?_
                    rotate_left 1
                    · (intro w hSw; (try dsimp only at hSw); go_simp; first | done | with_reducible rfl)
                    try go_simp
                    refine wpAnyH_take (i := 2) (oi := _) (v := ?_) rfl (by kernel_rfl) (by kernel_rfl) (by kernel_rfl) (fun _ _ _ h => h) (Or.inl ⟨by rfl, ?_⟩) (by assumption) ?_
                    rotate_left 1
                    · (intro w hSw; (try dsimp only at hSw); go_simp; first | done | with_reducible rfl)
                    try go_simp
                    refine wpAnyH_take (i := 3) (oi := _) (v := ?_) rfl (by kernel_rfl) (by kernel_rfl) (by kernel_rfl) (fun _ _ _ h => h) (Or.inl ⟨by kernel_rfl, ?_⟩) (by assumption) ?_
                    rotate_left 1
                    · (intro w hSw; (try dsimp only at hSw); go_simp; first | done | with_reducible rfl)
                    try go_simp
                    refine wpAnyH_take (i := 4) (oi := _) (v := .int .i64 i) rfl (by kernel_rfl) (by kernel_rfl) (by kernel_rfl) (fun _ _ _ h => h) (Or.inl ⟨by kernel_rfl, ?_⟩) (by assumption) ?_
                    · (intro w hSw; (try dsimp only at hSw); go_simp; have y0 := gcell hSw z0; clear hSw; go_simp; first | done | with_reducible rfl)
                    try go_simp
                    refine wpAnyH_take (i := 5) (oi := _) (v := ?_) rfl (by kernel_rfl) (by kernel_rfl) (by kernel_rfl) (fun _ _ _ h => h) (Or.inl ⟨by kernel_rfl, ?_⟩) (by assumption) ?_
                    rotate_left 1
                    · (intro w hSw; (try dsimp only at hSw); go_simp; first | done | with_reducible rfl)
                    try go_simp
                    refine wpAnyH_take (i := 6) (oi := _) (v := ?_) rfl (by kernel_rfl) (by kernel_rfl) (by kernel_rfl) (fun _ _ _ h => h) (Or.inl ⟨by kernel_rfl, ?_⟩) (by assumption) ?_
                    rotate_left 1
                    · (intro w hSw; (try dsimp only at hSw); go_simp; first | done | with_reducible rfl)
                    try go_simp
                    refine wpAnyH_take (i := 7) (oi := _) (v := .int .i64 (j : Int)) rfl (by kernel_rfl) (by kernel_rfl) (by kernel_rfl) (fun _ _ _ h => h) (Or.inl ⟨by kernel_rfl, ?_⟩) (by assumption) ?_
                    · (intro w hSw; (try dsimp only at hSw); go_simp; first | done | with_reducible rfl)
                    try go_simp
                    refine wpAnyH_take (i := 8) (oi := _) (v := .pointer (some (ad.add (j * 4)))) rfl (by kernel_rfl) (by kernel_rfl) (by kernel_rfl) (fun _ _ _ h => h) (Or.inl ⟨by kernel_rfl, ?_⟩) (by assumption) ?_
                    · (intro w hSw; (try dsimp only at hSw); go_simp; first | done | with_reducible rfl)
                    try go_simp
                    refine wpAnyH_take (i := 9) (oi := _) (v := ?_) rfl (by kernel_rfl) (by kernel_rfl) (by kernel_rfl) (fun _ _ _ h => h) (Or.inl ⟨by kernel_rfl, ?_⟩) (by assumption) ?_
                    rotate_left 1
                    · (intro w hSw; (try dsimp only at hSw); go_simp; first | done | with_reducible rfl)
                    try go_simp
                    refine wpAnyH_take (i := 10) (oi := _) (v := .int .i64 bi) rfl (by kernel_rfl) (by kernel_rfl) (by kernel_rfl) (fun _ _ _ h => h) (Or.inl ⟨by kernel_rfl, ?_⟩) (by assumption) ?_
                    · (intro w hSw; (try dsimp only at hSw); go_simp; have y0 := gcell hSw y0; clear hSw; go_simp; first | done | with_reducible rfl)
                    try go_simp
                    refine wpAnyH_take (i := 11) (oi := _) (v := ?_) rfl (by kernel_rfl) (by kernel_rfl) (by kernel_rfl) (fun _ _ _ h => h) (Or.inl ⟨by kernel_rfl, ?_⟩) (by assumption) ?_
                    rotate_left 1
                    · (intro w hSw; (try dsimp only at hSw); go_simp; first | done | with_reducible rfl)
                    try go_simp
                    refine wpAnyH_take (i := 12) (oi := _) (v := ?_) rfl (by kernel_rfl) (by kernel_rfl) (by kernel_rfl) (fun _ _ _ h => h) (Or.inl ⟨by rfl, ?_⟩) (by assumption) ?_
                    rotate_left 1
                    · (intro w hSw; (try dsimp only at hSw); go_simp; first | done | with_reducible rfl)
                    try go_simp
                    refine wpAnyH_done (by kernel_rfl) ?_ _
                    refine NoPanic.normal ?_
                    go_simp
                    go_wp2_with fail
                    refine (day_r f hf _).mono ?_
                    rintro e w5 ⟨rfl, rfl⟩
                    go_wp2_with fail
                    refine (day_r t ht _).mono ?_
                    rintro e w6 ⟨rfl, rfl⟩
                    go_upto_region 10 with fail
                    have q2 : w3.drew.cell? ⟨w.heap.size, 2, none⟩ = some (.int .i64 f) := gcell gz z2
                    have p2 := gcell gz y2
                    clear gz
                    have gz : w3.grownBy w3.drew none := grown_dr (grown_refl _)
                    have gz2 : w3.drew.grownBy w3.drew.drew none := grown_dr (grown_refl _)
                    refine wp_region_noPanic ?_
                    refine wp_region_held_drew (S := (fun w' => w3.drew.grownBy w' none)) (by kernel_rfl) ?_ (fun hHeld => ?_)
                    · (try dsimp only); (repeat (first | assumption | exact grown_refl _ | refine grown_dr ?_ | refine grown_dn ?_ | refine grown_al ?_))
                    refine wpAnyH_take (i := 0) (oi := _) (v := ?_) rfl (by kernel_rfl) (by kernel_rfl) (by kernel_rfl) (fun _ _ _ h => h) (Or.inl ⟨by rfl, ?_⟩) (by assumption) ?_
                    rotate_left 1
                    · (intro w hSw; (try dsimp only at hSw); go_simp; first | done | with_reducible rfl)
                    try go_simp
                    refine wpAnyH_take (i := 1) (oi := _) (v := ?_) rfl (by kernel_rfl) (by kernel_rfl) (by kernel_rfl) (fun _ _ _ h => h) (Or.inl ⟨by rfl, ?_⟩) (by assumption) ?_
                    rotate_left 1
                    · (intro w hSw; (try dsimp only at hSw); go_simp; first | done | with_reducible rfl)
                    try go_simp
                    refine wpAnyH_take (i := 2) (oi := _) (v := ?_) rfl (by kernel_rfl) (by kernel_rfl) (by kernel_rfl) (fun _ _ _ h => h) (Or.inl ⟨by rfl, ?_⟩) (by assumption) ?_
                    rotate_left 1
                    · (intro w hSw; (try dsimp only at hSw); go_simp; first | done | with_reducible rfl)
                    try go_simp
                    refine wpAnyH_take (i := 3) (oi := _) (v := ?_) rfl (by kernel_rfl) (by kernel_rfl) (by kernel_rfl) (fun _ _ _ h => h) (Or.inl ⟨by kernel_rfl, ?_⟩) (by assumption) ?_
                    rotate_left 1
                    · (intro w hSw; (try dsimp only at hSw); go_simp; first | done | with_reducible rfl)
                    try go_simp
                    refine wpAnyH_take (i := 4) (oi := _) (v := .int .i64 f) rfl (by kernel_rfl) (by kernel_rfl) (by kernel_rfl) (fun _ _ _ h => h) (Or.inl ⟨by kernel_rfl, ?_⟩) (by assumption) ?_
                    · (intro w hSw; (try dsimp only at hSw); go_simp; have y0 := gcell hSw q2; clear hSw; go_simp; first | done | with_reducible rfl)
                    try go_simp
                    refine wpAnyH_take (i := 5) (oi := _) (v := ?_) rfl (by kernel_rfl) (by kernel_rfl) (by kernel_rfl) (fun _ _ _ h => h) (Or.inl ⟨by kernel_rfl, ?_⟩) (by assumption) ?_
                    rotate_left 1
                    · (intro w hSw; (try dsimp only at hSw); go_simp; first | done | with_reducible rfl)
                    try go_simp
                    refine wpAnyH_take (i := 6) (oi := _) (v := ?_) rfl (by kernel_rfl) (by kernel_rfl) (by kernel_rfl) (fun _ _ _ h => h) (Or.inl ⟨by kernel_rfl, ?_⟩) (by assumption) ?_
                    rotate_left 1
                    · (intro w hSw; (try dsimp only at hSw); go_simp; first | done | with_reducible rfl)
                    try go_simp
                    refine wpAnyH_take (i := 7) (oi := _) (v := .int .i64 (j : Int)) rfl (by kernel_rfl) (by kernel_rfl) (by kernel_rfl) (fun _ _ _ h => h) (Or.inl ⟨by kernel_rfl, ?_⟩) (by assumption) ?_
                    · (intro w hSw; (try dsimp only at hSw); go_simp; first | done | with_reducible rfl)
                    try go_simp
                    refine wpAnyH_take (i := 8) (oi := _) (v := .pointer (some (ad.add (j * 4)))) rfl (by kernel_rfl) (by kernel_rfl) (by kernel_rfl) (fun _ _ _ h => h) (Or.inl ⟨by kernel_rfl, ?_⟩) (by assumption) ?_
                    · (intro w hSw; (try dsimp only at hSw); go_simp; first | done | with_reducible rfl)
                    try go_simp
                    refine wpAnyH_take (i := 9) (oi := _) (v := ?_) rfl (by kernel_rfl) (by kernel_rfl) (by kernel_rfl) (fun _ _ _ h => h) (Or.inl ⟨by kernel_rfl, ?_⟩) (by assumption) ?_
                    rotate_left 1
                    · (intro w hSw; (try dsimp only at hSw); go_simp; first | done | with_reducible rfl)
                    try go_simp
                    refine wpAnyH_take (i := 10) (oi := _) (v := .int .i64 bf) rfl (by kernel_rfl) (by kernel_rfl) (by kernel_rfl) (fun _ _ _ h => h) (Or.inl ⟨by kernel_rfl, ?_⟩) (by assumption) ?_
                    · (intro w hSw; (try dsimp only at hSw); go_simp; have y0 := gcell hSw p2; clear hSw; go_simp; first | done | with_reducible rfl)
                    try go_simp
                    refine wpAnyH_take (i := 11) (oi := _) (v := ?_) rfl (by kernel_rfl) (by kernel_rfl) (by kernel_rfl) (fun _ _ _ h => h) (Or.inl ⟨by kernel_rfl, ?_⟩) (by assumption) ?_
                    rotate_left 1
                    · (intro w hSw; (try dsimp only at hSw); go_simp; first | done | with_reducible rfl)
                    try go_simp
                    refine wpAnyH_take (i := 12) (oi := _) (v := ?_) rfl (by kernel_rfl) (by kernel_rfl) (by kernel_rfl) (fun _ _ _ h => h) (Or.inl ⟨by rfl, ?_⟩) (by assumption) ?_
                    rotate_left 1
                    · (intro w hSw; (try dsimp only at hSw); go_simp; first | done | with_reducible rfl)
                    try go_simp
                    refine wpAnyH_done (by kernel_rfl) ?_ _
                    refine NoPanic.normal ?_
                    go_simp
                    go_wp2_with fail
                    go_ret
                    exact ⟨by rw [HE.out]; rfl, g.trans (grown_dr gz)⟩
end Go.Proofs.YtecobgjkodmaiaaDoor
