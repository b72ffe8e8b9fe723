/-
  The reference's Put, by its contract.
-/
import Derived.Test.YtljjmoeplfcblaaAppS
import Derived.Test.YtljjmoeplfcblaaRefD
import Derived.Test.YtljjmoeplfcblaaRDig
namespace Go.Proofs.Ytljjmoeplfcblaa
open Go.RowKit Go.Shelf
attribute [local go_sem] get_mk extract_mk
/-- a sorted list with a further string -/
def putL (l : List Str) (s : Str) : List Str := if l[leastD l s]? = some s then l else l.take (leastD l s) ++ [s] ++ l.drop (leastD l s)
theorem least_le' (l : List Str) (s : Str) : leastD l s ≤ l.length := (List.takeWhile_prefix _).length_le
theorem new_one (W : World) (s : Str) (hs : s.length ≤ 4611686018427387904) : Strs (W.alloc (.cells #[.string ⟨s.toArray⟩] 9)) (some ⟨W.heap.size, 0, none⟩) 1 1 [s] := by
  refine ⟨rfl, Nat.le_refl _, by decide, fun x hx => ?_, fun _ => ⟨_, rfl, by simp, fun j x hj => ?_⟩⟩
  · rw [List.mem_singleton] at hx
    rw [hx]; exact hs
  · match j, hj with
    | 0, hj =>
      simp at hj
      subst hj
      exact World.news_of_block (cs := #[.string ⟨s.toArray⟩]) (t := 9) (fr := (0, 0)) (heap_alloc_new W _) 0 _ rfl
theorem Strs.off {w w' : World} {A : Option Addr} {n c : Nat} {l : List Str} {row : Option Nat} (h : Strs w A n c l) (hg : w.grownBy w' row) (hA : ∀ a, A = some a → some a.block ≠ row) : Strs w' A n c l :=
  { h with
    cell := fun h0 => by
      obtain ⟨ad, e, hb, hc⟩ := h.cell h0
      exact ⟨ad, e, Nat.lt_of_lt_of_le hb hg.size, fun j s hj => hg.cell (hc j s hj) (by rw [add_block]; exact hA ad e)⟩ }
theorem own_strs' {w : World} {b : Nat} {v : Value} {D : List Str} (h : w.ownsRow b 9 1 v D.length (D.map fun s => .string ⟨s.toArray⟩)) (hl : ∀ s ∈ D, s.length ≤ 4611686018427387904) : ∃ A c, v = .slice A D.length c ∧ Strs w A D.length c D ∧ (A = none → c = 0) := by
  obtain ⟨A, c, rfl, hs⟩ := own_strs h hl
  refine ⟨A, c, rfl, hs, fun e => ?_⟩
  rcases own_some h with e2 | ⟨g, c', e2⟩
  · injection e2
  · subst e; injection e2 with e2; cases e2
set_option maxRecDepth 100000 in
set_option maxHeartbeats 4000000 in
/-- the reference's Put -/
theorem put_r (A : Option Addr) (n c : Nat) (l : List Str) (s : Str) (hn : n ≤ 1000) (hs : s.length ≤ 4611686018427387904) (hA : A = none → c = 0) (w : World) (hl : Strs w A n c l) :
    Calls Try.prog 45 #[.slice A n c, .string ⟨s.toArray⟩] w fun e w' => ∃ A' n' c', e = .returned (.slice A' n' c') ∧ Strs w' A' n' c' (putL l s) ∧ (A' = none → c' = 0) ∧ w.grownBy w' none := by
  have HLN := Lib.hid hl.len
  have HL := Lib.hid (fun w' (g : w.grownBy w' none) => hl.kept g)
  have HA := Lib.hid hA
  have hcn := hl.le
  have hcc := hl.cap
  have HF := Lib.hid (first_r A n c l s w hl)
  have hkn := least_le' l s
  have HPL : Hid (putL l s = if l[leastD l s]? = some s then l else l.take (leastD l s) ++ [s] ++ l.drop (leastD l s)) := Lib.hid rfl
  rw [← hl.len] at hkn
  clear hl hA
  generalize leastD l s = k at *
  go_enter Try.func45, Try.ntmps45
  go_wp2_with fail
  refine HF.out.mono ?_
  rintro e w1 ⟨rfl, g1⟩
  have HL := Lib.hid (fun W (g : w1.grownBy W none) => HL.out W (g1.trans g))
  have G1 := Lib.hid g1
  have Hs := Lib.hid hs
  clear g1 HF hs
  have s1 : (0 : Int) ≤ (k : Int) := by omega
  by_cases hk : k < n
  · obtain ⟨x, hx⟩ : ∃ x, l[k]? = some x := ⟨_, List.getElem?_eq_getElem (by have := HLN.out; omega)⟩
    obtain ⟨ad, rfl, _, hc⟩ := (HL.out w1 (World.grownBy.refl _ _)).cell (by omega)
    have hcx := hc k x hx
    have hk' : (k : Int) < (n : Int) := by omega
    rw [hx] at HPL
    clear hc hx
    by_cases hxs : x = s
    · subst hxs
      go_wp2_with fail
      go_ret
      exact ⟨_, n, c, rfl, (by rw [HPL.out, if_pos trivial]; exact HL.out w1 (World.grownBy.refl _ _)), (fun e => by cases e), G1.out⟩
    · have hb : (x == s) = false := by simpa using hxs
      rw [if_neg (fun e => hxs (by injection e))] at HPL
      clear hxs
      have hck : ¬ c = k := by omega
      have hkc : (k : Int) ≤ (c : Int) := by omega
      go_upto_region 4 with fail
      refine wp_region_noPanic ?_
      refine wp_region_held_drew (S := (fun w' => w1.grownBy w' none)) (by kernel_rfl) ?_ (fun hHeld => ?_)
      · (try dsimp only); (repeat (first | assumption | exact World.grownBy.refl _ _ | refine grown_drR ?_ | refine grown_alR ?_))
      refine wpAnyH_take (i := 1) (oi := _) (v := ?_) rfl (by kernel_rfl) (by kernel_rfl) (by kernel_rfl) (fun _ _ _ h => h) (Or.inl ⟨by rfl, ?_⟩) (by assumption) ?_
      rotate_left 1
      · (intro w hSw; (try dsimp only at hSw); go_simp; first | done | with_reducible rfl)
      try go_simp
      refine wpAnyH_take (i := 2) (oi := _) (v := ?_) rfl (by kernel_rfl) (by kernel_rfl) (by kernel_rfl) (fun _ _ _ h => h) (Or.inl ⟨by rfl, ?_⟩) (by assumption) ?_
      rotate_left 1
      · (intro w hSw; (try dsimp only at hSw); go_simp; first | done | with_reducible rfl)
      try go_simp
      refine wpAnyH_take (i := 3) (oi := _) (v := ?_) rfl (by kernel_rfl) (by kernel_rfl) (by kernel_rfl) (fun _ _ _ h => h) (Or.inl ⟨by rfl, ?_⟩) (by assumption) ?_
      rotate_left 1
      · (intro w hSw; (try dsimp only at hSw); go_simp; first | done | with_reducible rfl)
      try go_simp
      refine wpAnyH_take (i := 5) (oi := _) (v := ?_) rfl (by kernel_rfl) (by kernel_rfl) (by kernel_rfl) (fun _ _ _ h => h) (Or.inl ⟨by rfl, ?_⟩) (by assumption) ?_
      rotate_left 1
      · (intro w hSw; (try dsimp only at hSw); go_simp; first | done | with_reducible rfl)
      try go_simp
      refine wpAnyH_take (i := 8) (oi := _) (v := ?_) rfl (by kernel_rfl) (by kernel_rfl) (by kernel_rfl) (fun _ _ _ h => h) (Or.inl ⟨by rfl, ?_⟩) (by assumption) ?_
      rotate_left 1
      · (intro w hSw; (try dsimp only at hSw); go_simp; first | done | with_reducible rfl)
      try go_simp
      refine wpAnyH_take (i := 9) (oi := _) (v := ?_) rfl (by kernel_rfl) (by kernel_rfl) (by kernel_rfl) (fun _ _ _ h => h) (Or.inl ⟨by rfl, ?_⟩) (by assumption) ?_
      rotate_left 1
      · (intro w hSw; (try dsimp only at hSw); go_simp; first | done | with_reducible rfl)
      try go_simp
      refine wpAnyH_take (i := 10) (oi := _) (v := ?_) rfl (by kernel_rfl) (by kernel_rfl) (by kernel_rfl) (fun _ _ _ h => h) (Or.inl ⟨by rfl, ?_⟩) (by assumption) ?_
      rotate_left 1
      · (intro w hSw; (try dsimp only at hSw); go_simp; first | done | with_reducible rfl)
      try go_simp
      have HG : Hid (w1.grownBy w1.drew none) := Lib.hid (grown_dr (World.grownBy.refl _ _))
      clear hHeld
      generalize w1.drew = wd0 at *
      refine wpAnyH_ready (rs := [0, 6]) (by kernel_rfl) (by simp) ?_
      refine AllReadyH.cons (o := _) rfl (fun K hK => ?_) ?_
      · go_simp
        first | (refine hK.out _ _ ?_ (fun hHeld => ?_)) | (go_wp2_with fail; refine hK.out _ _ ?_ (fun hHeld => ?_))
        · (try dsimp only); (repeat (first | assumption | exact World.grownBy.refl _ _ | refine grown_drR ?_ | refine grown_alR ?_))
        clear hK K hHeld
        have HM := Lib.hid (World.ownsRow_made (base := w1.heap.size) (e := 9) (size := 1) wd0 #[] 0 HG.out.size (by decide) rfl)
        obtain ⟨b0, hb0⟩ : ∃ b0, wd0.heap.size = b0 := ⟨_, rfl⟩
        have HB0 := Lib.hid hb0
        have HG := Lib.hid (HG.out.trans (World.grownBy_alloc wd0 (.cells #[] 9) none))
        have LS : Hid (b0 < (wd0.alloc (.cells #[] 9)).heap.size) := Lib.hid (by rw [World.size_alloc]; omega)
        rw [hb0] at HM ⊢
        clear hb0 HB0
        generalize wd0.alloc (.cells #[] 9) = wa0 at *
        refine wpAnyH_ready (rs := [4, 6]) (by kernel_rfl) (by simp) ?_
        refine AllReadyH.cons (o := _) rfl (fun K hK => ?_) ?_
        · refine step_append_strs rfl _ _ rfl w1.heap.size (.slice (some ⟨b0, 0, none⟩) 0 0) [] (by rfl) HM.out (some ad) k c (l.take k) (by rfl) ((HL.out wa0 HG.out).take (show k ≤ n by omega)) HA.out (by simp only [List.length_append, List.length_take, List.length_nil, List.length_singleton]; omega) HG.out.size ?_
          intro v4 wa1 hown hgrow _ _
          have hgn := HG.out.andThen hgrow (fun r e => .inl (own_fresh HM.out r e))
          refine hK.out _ _ ?_ (fun hHeld => ?_)
          · exact hgn
          clear hK K hHeld
          have HM := Lib.hid hown
          have HG := Lib.hid hgn
          clear hown hgrow hgn
          try go_simp
          refine wpAnyH_ready (rs := [6]) (by kernel_rfl) (by simp) ?_
          refine AllReadyH.cons (o := _) rfl (fun K hK => ?_) AllReadyH.nil
          · go_simp
            first | (refine hK.out _ _ ?_ (fun hHeld => ?_)) | (go_wp2_with fail; refine hK.out _ _ ?_ (fun hHeld => ?_))
            · (try dsimp only); (repeat (first | assumption | exact World.grownBy.refl _ _ | refine grown_drR ?_ | refine grown_alR ?_))
            clear hK K hHeld
            have H6 := Lib.hid (new_one wa1 s Hs.out)
            obtain ⟨b6, hb6⟩ : ∃ b6, wa1.heap.size = b6 := ⟨_, rfl⟩
            have HM := Lib.hid (HM.out.alloc (.cells #[.string ⟨s.toArray⟩] 9))
            have HG := Lib.hid (HG.out.trans (World.grownBy_alloc wa1 (.cells #[.string ⟨s.toArray⟩] 9) none))
            have L6 : Hid (b6 < (wa1.alloc (.cells #[.string ⟨s.toArray⟩] 9)).heap.size) := Lib.hid (by rw [World.size_alloc]; omega)
            rw [hb6] at H6 ⊢
            clear hb6
            generalize wa1.alloc (.cells #[.string ⟨s.toArray⟩] 9) = wa2 at *
            refine wpAnyH_ready (rs := [7]) (by kernel_rfl) (by simp) ?_
            refine AllReadyH.cons (o := _) rfl (fun K hK => ?_) AllReadyH.nil
            · refine step_append_strs rfl _ _ rfl w1.heap.size v4 (l.take k) (by rfl) HM.out (some ⟨b6, 0, none⟩) 1 1 [s] (by rfl) H6.out (by intro h; cases h) (by simp only [List.length_append, List.length_take, List.length_nil, List.length_singleton]; omega) HG.out.size ?_
              intro v7 wa3 hown hgrow _ _
              have hgn := HG.out.andThen hgrow (fun r e => .inl (own_fresh HM.out r e))
              refine hK.out _ _ ?_ (fun hHeld => ?_)
              · exact hgn
              clear hK K hHeld
              have HM := Lib.hid hown
              have HG := Lib.hid hgn
              clear hown hgrow hgn
              try go_simp
              refine wpAnyH_ready (rs := [11]) (by kernel_rfl) (by simp) ?_
              refine AllReadyH.cons (o := _) rfl (fun K hK => ?_) AllReadyH.nil
              · refine step_append_strs rfl _ _ rfl w1.heap.size v7 (l.take k ++ [s]) (by rfl) HM.out (some (ad.add k)) (n - k) (c - k) (l.drop k) (by rfl) (by have := (HL.out wa3 HG.out).drop (show k ≤ n by omega); rwa [if_neg hck] at this) (by intro h; cases h) (by simp only [List.length_append, List.length_take, List.length_nil, List.length_singleton]; omega) HG.out.size ?_
                intro v11 wa4 hown hgrow _ _
                have hgn := HG.out.andThen hgrow (fun r e => .inl (own_fresh HM.out r e))
                refine hK.out _ _ ?_ (fun hHeld => ?_)
                · exact hgn
                clear hK K hHeld
                have HM := Lib.hid hown
                have HG := Lib.hid hgn
                clear hown hgrow hgn
                try go_simp
                refine wpAnyH_take (i := 12) (oi := _) (v := ?_) rfl (by kernel_rfl) (by kernel_rfl) (by kernel_rfl) (fun _ _ _ h => h) (Or.inl ⟨by rfl, ?_⟩) (by assumption) ?_
                rotate_left 1
                · (intro w hSw; (try dsimp only at hSw); go_simp; first | done | with_reducible rfl)
                try go_simp
                refine wpAnyH_done (by kernel_rfl) ?_ _
                refine NoPanic.normal ?_
                go_simp
                have HM2 : Hid (wa4.ownsRow w1.heap.size 9 1 v11 (putL l s).length ((putL l s).map fun s => .string ⟨s.toArray⟩)) := Lib.hid (by rw [HPL.out]; exact HM.out)
                obtain ⟨A9, c9, rfl, hs9, ha9⟩ := own_strs' HM2.out (fun y hy => by
                  rw [HPL.out] at hy
                  rcases List.mem_append.1 hy with h | h
                  · rcases List.mem_append.1 h with h | h
                    · exact (HL.out w1 (World.grownBy.refl _ _)).sl y (List.mem_of_mem_take h)
                    · rw [List.mem_singleton] at h; rw [h]; exact Hs.out
                  · exact (HL.out w1 (World.grownBy.refl _ _)).sl y (List.mem_of_mem_drop h))
                have HS9 := Lib.hid hs9
                have HA9 := Lib.hid ha9
                clear hs9 ha9 HM2 HM
                try clear H6
                go_wp2_with fail
                go_ret
                exact ⟨_, _, _, rfl, HS9.out, HA9.out, G1.out.trans HG.out⟩
        refine AllReadyH.cons (o := _) rfl (fun K hK => ?_) AllReadyH.nil
        · go_simp
          first | (refine hK.out _ _ ?_ (fun hHeld => ?_)) | (go_wp2_with fail; refine hK.out _ _ ?_ (fun hHeld => ?_))
          · (try dsimp only); (repeat (first | assumption | exact World.grownBy.refl _ _ | refine grown_drR ?_ | refine grown_alR ?_))
          clear hK K hHeld
          have H6 := Lib.hid (new_one wa0 s Hs.out)
          obtain ⟨b6, hb6⟩ : ∃ b6, wa0.heap.size = b6 := ⟨_, rfl⟩
          have HM := Lib.hid (HM.out.alloc (.cells #[.string ⟨s.toArray⟩] 9))
          have NE6 : Hid (b6 ≠ b0) := Lib.hid (by have := LS.out; omega)
          have HG := Lib.hid (HG.out.trans (World.grownBy_alloc wa0 (.cells #[.string ⟨s.toArray⟩] 9) none))
          have L6 : Hid (b6 < (wa0.alloc (.cells #[.string ⟨s.toArray⟩] 9)).heap.size) := Lib.hid (by rw [World.size_alloc]; omega)
          rw [hb6] at H6 ⊢
          clear hb6
          generalize wa0.alloc (.cells #[.string ⟨s.toArray⟩] 9) = wa1 at *
          refine wpAnyH_ready (rs := [4]) (by kernel_rfl) (by simp) ?_
          refine AllReadyH.cons (o := _) rfl (fun K hK => ?_) AllReadyH.nil
          · refine step_append_strs rfl _ _ rfl w1.heap.size (.slice (some ⟨b0, 0, none⟩) 0 0) [] (by rfl) HM.out (some ad) k c (l.take k) (by rfl) ((HL.out wa1 HG.out).take (show k ≤ n by omega)) HA.out (by simp only [List.length_append, List.length_take, List.length_nil, List.length_singleton]; omega) HG.out.size ?_
            intro v4 wa2 hown hgrow _ _
            have hgn := HG.out.andThen hgrow (fun r e => .inl (own_fresh HM.out r e))
            have H6 := Lib.hid (H6.out.off hgrow (fun a e => by injection e with e; rw [← e]; intro e; injection e with e; exact NE6.out e))
            refine hK.out _ _ ?_ (fun hHeld => ?_)
            · exact hgn
            clear hK K hHeld
            have HM := Lib.hid hown
            have HG := Lib.hid hgn
            clear hown hgrow hgn
            try go_simp
            refine wpAnyH_ready (rs := [7]) (by kernel_rfl) (by simp) ?_
            refine AllReadyH.cons (o := _) rfl (fun K hK => ?_) AllReadyH.nil
            · refine step_append_strs rfl _ _ rfl w1.heap.size v4 (l.take k) (by rfl) HM.out (some ⟨b6, 0, none⟩) 1 1 [s] (by rfl) H6.out (by intro h; cases h) (by simp only [List.length_append, List.length_take, List.length_nil, List.length_singleton]; omega) HG.out.size ?_
              intro v7 wa3 hown hgrow _ _
              have hgn := HG.out.andThen hgrow (fun r e => .inl (own_fresh HM.out r e))
              refine hK.out _ _ ?_ (fun hHeld => ?_)
              · exact hgn
              clear hK K hHeld
              have HM := Lib.hid hown
              have HG := Lib.hid hgn
              clear hown hgrow hgn
              try go_simp
              refine wpAnyH_ready (rs := [11]) (by kernel_rfl) (by simp) ?_
              refine AllReadyH.cons (o := _) rfl (fun K hK => ?_) AllReadyH.nil
              · refine step_append_strs rfl _ _ rfl w1.heap.size v7 (l.take k ++ [s]) (by rfl) HM.out (some (ad.add k)) (n - k) (c - k) (l.drop k) (by rfl) (by have := (HL.out wa3 HG.out).drop (show k ≤ n by omega); rwa [if_neg hck] at this) (by intro h; cases h) (by simp only [List.length_append, List.length_take, List.length_nil, List.length_singleton]; omega) HG.out.size ?_
                intro v11 wa4 hown hgrow _ _
                have hgn := HG.out.andThen hgrow (fun r e => .inl (own_fresh HM.out r e))
                refine hK.out _ _ ?_ (fun hHeld => ?_)
                · exact hgn
                clear hK K hHeld
                have HM := Lib.hid hown
                have HG := Lib.hid hgn
                clear hown hgrow hgn
                try go_simp
                refine wpAnyH_take (i := 12) (oi := _) (v := ?_) rfl (by kernel_rfl) (by kernel_rfl) (by kernel_rfl) (fun _ _ _ h => h) (Or.inl ⟨by rfl, ?_⟩) (by assumption) ?_
                rotate_left 1
                · (intro w hSw; (try dsimp only at hSw); go_simp; first | done | with_reducible rfl)
                try go_simp
                refine wpAnyH_done (by kernel_rfl) ?_ _
                refine NoPanic.normal ?_
                go_simp
                have HM2 : Hid (wa4.ownsRow w1.heap.size 9 1 v11 (putL l s).length ((putL l s).map fun s => .string ⟨s.toArray⟩)) := Lib.hid (by rw [HPL.out]; exact HM.out)
                obtain ⟨A9, c9, rfl, hs9, ha9⟩ := own_strs' HM2.out (fun y hy => by
                  rw [HPL.out] at hy
                  rcases List.mem_append.1 hy with h | h
                  · rcases List.mem_append.1 h with h | h
                    · exact (HL.out w1 (World.grownBy.refl _ _)).sl y (List.mem_of_mem_take h)
                    · rw [List.mem_singleton] at h; rw [h]; exact Hs.out
                  · exact (HL.out w1 (World.grownBy.refl _ _)).sl y (List.mem_of_mem_drop h))
                have HS9 := Lib.hid hs9
                have HA9 := Lib.hid ha9
                clear hs9 ha9 HM2 HM
                try clear H6
                go_wp2_with fail
                go_ret
                exact ⟨_, _, _, rfl, HS9.out, HA9.out, G1.out.trans HG.out⟩
      refine AllReadyH.cons (o := _) rfl (fun K hK => ?_) AllReadyH.nil
      · go_simp
        first | (refine hK.out _ _ ?_ (fun hHeld => ?_)) | (go_wp2_with fail; refine hK.out _ _ ?_ (fun hHeld => ?_))
        · (try dsimp only); (repeat (first | assumption | exact World.grownBy.refl _ _ | refine grown_drR ?_ | refine grown_alR ?_))
        clear hK K hHeld
        have H6 := Lib.hid (new_one wd0 s Hs.out)
        obtain ⟨b6, hb6⟩ : ∃ b6, wd0.heap.size = b6 := ⟨_, rfl⟩
        have HG := Lib.hid (HG.out.trans (World.grownBy_alloc wd0 (.cells #[.string ⟨s.toArray⟩] 9) none))
        have L6 : Hid (b6 < (wd0.alloc (.cells #[.string ⟨s.toArray⟩] 9)).heap.size) := Lib.hid (by rw [World.size_alloc]; omega)
        rw [hb6] at H6 ⊢
        clear hb6
        generalize wd0.alloc (.cells #[.string ⟨s.toArray⟩] 9) = wa0 at *
        refine wpAnyH_ready (rs := [0]) (by kernel_rfl) (by simp) ?_
        refine AllReadyH.cons (o := _) rfl (fun K hK => ?_) AllReadyH.nil
        · go_simp
          first | (refine hK.out _ _ ?_ (fun hHeld => ?_)) | (go_wp2_with fail; refine hK.out _ _ ?_ (fun hHeld => ?_))
          · (try dsimp only); (repeat (first | assumption | exact World.grownBy.refl _ _ | refine grown_drR ?_ | refine grown_alR ?_))
          clear hK K hHeld
          have HM := Lib.hid (World.ownsRow_made (base := w1.heap.size) (e := 9) (size := 1) wa0 #[] 0 HG.out.size (by decide) rfl)
          obtain ⟨b0, hb0⟩ : ∃ b0, wa0.heap.size = b0 := ⟨_, rfl⟩
          have HB0 := Lib.hid hb0
          have H6 := Lib.hid (H6.out.kept (World.grownBy_alloc wa0 (.cells #[] 9) none))
          have NE6 : Hid (b6 ≠ b0) := Lib.hid (by have := L6.out; omega)
          have HG := Lib.hid (HG.out.trans (World.grownBy_alloc wa0 (.cells #[] 9) none))
          have LS : Hid (b0 < (wa0.alloc (.cells #[] 9)).heap.size) := Lib.hid (by rw [World.size_alloc]; omega)
          rw [hb0] at HM ⊢
          clear hb0 HB0
          generalize wa0.alloc (.cells #[] 9) = wa1 at *
          refine wpAnyH_ready (rs := [4]) (by kernel_rfl) (by simp) ?_
          refine AllReadyH.cons (o := _) rfl (fun K hK => ?_) AllReadyH.nil
          · refine step_append_strs rfl _ _ rfl w1.heap.size (.slice (some ⟨b0, 0, none⟩) 0 0) [] (by rfl) HM.out (some ad) k c (l.take k) (by rfl) ((HL.out wa1 HG.out).take (show k ≤ n by omega)) HA.out (by simp only [List.length_append, List.length_take, List.length_nil, List.length_singleton]; omega) HG.out.size ?_
            intro v4 wa2 hown hgrow _ _
            have hgn := HG.out.andThen hgrow (fun r e => .inl (own_fresh HM.out r e))
            have H6 := Lib.hid (H6.out.off hgrow (fun a e => by injection e with e; rw [← e]; intro e; injection e with e; exact NE6.out e))
            refine hK.out _ _ ?_ (fun hHeld => ?_)
            · exact hgn
            clear hK K hHeld
            have HM := Lib.hid hown
            have HG := Lib.hid hgn
            clear hown hgrow hgn
            try go_simp
            refine wpAnyH_ready (rs := [7]) (by kernel_rfl) (by simp) ?_
            refine AllReadyH.cons (o := _) rfl (fun K hK => ?_) AllReadyH.nil
            · refine step_append_strs rfl _ _ rfl w1.heap.size v4 (l.take k) (by rfl) HM.out (some ⟨b6, 0, none⟩) 1 1 [s] (by rfl) H6.out (by intro h; cases h) (by simp only [List.length_append, List.length_take, List.length_nil, List.length_singleton]; omega) HG.out.size ?_
              intro v7 wa3 hown hgrow _ _
              have hgn := HG.out.andThen hgrow (fun r e => .inl (own_fresh HM.out r e))
              refine hK.out _ _ ?_ (fun hHeld => ?_)
              · exact hgn
              clear hK K hHeld
              have HM := Lib.hid hown
              have HG := Lib.hid hgn
              clear hown hgrow hgn
              try go_simp
              refine wpAnyH_ready (rs := [11]) (by kernel_rfl) (by simp) ?_
              refine AllReadyH.cons (o := _) rfl (fun K hK => ?_) AllReadyH.nil
              · refine step_append_strs rfl _ _ rfl w1.heap.size v7 (l.take k ++ [s]) (by rfl) HM.out (some (ad.add k)) (n - k) (c - k) (l.drop k) (by rfl) (by have := (HL.out wa3 HG.out).drop (show k ≤ n by omega); rwa [if_neg hck] at this) (by intro h; cases h) (by simp only [List.length_append, List.length_take, List.length_nil, List.length_singleton]; omega) HG.out.size ?_
                intro v11 wa4 hown hgrow _ _
                have hgn := HG.out.andThen hgrow (fun r e => .inl (own_fresh HM.out r e))
                refine hK.out _ _ ?_ (fun hHeld => ?_)
                · exact hgn
                clear hK K hHeld
                have HM := Lib.hid hown
                have HG := Lib.hid hgn
                clear hown hgrow hgn
                try go_simp
                refine wpAnyH_take (i := 12) (oi := _) (v := ?_) rfl (by kernel_rfl) (by kernel_rfl) (by kernel_rfl) (fun _ _ _ h => h) (Or.inl ⟨by rfl, ?_⟩) (by assumption) ?_
                rotate_left 1
                · (intro w hSw; (try dsimp only at hSw); go_simp; first | done | with_reducible rfl)
                try go_simp
                refine wpAnyH_done (by kernel_rfl) ?_ _
                refine NoPanic.normal ?_
                go_simp
                have HM2 : Hid (wa4.ownsRow w1.heap.size 9 1 v11 (putL l s).length ((putL l s).map fun s => .string ⟨s.toArray⟩)) := Lib.hid (by rw [HPL.out]; exact HM.out)
                obtain ⟨A9, c9, rfl, hs9, ha9⟩ := own_strs' HM2.out (fun y hy => by
                  rw [HPL.out] at hy
                  rcases List.mem_append.1 hy with h | h
                  · rcases List.mem_append.1 h with h | h
                    · exact (HL.out w1 (World.grownBy.refl _ _)).sl y (List.mem_of_mem_take h)
                    · rw [List.mem_singleton] at h; rw [h]; exact Hs.out
                  · exact (HL.out w1 (World.grownBy.refl _ _)).sl y (List.mem_of_mem_drop h))
                have HS9 := Lib.hid hs9
                have HA9 := Lib.hid ha9
                clear hs9 ha9 HM2 HM
                try clear H6
                go_wp2_with fail
                go_ret
                exact ⟨_, _, _, rfl, HS9.out, HA9.out, G1.out.trans HG.out⟩
  · obtain rfl : k = n := by omega
    have hk' : decide ((k : Int) < (k : Int)) = false := by simp
    have hno : l[k]? = none := List.getElem?_eq_none (Nat.le_of_eq HLN.out.symm)
    rw [hno, if_neg (by simp)] at HPL
    have hkc : (k : Int) ≤ (c : Int) := by omega
    by_cases hck : c = k
    · subst hck
      go_upto_region 4 with fail
      refine wp_region_noPanic ?_
      refine wp_region_held_drew (S := (fun w' => w1.grownBy w' none)) (by kernel_rfl) ?_ (fun hHeld => ?_)
      · (try dsimp only); (repeat (first | assumption | exact World.grownBy.refl _ _ | refine grown_drR ?_ | refine grown_alR ?_))
      refine wpAnyH_take (i := 1) (oi := _) (v := ?_) rfl (by kernel_rfl) (by kernel_rfl) (by kernel_rfl) (fun _ _ _ h => h) (Or.inl ⟨by rfl, ?_⟩) (by assumption) ?_
      rotate_left 1
      · (intro w hSw; (try dsimp only at hSw); go_simp; first | done | with_reducible rfl)
      try go_simp
      refine wpAnyH_take (i := 2) (oi := _) (v := ?_) rfl (by kernel_rfl) (by kernel_rfl) (by kernel_rfl) (fun _ _ _ h => h) (Or.inl ⟨by rfl, ?_⟩) (by assumption) ?_
      rotate_left 1
      · (intro w hSw; (try dsimp only at hSw); go_simp; first | done | with_reducible rfl)
      try go_simp
      refine wpAnyH_take (i := 3) (oi := _) (v := ?_) rfl (by kernel_rfl) (by kernel_rfl) (by kernel_rfl) (fun _ _ _ h => h) (Or.inl ⟨by rfl, ?_⟩) (by assumption) ?_
      rotate_left 1
      · (intro w hSw; (try dsimp only at hSw); go_simp; first | done | with_reducible rfl)
      try go_simp
      refine wpAnyH_take (i := 5) (oi := _) (v := ?_) rfl (by kernel_rfl) (by kernel_rfl) (by kernel_rfl) (fun _ _ _ h => h) (Or.inl ⟨by rfl, ?_⟩) (by assumption) ?_
      rotate_left 1
      · (intro w hSw; (try dsimp only at hSw); go_simp; first | done | with_reducible rfl)
      try go_simp
      refine wpAnyH_take (i := 8) (oi := _) (v := ?_) rfl (by kernel_rfl) (by kernel_rfl) (by kernel_rfl) (fun _ _ _ h => h) (Or.inl ⟨by rfl, ?_⟩) (by assumption) ?_
      rotate_left 1
      · (intro w hSw; (try dsimp only at hSw); go_simp; first | done | with_reducible rfl)
      try go_simp
      refine wpAnyH_take (i := 9) (oi := _) (v := ?_) rfl (by kernel_rfl) (by kernel_rfl) (by kernel_rfl) (fun _ _ _ h => h) (Or.inl ⟨by rfl, ?_⟩) (by assumption) ?_
      rotate_left 1
      · (intro w hSw; (try dsimp only at hSw); go_simp; first | done | with_reducible rfl)
      try go_simp
      refine wpAnyH_take (i := 10) (oi := _) (v := ?_) rfl (by kernel_rfl) (by kernel_rfl) (by kernel_rfl) (fun _ _ _ h => h) (Or.inl ⟨by rfl, ?_⟩) (by assumption) ?_
      rotate_left 1
      · (intro w hSw; (try dsimp only at hSw); go_simp; first | done | with_reducible rfl)
      try go_simp
      have HG : Hid (w1.grownBy w1.drew none) := Lib.hid (grown_dr (World.grownBy.refl _ _))
      clear hHeld
      generalize w1.drew = wd0 at *
      refine wpAnyH_ready (rs := [0, 6]) (by kernel_rfl) (by simp) ?_
      refine AllReadyH.cons (o := _) rfl (fun K hK => ?_) ?_
      · go_simp
        first | (refine hK.out _ _ ?_ (fun hHeld => ?_)) | (go_wp2_with fail; refine hK.out _ _ ?_ (fun hHeld => ?_))
        · (try dsimp only); (repeat (first | assumption | exact World.grownBy.refl _ _ | refine grown_drR ?_ | refine grown_alR ?_))
        clear hK K hHeld
        have HM := Lib.hid (World.ownsRow_made (base := w1.heap.size) (e := 9) (size := 1) wd0 #[] 0 HG.out.size (by decide) rfl)
        obtain ⟨b0, hb0⟩ : ∃ b0, wd0.heap.size = b0 := ⟨_, rfl⟩
        have HB0 := Lib.hid hb0
        have HG := Lib.hid (HG.out.trans (World.grownBy_alloc wd0 (.cells #[] 9) none))
        have LS : Hid (b0 < (wd0.alloc (.cells #[] 9)).heap.size) := Lib.hid (by rw [World.size_alloc]; omega)
        rw [hb0] at HM ⊢
        clear hb0 HB0
        generalize wd0.alloc (.cells #[] 9) = wa0 at *
        refine wpAnyH_ready (rs := [4, 6]) (by kernel_rfl) (by simp) ?_
        refine AllReadyH.cons (o := _) rfl (fun K hK => ?_) ?_
        · refine step_append_strs rfl _ _ rfl w1.heap.size (.slice (some ⟨b0, 0, none⟩) 0 0) [] (by rfl) HM.out A c c (l.take c) (by rfl) ((HL.out wa0 HG.out).take (show c ≤ c by omega)) HA.out (by simp only [List.length_append, List.length_take, List.length_nil, List.length_singleton]; omega) HG.out.size ?_
          intro v4 wa1 hown hgrow _ _
          have hgn := HG.out.andThen hgrow (fun r e => .inl (own_fresh HM.out r e))
          refine hK.out _ _ ?_ (fun hHeld => ?_)
          · exact hgn
          clear hK K hHeld
          have HM := Lib.hid hown
          have HG := Lib.hid hgn
          clear hown hgrow hgn
          try go_simp
          refine wpAnyH_ready (rs := [6]) (by kernel_rfl) (by simp) ?_
          refine AllReadyH.cons (o := _) rfl (fun K hK => ?_) AllReadyH.nil
          · go_simp
            first | (refine hK.out _ _ ?_ (fun hHeld => ?_)) | (go_wp2_with fail; refine hK.out _ _ ?_ (fun hHeld => ?_))
            · (try dsimp only); (repeat (first | assumption | exact World.grownBy.refl _ _ | refine grown_drR ?_ | refine grown_alR ?_))
            clear hK K hHeld
            have H6 := Lib.hid (new_one wa1 s Hs.out)
            obtain ⟨b6, hb6⟩ : ∃ b6, wa1.heap.size = b6 := ⟨_, rfl⟩
            have HM := Lib.hid (HM.out.alloc (.cells #[.string ⟨s.toArray⟩] 9))
            have HG := Lib.hid (HG.out.trans (World.grownBy_alloc wa1 (.cells #[.string ⟨s.toArray⟩] 9) none))
            have L6 : Hid (b6 < (wa1.alloc (.cells #[.string ⟨s.toArray⟩] 9)).heap.size) := Lib.hid (by rw [World.size_alloc]; omega)
            rw [hb6] at H6 ⊢
            clear hb6
            generalize wa1.alloc (.cells #[.string ⟨s.toArray⟩] 9) = wa2 at *
            refine wpAnyH_ready (rs := [7]) (by kernel_rfl) (by simp) ?_
            refine AllReadyH.cons (o := _) rfl (fun K hK => ?_) AllReadyH.nil
            · refine step_append_strs rfl _ _ rfl w1.heap.size v4 (l.take c) (by rfl) HM.out (some ⟨b6, 0, none⟩) 1 1 [s] (by rfl) H6.out (by intro h; cases h) (by simp only [List.length_append, List.length_take, List.length_nil, List.length_singleton]; omega) HG.out.size ?_
              intro v7 wa3 hown hgrow _ _
              have hgn := HG.out.andThen hgrow (fun r e => .inl (own_fresh HM.out r e))
              refine hK.out _ _ ?_ (fun hHeld => ?_)
              · exact hgn
              clear hK K hHeld
              have HM := Lib.hid hown
              have HG := Lib.hid hgn
              clear hown hgrow hgn
              try go_simp
              refine wpAnyH_ready (rs := [11]) (by kernel_rfl) (by simp) ?_
              refine AllReadyH.cons (o := _) rfl (fun K hK => ?_) AllReadyH.nil
              · refine step_append_strs rfl _ _ rfl w1.heap.size v7 (l.take c ++ [s]) (by rfl) HM.out A 0 0 (l.drop c) (by rfl) (by have := (HL.out wa3 HG.out).drop (Nat.le_refl c); rwa [if_pos rfl, Nat.sub_self] at this) (fun _ => rfl) (by simp only [List.length_append, List.length_take, List.length_nil, List.length_singleton]; omega) HG.out.size ?_
                intro v11 wa4 hown hgrow _ _
                have hgn := HG.out.andThen hgrow (fun r e => .inl (own_fresh HM.out r e))
                refine hK.out _ _ ?_ (fun hHeld => ?_)
                · exact hgn
                clear hK K hHeld
                have HM := Lib.hid hown
                have HG := Lib.hid hgn
                clear hown hgrow hgn
                try go_simp
                refine wpAnyH_take (i := 12) (oi := _) (v := ?_) rfl (by kernel_rfl) (by kernel_rfl) (by kernel_rfl) (fun _ _ _ h => h) (Or.inl ⟨by rfl, ?_⟩) (by assumption) ?_
                rotate_left 1
                · (intro w hSw; (try dsimp only at hSw); go_simp; first | done | with_reducible rfl)
                try go_simp
                refine wpAnyH_done (by kernel_rfl) ?_ _
                refine NoPanic.normal ?_
                go_simp
                have HM2 : Hid (wa4.ownsRow w1.heap.size 9 1 v11 (putL l s).length ((putL l s).map fun s => .string ⟨s.toArray⟩)) := Lib.hid (by rw [HPL.out]; exact HM.out)
                obtain ⟨A9, c9, rfl, hs9, ha9⟩ := own_strs' HM2.out (fun y hy => by
                  rw [HPL.out] at hy
                  rcases List.mem_append.1 hy with h | h
                  · rcases List.mem_append.1 h with h | h
                    · exact (HL.out w1 (World.grownBy.refl _ _)).sl y (List.mem_of_mem_take h)
                    · rw [List.mem_singleton] at h; rw [h]; exact Hs.out
                  · exact (HL.out w1 (World.grownBy.refl _ _)).sl y (List.mem_of_mem_drop h))
                have HS9 := Lib.hid hs9
                have HA9 := Lib.hid ha9
                clear hs9 ha9 HM2 HM
                try clear H6
                go_wp2_with fail
                go_ret
                exact ⟨_, _, _, rfl, HS9.out, HA9.out, G1.out.trans HG.out⟩
        refine AllReadyH.cons (o := _) rfl (fun K hK => ?_) AllReadyH.nil
        · go_simp
          first | (refine hK.out _ _ ?_ (fun hHeld => ?_)) | (go_wp2_with fail; refine hK.out _ _ ?_ (fun hHeld => ?_))
          · (try dsimp only); (repeat (first | assumption | exact World.grownBy.refl _ _ | refine grown_drR ?_ | refine grown_alR ?_))
          clear hK K hHeld
          have H6 := Lib.hid (new_one wa0 s Hs.out)
          obtain ⟨b6, hb6⟩ : ∃ b6, wa0.heap.size = b6 := ⟨_, rfl⟩
          have HM := Lib.hid (HM.out.alloc (.cells #[.string ⟨s.toArray⟩] 9))
          have NE6 : Hid (b6 ≠ b0) := Lib.hid (by have := LS.out; omega)
          have HG := Lib.hid (HG.out.trans (World.grownBy_alloc wa0 (.cells #[.string ⟨s.toArray⟩] 9) none))
          have L6 : Hid (b6 < (wa0.alloc (.cells #[.string ⟨s.toArray⟩] 9)).heap.size) := Lib.hid (by rw [World.size_alloc]; omega)
          rw [hb6] at H6 ⊢
          clear hb6
          generalize wa0.alloc (.cells #[.string ⟨s.toArray⟩] 9) = wa1 at *
          refine wpAnyH_ready (rs := [4]) (by kernel_rfl) (by simp) ?_
          refine AllReadyH.cons (o := _) rfl (fun K hK => ?_) AllReadyH.nil
          · refine step_append_strs rfl _ _ rfl w1.heap.size (.slice (some ⟨b0, 0, none⟩) 0 0) [] (by rfl) HM.out A c c (l.take c) (by rfl) ((HL.out wa1 HG.out).take (show c ≤ c by omega)) HA.out (by simp only [List.length_append, List.length_take, List.length_nil, List.length_singleton]; omega) HG.out.size ?_
            intro v4 wa2 hown hgrow _ _
            have hgn := HG.out.andThen hgrow (fun r e => .inl (own_fresh HM.out r e))
            have H6 := Lib.hid (H6.out.off hgrow (fun a e => by injection e with e; rw [← e]; intro e; injection e with e; exact NE6.out e))
            refine hK.out _ _ ?_ (fun hHeld => ?_)
            · exact hgn
            clear hK K hHeld
            have HM := Lib.hid hown
            have HG := Lib.hid hgn
            clear hown hgrow hgn
            try go_simp
            refine wpAnyH_ready (rs := [7]) (by kernel_rfl) (by simp) ?_
            refine AllReadyH.cons (o := _) rfl (fun K hK => ?_) AllReadyH.nil
            · refine step_append_strs rfl _ _ rfl w1.heap.size v4 (l.take c) (by rfl) HM.out (some ⟨b6, 0, none⟩) 1 1 [s] (by rfl) H6.out (by intro h; cases h) (by simp only [List.length_append, List.length_take, List.length_nil, List.length_singleton]; omega) HG.out.size ?_
              intro v7 wa3 hown hgrow _ _
              have hgn := HG.out.andThen hgrow (fun r e => .inl (own_fresh HM.out r e))
              refine hK.out _ _ ?_ (fun hHeld => ?_)
              · exact hgn
              clear hK K hHeld
              have HM := Lib.hid hown
              have HG := Lib.hid hgn
              clear hown hgrow hgn
              try go_simp
              refine wpAnyH_ready (rs := [11]) (by kernel_rfl) (by simp) ?_
              refine AllReadyH.cons (o := _) rfl (fun K hK => ?_) AllReadyH.nil
              · refine step_append_strs rfl _ _ rfl w1.heap.size v7 (l.take c ++ [s]) (by rfl) HM.out A 0 0 (l.drop c) (by rfl) (by have := (HL.out wa3 HG.out).drop (Nat.le_refl c); rwa [if_pos rfl, Nat.sub_self] at this) (fun _ => rfl) (by simp only [List.length_append, List.length_take, List.length_nil, List.length_singleton]; omega) HG.out.size ?_
                intro v11 wa4 hown hgrow _ _
                have hgn := HG.out.andThen hgrow (fun r e => .inl (own_fresh HM.out r e))
                refine hK.out _ _ ?_ (fun hHeld => ?_)
                · exact hgn
                clear hK K hHeld
                have HM := Lib.hid hown
                have HG := Lib.hid hgn
                clear hown hgrow hgn
                try go_simp
                refine wpAnyH_take (i := 12) (oi := _) (v := ?_) rfl (by kernel_rfl) (by kernel_rfl) (by kernel_rfl) (fun _ _ _ h => h) (Or.inl ⟨by rfl, ?_⟩) (by assumption) ?_
                rotate_left 1
                · (intro w hSw; (try dsimp only at hSw); go_simp; first | done | with_reducible rfl)
                try go_simp
                refine wpAnyH_done (by kernel_rfl) ?_ _
                refine NoPanic.normal ?_
                go_simp
                have HM2 : Hid (wa4.ownsRow w1.heap.size 9 1 v11 (putL l s).length ((putL l s).map fun s => .string ⟨s.toArray⟩)) := Lib.hid (by rw [HPL.out]; exact HM.out)
                obtain ⟨A9, c9, rfl, hs9, ha9⟩ := own_strs' HM2.out (fun y hy => by
                  rw [HPL.out] at hy
                  rcases List.mem_append.1 hy with h | h
                  · rcases List.mem_append.1 h with h | h
                    · exact (HL.out w1 (World.grownBy.refl _ _)).sl y (List.mem_of_mem_take h)
                    · rw [List.mem_singleton] at h; rw [h]; exact Hs.out
                  · exact (HL.out w1 (World.grownBy.refl _ _)).sl y (List.mem_of_mem_drop h))
                have HS9 := Lib.hid hs9
                have HA9 := Lib.hid ha9
                clear hs9 ha9 HM2 HM
                try clear H6
                go_wp2_with fail
                go_ret
                exact ⟨_, _, _, rfl, HS9.out, HA9.out, G1.out.trans HG.out⟩
      refine AllReadyH.cons (o := _) rfl (fun K hK => ?_) AllReadyH.nil
      · go_simp
        first | (refine hK.out _ _ ?_ (fun hHeld => ?_)) | (go_wp2_with fail; refine hK.out _ _ ?_ (fun hHeld => ?_))
        · (try dsimp only); (repeat (first | assumption | exact World.grownBy.refl _ _ | refine grown_drR ?_ | refine grown_alR ?_))
        clear hK K hHeld
        have H6 := Lib.hid (new_one wd0 s Hs.out)
        obtain ⟨b6, hb6⟩ : ∃ b6, wd0.heap.size = b6 := ⟨_, rfl⟩
        have HG := Lib.hid (HG.out.trans (World.grownBy_alloc wd0 (.cells #[.string ⟨s.toArray⟩] 9) none))
        have L6 : Hid (b6 < (wd0.alloc (.cells #[.string ⟨s.toArray⟩] 9)).heap.size) := Lib.hid (by rw [World.size_alloc]; omega)
        rw [hb6] at H6 ⊢
        clear hb6
        generalize wd0.alloc (.cells #[.string ⟨s.toArray⟩] 9) = wa0 at *
        refine wpAnyH_ready (rs := [0]) (by kernel_rfl) (by simp) ?_
        refine AllReadyH.cons (o := _) rfl (fun K hK => ?_) AllReadyH.nil
        · go_simp
          first | (refine hK.out _ _ ?_ (fun hHeld => ?_)) | (go_wp2_with fail; refine hK.out _ _ ?_ (fun hHeld => ?_))
          · (try dsimp only); (repeat (first | assumption | exact World.grownBy.refl _ _ | refine grown_drR ?_ | refine grown_alR ?_))
          clear hK K hHeld
          have HM := Lib.hid (World.ownsRow_made (base := w1.heap.size) (e := 9) (size := 1) wa0 #[] 0 HG.out.size (by decide) rfl)
          obtain ⟨b0, hb0⟩ : ∃ b0, wa0.heap.size = b0 := ⟨_, rfl⟩
          have HB0 := Lib.hid hb0
          have H6 := Lib.hid (H6.out.kept (World.grownBy_alloc wa0 (.cells #[] 9) none))
          have NE6 : Hid (b6 ≠ b0) := Lib.hid (by have := L6.out; omega)
          have HG := Lib.hid (HG.out.trans (World.grownBy_alloc wa0 (.cells #[] 9) none))
          have LS : Hid (b0 < (wa0.alloc (.cells #[] 9)).heap.size) := Lib.hid (by rw [World.size_alloc]; omega)
          rw [hb0] at HM ⊢
          clear hb0 HB0
          generalize wa0.alloc (.cells #[] 9) = wa1 at *
          refine wpAnyH_ready (rs := [4]) (by kernel_rfl) (by simp) ?_
          refine AllReadyH.cons (o := _) rfl (fun K hK => ?_) AllReadyH.nil
          · refine step_append_strs rfl _ _ rfl w1.heap.size (.slice (some ⟨b0, 0, none⟩) 0 0) [] (by rfl) HM.out A c c (l.take c) (by rfl) ((HL.out wa1 HG.out).take (show c ≤ c by omega)) HA.out (by simp only [List.length_append, List.length_take, List.length_nil, List.length_singleton]; omega) HG.out.size ?_
            intro v4 wa2 hown hgrow _ _
            have hgn := HG.out.andThen hgrow (fun r e => .inl (own_fresh HM.out r e))
            have H6 := Lib.hid (H6.out.off hgrow (fun a e => by injection e with e; rw [← e]; intro e; injection e with e; exact NE6.out e))
            refine hK.out _ _ ?_ (fun hHeld => ?_)
            · exact hgn
            clear hK K hHeld
            have HM := Lib.hid hown
            have HG := Lib.hid hgn
            clear hown hgrow hgn
            try go_simp
            refine wpAnyH_ready (rs := [7]) (by kernel_rfl) (by simp) ?_
            refine AllReadyH.cons (o := _) rfl (fun K hK => ?_) AllReadyH.nil
            · refine step_append_strs rfl _ _ rfl w1.heap.size v4 (l.take c) (by rfl) HM.out (some ⟨b6, 0, none⟩) 1 1 [s] (by rfl) H6.out (by intro h; cases h) (by simp only [List.length_append, List.length_take, List.length_nil, List.length_singleton]; omega) HG.out.size ?_
              intro v7 wa3 hown hgrow _ _
              have hgn := HG.out.andThen hgrow (fun r e => .inl (own_fresh HM.out r e))
              refine hK.out _ _ ?_ (fun hHeld => ?_)
              · exact hgn
              clear hK K hHeld
              have HM := Lib.hid hown
              have HG := Lib.hid hgn
              clear hown hgrow hgn
              try go_simp
              refine wpAnyH_ready (rs := [11]) (by kernel_rfl) (by simp) ?_
              refine AllReadyH.cons (o := _) rfl (fun K hK => ?_) AllReadyH.nil
              · refine step_append_strs rfl _ _ rfl w1.heap.size v7 (l.take c ++ [s]) (by rfl) HM.out A 0 0 (l.drop c) (by rfl) (by have := (HL.out wa3 HG.out).drop (Nat.le_refl c); rwa [if_pos rfl, Nat.sub_self] at this) (fun _ => rfl) (by simp only [List.length_append, List.length_take, List.length_nil, List.length_singleton]; omega) HG.out.size ?_
                intro v11 wa4 hown hgrow _ _
                have hgn := HG.out.andThen hgrow (fun r e => .inl (own_fresh HM.out r e))
                refine hK.out _ _ ?_ (fun hHeld => ?_)
                · exact hgn
                clear hK K hHeld
                have HM := Lib.hid hown
                have HG := Lib.hid hgn
                clear hown hgrow hgn
                try go_simp
                refine wpAnyH_take (i := 12) (oi := _) (v := ?_) rfl (by kernel_rfl) (by kernel_rfl) (by kernel_rfl) (fun _ _ _ h => h) (Or.inl ⟨by rfl, ?_⟩) (by assumption) ?_
                rotate_left 1
                · (intro w hSw; (try dsimp only at hSw); go_simp; first | done | with_reducible rfl)
                try go_simp
                refine wpAnyH_done (by kernel_rfl) ?_ _
                refine NoPanic.normal ?_
                go_simp
                have HM2 : Hid (wa4.ownsRow w1.heap.size 9 1 v11 (putL l s).length ((putL l s).map fun s => .string ⟨s.toArray⟩)) := Lib.hid (by rw [HPL.out]; exact HM.out)
                obtain ⟨A9, c9, rfl, hs9, ha9⟩ := own_strs' HM2.out (fun y hy => by
                  rw [HPL.out] at hy
                  rcases List.mem_append.1 hy with h | h
                  · rcases List.mem_append.1 h with h | h
                    · exact (HL.out w1 (World.grownBy.refl _ _)).sl y (List.mem_of_mem_take h)
                    · rw [List.mem_singleton] at h; rw [h]; exact Hs.out
                  · exact (HL.out w1 (World.grownBy.refl _ _)).sl y (List.mem_of_mem_drop h))
                have HS9 := Lib.hid hs9
                have HA9 := Lib.hid ha9
                clear hs9 ha9 HM2 HM
                try clear H6
                go_wp2_with fail
                go_ret
                exact ⟨_, _, _, rfl, HS9.out, HA9.out, G1.out.trans HG.out⟩
    · go_upto_region 4 with fail
      refine wp_region_noPanic ?_
      refine wp_region_held_drew (S := (fun w' => w1.grownBy w' none)) (by kernel_rfl) ?_ (fun hHeld => ?_)
      · (try dsimp only); (repeat (first | assumption | exact World.grownBy.refl _ _ | refine grown_drR ?_ | refine grown_alR ?_))
      refine wpAnyH_take (i := 1) (oi := _) (v := ?_) rfl (by kernel_rfl) (by kernel_rfl) (by kernel_rfl) (fun _ _ _ h => h) (Or.inl ⟨by rfl, ?_⟩) (by assumption) ?_
      rotate_left 1
      · (intro w hSw; (try dsimp only at hSw); go_simp; first | done | with_reducible rfl)
      try go_simp
      refine wpAnyH_take (i := 2) (oi := _) (v := ?_) rfl (by kernel_rfl) (by kernel_rfl) (by kernel_rfl) (fun _ _ _ h => h) (Or.inl ⟨by rfl, ?_⟩) (by assumption) ?_
      rotate_left 1
      · (intro w hSw; (try dsimp only at hSw); go_simp; first | done | with_reducible rfl)
      try go_simp
      refine wpAnyH_take (i := 3) (oi := _) (v := ?_) rfl (by kernel_rfl) (by kernel_rfl) (by kernel_rfl) (fun _ _ _ h => h) (Or.inl ⟨by rfl, ?_⟩) (by assumption) ?_
      rotate_left 1
      · (intro w hSw; (try dsimp only at hSw); go_simp; first | done | with_reducible rfl)
      try go_simp
      refine wpAnyH_take (i := 5) (oi := _) (v := ?_) rfl (by kernel_rfl) (by kernel_rfl) (by kernel_rfl) (fun _ _ _ h => h) (Or.inl ⟨by rfl, ?_⟩) (by assumption) ?_
      rotate_left 1
      · (intro w hSw; (try dsimp only at hSw); go_simp; first | done | with_reducible rfl)
      try go_simp
      refine wpAnyH_take (i := 8) (oi := _) (v := ?_) rfl (by kernel_rfl) (by kernel_rfl) (by kernel_rfl) (fun _ _ _ h => h) (Or.inl ⟨by rfl, ?_⟩) (by assumption) ?_
      rotate_left 1
      · (intro w hSw; (try dsimp only at hSw); go_simp; first | done | with_reducible rfl)
      try go_simp
      refine wpAnyH_take (i := 9) (oi := _) (v := ?_) rfl (by kernel_rfl) (by kernel_rfl) (by kernel_rfl) (fun _ _ _ h => h) (Or.inl ⟨by rfl, ?_⟩) (by assumption) ?_
      rotate_left 1
      · (intro w hSw; (try dsimp only at hSw); go_simp; first | done | with_reducible rfl)
      try go_simp
      refine wpAnyH_take (i := 10) (oi := _) (v := ?_) rfl (by kernel_rfl) (by kernel_rfl) (by kernel_rfl) (fun _ _ _ h => h) (Or.inl ⟨by rfl, ?_⟩) (by assumption) ?_
      rotate_left 1
      · (intro w hSw; (try dsimp only at hSw); go_simp; first | done | with_reducible rfl)
      try go_simp
      have HG : Hid (w1.grownBy w1.drew none) := Lib.hid (grown_dr (World.grownBy.refl _ _))
      clear hHeld
      generalize w1.drew = wd0 at *
      refine wpAnyH_ready (rs := [0, 6]) (by kernel_rfl) (by simp) ?_
      refine AllReadyH.cons (o := _) rfl (fun K hK => ?_) ?_
      · go_simp
        first | (refine hK.out _ _ ?_ (fun hHeld => ?_)) | (go_wp2_with fail; refine hK.out _ _ ?_ (fun hHeld => ?_))
        · (try dsimp only); (repeat (first | assumption | exact World.grownBy.refl _ _ | refine grown_drR ?_ | refine grown_alR ?_))
        clear hK K hHeld
        have HM := Lib.hid (World.ownsRow_made (base := w1.heap.size) (e := 9) (size := 1) wd0 #[] 0 HG.out.size (by decide) rfl)
        obtain ⟨b0, hb0⟩ : ∃ b0, wd0.heap.size = b0 := ⟨_, rfl⟩
        have HB0 := Lib.hid hb0
        have HG := Lib.hid (HG.out.trans (World.grownBy_alloc wd0 (.cells #[] 9) none))
        have LS : Hid (b0 < (wd0.alloc (.cells #[] 9)).heap.size) := Lib.hid (by rw [World.size_alloc]; omega)
        rw [hb0] at HM ⊢
        clear hb0 HB0
        generalize wd0.alloc (.cells #[] 9) = wa0 at *
        refine wpAnyH_ready (rs := [4, 6]) (by kernel_rfl) (by simp) ?_
        refine AllReadyH.cons (o := _) rfl (fun K hK => ?_) ?_
        · refine step_append_strs rfl _ _ rfl w1.heap.size (.slice (some ⟨b0, 0, none⟩) 0 0) [] (by rfl) HM.out A k c (l.take k) (by rfl) ((HL.out wa0 HG.out).take (show k ≤ k by omega)) HA.out (by simp only [List.length_append, List.length_take, List.length_nil, List.length_singleton]; omega) HG.out.size ?_
          intro v4 wa1 hown hgrow _ _
          have hgn := HG.out.andThen hgrow (fun r e => .inl (own_fresh HM.out r e))
          refine hK.out _ _ ?_ (fun hHeld => ?_)
          · exact hgn
          clear hK K hHeld
          have HM := Lib.hid hown
          have HG := Lib.hid hgn
          clear hown hgrow hgn
          try go_simp
          refine wpAnyH_ready (rs := [6]) (by kernel_rfl) (by simp) ?_
          refine AllReadyH.cons (o := _) rfl (fun K hK => ?_) AllReadyH.nil
          · go_simp
            first | (refine hK.out _ _ ?_ (fun hHeld => ?_)) | (go_wp2_with fail; refine hK.out _ _ ?_ (fun hHeld => ?_))
            · (try dsimp only); (repeat (first | assumption | exact World.grownBy.refl _ _ | refine grown_drR ?_ | refine grown_alR ?_))
            clear hK K hHeld
            have H6 := Lib.hid (new_one wa1 s Hs.out)
            obtain ⟨b6, hb6⟩ : ∃ b6, wa1.heap.size = b6 := ⟨_, rfl⟩
            have HM := Lib.hid (HM.out.alloc (.cells #[.string ⟨s.toArray⟩] 9))
            have HG := Lib.hid (HG.out.trans (World.grownBy_alloc wa1 (.cells #[.string ⟨s.toArray⟩] 9) none))
            have L6 : Hid (b6 < (wa1.alloc (.cells #[.string ⟨s.toArray⟩] 9)).heap.size) := Lib.hid (by rw [World.size_alloc]; omega)
            rw [hb6] at H6 ⊢
            clear hb6
            generalize wa1.alloc (.cells #[.string ⟨s.toArray⟩] 9) = wa2 at *
            refine wpAnyH_ready (rs := [7]) (by kernel_rfl) (by simp) ?_
            refine AllReadyH.cons (o := _) rfl (fun K hK => ?_) AllReadyH.nil
            · refine step_append_strs rfl _ _ rfl w1.heap.size v4 (l.take k) (by rfl) HM.out (some ⟨b6, 0, none⟩) 1 1 [s] (by rfl) H6.out (by intro h; cases h) (by simp only [List.length_append, List.length_take, List.length_nil, List.length_singleton]; omega) HG.out.size ?_
              intro v7 wa3 hown hgrow _ _
              have hgn := HG.out.andThen hgrow (fun r e => .inl (own_fresh HM.out r e))
              refine hK.out _ _ ?_ (fun hHeld => ?_)
              · exact hgn
              clear hK K hHeld
              have HM := Lib.hid hown
              have HG := Lib.hid hgn
              clear hown hgrow hgn
              try go_simp
              refine wpAnyH_ready (rs := [11]) (by kernel_rfl) (by simp) ?_
              refine AllReadyH.cons (o := _) rfl (fun K hK => ?_) AllReadyH.nil
              · refine step_append_strs rfl _ _ rfl w1.heap.size v7 (l.take k ++ [s]) (by rfl) HM.out (A.map fun a => a.add k) 0 (c - k) (l.drop k) (by rfl) (by have := (HL.out wa3 HG.out).drop (Nat.le_refl k); rwa [if_neg hck, Nat.sub_self] at this) (fun e => by cases A with
                  | none => have := HA.out rfl; omega
                  | some a => cases e) (by simp only [List.length_append, List.length_take, List.length_nil, List.length_singleton]; omega) HG.out.size ?_
                intro v11 wa4 hown hgrow _ _
                have hgn := HG.out.andThen hgrow (fun r e => .inl (own_fresh HM.out r e))
                refine hK.out _ _ ?_ (fun hHeld => ?_)
                · exact hgn
                clear hK K hHeld
                have HM := Lib.hid hown
                have HG := Lib.hid hgn
                clear hown hgrow hgn
                try go_simp
                refine wpAnyH_take (i := 12) (oi := _) (v := ?_) rfl (by kernel_rfl) (by kernel_rfl) (by kernel_rfl) (fun _ _ _ h => h) (Or.inl ⟨by rfl, ?_⟩) (by assumption) ?_
                rotate_left 1
                · (intro w hSw; (try dsimp only at hSw); go_simp; first | done | with_reducible rfl)
                try go_simp
                refine wpAnyH_done (by kernel_rfl) ?_ _
                refine NoPanic.normal ?_
                go_simp
                have HM2 : Hid (wa4.ownsRow w1.heap.size 9 1 v11 (putL l s).length ((putL l s).map fun s => .string ⟨s.toArray⟩)) := Lib.hid (by rw [HPL.out]; exact HM.out)
                obtain ⟨A9, c9, rfl, hs9, ha9⟩ := own_strs' HM2.out (fun y hy => by
                  rw [HPL.out] at hy
                  rcases List.mem_append.1 hy with h | h
                  · rcases List.mem_append.1 h with h | h
                    · exact (HL.out w1 (World.grownBy.refl _ _)).sl y (List.mem_of_mem_take h)
                    · rw [List.mem_singleton] at h; rw [h]; exact Hs.out
                  · exact (HL.out w1 (World.grownBy.refl _ _)).sl y (List.mem_of_mem_drop h))
                have HS9 := Lib.hid hs9
                have HA9 := Lib.hid ha9
                clear hs9 ha9 HM2 HM
                try clear H6
                go_wp2_with fail
                go_ret
                exact ⟨_, _, _, rfl, HS9.out, HA9.out, G1.out.trans HG.out⟩
        refine AllReadyH.cons (o := _) rfl (fun K hK => ?_) AllReadyH.nil
        · go_simp
          first | (refine hK.out _ _ ?_ (fun hHeld => ?_)) | (go_wp2_with fail; refine hK.out _ _ ?_ (fun hHeld => ?_))
          · (try dsimp only); (repeat (first | assumption | exact World.grownBy.refl _ _ | refine grown_drR ?_ | refine grown_alR ?_))
          clear hK K hHeld
          have H6 := Lib.hid (new_one wa0 s Hs.out)
          obtain ⟨b6, hb6⟩ : ∃ b6, wa0.heap.size = b6 := ⟨_, rfl⟩
          have HM := Lib.hid (HM.out.alloc (.cells #[.string ⟨s.toArray⟩] 9))
          have NE6 : Hid (b6 ≠ b0) := Lib.hid (by have := LS.out; omega)
          have HG := Lib.hid (HG.out.trans (World.grownBy_alloc wa0 (.cells #[.string ⟨s.toArray⟩] 9) none))
          have L6 : Hid (b6 < (wa0.alloc (.cells #[.string ⟨s.toArray⟩] 9)).heap.size) := Lib.hid (by rw [World.size_alloc]; omega)
          rw [hb6] at H6 ⊢
          clear hb6
          generalize wa0.alloc (.cells #[.string ⟨s.toArray⟩] 9) = wa1 at *
          refine wpAnyH_ready (rs := [4]) (by kernel_rfl) (by simp) ?_
          refine AllReadyH.cons (o := _) rfl (fun K hK => ?_) AllReadyH.nil
          · refine step_append_strs rfl _ _ rfl w1.heap.size (.slice (some ⟨b0, 0, none⟩) 0 0) [] (by rfl) HM.out A k c (l.take k) (by rfl) ((HL.out wa1 HG.out).take (show k ≤ k by omega)) HA.out (by simp only [List.length_append, List.length_take, List.length_nil, List.length_singleton]; omega) HG.out.size ?_
            intro v4 wa2 hown hgrow _ _
            have hgn := HG.out.andThen hgrow (fun r e => .inl (own_fresh HM.out r e))
            have H6 := Lib.hid (H6.out.off hgrow (fun a e => by injection e with e; rw [← e]; intro e; injection e with e; exact NE6.out e))
            refine hK.out _ _ ?_ (fun hHeld => ?_)
            · exact hgn
            clear hK K hHeld
            have HM := Lib.hid hown
            have HG := Lib.hid hgn
            clear hown hgrow hgn
            try go_simp
            refine wpAnyH_ready (rs := [7]) (by kernel_rfl) (by simp) ?_
            refine AllReadyH.cons (o := _) rfl (fun K hK => ?_) AllReadyH.nil
            · refine step_append_strs rfl _ _ rfl w1.heap.size v4 (l.take k) (by rfl) HM.out (some ⟨b6, 0, none⟩) 1 1 [s] (by rfl) H6.out (by intro h; cases h) (by simp only [List.length_append, List.length_take, List.length_nil, List.length_singleton]; omega) HG.out.size ?_
              intro v7 wa3 hown hgrow _ _
              have hgn := HG.out.andThen hgrow (fun r e => .inl (own_fresh HM.out r e))
              refine hK.out _ _ ?_ (fun hHeld => ?_)
              · exact hgn
              clear hK K hHeld
              have HM := Lib.hid hown
              have HG := Lib.hid hgn
              clear hown hgrow hgn
              try go_simp
              refine wpAnyH_ready (rs := [11]) (by kernel_rfl) (by simp) ?_
              refine AllReadyH.cons (o := _) rfl (fun K hK => ?_) AllReadyH.nil
              · refine step_append_strs rfl _ _ rfl w1.heap.size v7 (l.take k ++ [s]) (by rfl) HM.out (A.map fun a => a.add k) 0 (c - k) (l.drop k) (by rfl) (by have := (HL.out wa3 HG.out).drop (Nat.le_refl k); rwa [if_neg hck, Nat.sub_self] at this) (fun e => by cases A with
                  | none => have := HA.out rfl; omega
                  | some a => cases e) (by simp only [List.length_append, List.length_take, List.length_nil, List.length_singleton]; omega) HG.out.size ?_
                intro v11 wa4 hown hgrow _ _
                have hgn := HG.out.andThen hgrow (fun r e => .inl (own_fresh HM.out r e))
                refine hK.out _ _ ?_ (fun hHeld => ?_)
                · exact hgn
                clear hK K hHeld
                have HM := Lib.hid hown
                have HG := Lib.hid hgn
                clear hown hgrow hgn
                try go_simp
                refine wpAnyH_take (i := 12) (oi := _) (v := ?_) rfl (by kernel_rfl) (by kernel_rfl) (by kernel_rfl) (fun _ _ _ h => h) (Or.inl ⟨by rfl, ?_⟩) (by assumption) ?_
                rotate_left 1
                · (intro w hSw; (try dsimp only at hSw); go_simp; first | done | with_reducible rfl)
                try go_simp
                refine wpAnyH_done (by kernel_rfl) ?_ _
                refine NoPanic.normal ?_
                go_simp
                have HM2 : Hid (wa4.ownsRow w1.heap.size 9 1 v11 (putL l s).length ((putL l s).map fun s => .string ⟨s.toArray⟩)) := Lib.hid (by rw [HPL.out]; exact HM.out)
                obtain ⟨A9, c9, rfl, hs9, ha9⟩ := own_strs' HM2.out (fun y hy => by
                  rw [HPL.out] at hy
                  rcases List.mem_append.1 hy with h | h
                  · rcases List.mem_append.1 h with h | h
                    · exact (HL.out w1 (World.grownBy.refl _ _)).sl y (List.mem_of_mem_take h)
                    · rw [List.mem_singleton] at h; rw [h]; exact Hs.out
                  · exact (HL.out w1 (World.grownBy.refl _ _)).sl y (List.mem_of_mem_drop h))
                have HS9 := Lib.hid hs9
                have HA9 := Lib.hid ha9
                clear hs9 ha9 HM2 HM
                try clear H6
                go_wp2_with fail
                go_ret
                exact ⟨_, _, _, rfl, HS9.out, HA9.out, G1.out.trans HG.out⟩
      refine AllReadyH.cons (o := _) rfl (fun K hK => ?_) AllReadyH.nil
      · go_simp
        first | (refine hK.out _ _ ?_ (fun hHeld => ?_)) | (go_wp2_with fail; refine hK.out _ _ ?_ (fun hHeld => ?_))
        · (try dsimp only); (repeat (first | assumption | exact World.grownBy.refl _ _ | refine grown_drR ?_ | refine grown_alR ?_))
        clear hK K hHeld
        have H6 := Lib.hid (new_one wd0 s Hs.out)
        obtain ⟨b6, hb6⟩ : ∃ b6, wd0.heap.size = b6 := ⟨_, rfl⟩
        have HG := Lib.hid (HG.out.trans (World.grownBy_alloc wd0 (.cells #[.string ⟨s.toArray⟩] 9) none))
        have L6 : Hid (b6 < (wd0.alloc (.cells #[.string ⟨s.toArray⟩] 9)).heap.size) := Lib.hid (by rw [World.size_alloc]; omega)
        rw [hb6] at H6 ⊢
        clear hb6
        generalize wd0.alloc (.cells #[.string ⟨s.toArray⟩] 9) = wa0 at *
        refine wpAnyH_ready (rs := [0]) (by kernel_rfl) (by simp) ?_
        refine AllReadyH.cons (o := _) rfl (fun K hK => ?_) AllReadyH.nil
        · go_simp
          first | (refine hK.out _ _ ?_ (fun hHeld => ?_)) | (go_wp2_with fail; refine hK.out _ _ ?_ (fun hHeld => ?_))
          · (try dsimp only); (repeat (first | assumption | exact World.grownBy.refl _ _ | refine grown_drR ?_ | refine grown_alR ?_))
          clear hK K hHeld
          have HM := Lib.hid (World.ownsRow_made (base := w1.heap.size) (e := 9) (size := 1) wa0 #[] 0 HG.out.size (by decide) rfl)
          obtain ⟨b0, hb0⟩ : ∃ b0, wa0.heap.size = b0 := ⟨_, rfl⟩
          have HB0 := Lib.hid hb0
          have H6 := Lib.hid (H6.out.kept (World.grownBy_alloc wa0 (.cells #[] 9) none))
          have NE6 : Hid (b6 ≠ b0) := Lib.hid (by have := L6.out; omega)
          have HG := Lib.hid (HG.out.trans (World.grownBy_alloc wa0 (.cells #[] 9) none))
          have LS : Hid (b0 < (wa0.alloc (.cells #[] 9)).heap.size) := Lib.hid (by rw [World.size_alloc]; omega)
          rw [hb0] at HM ⊢
          clear hb0 HB0
          generalize wa0.alloc (.cells #[] 9) = wa1 at *
          refine wpAnyH_ready (rs := [4]) (by kernel_rfl) (by simp) ?_
          refine AllReadyH.cons (o := _) rfl (fun K hK => ?_) AllReadyH.nil
          · refine step_append_strs rfl _ _ rfl w1.heap.size (.slice (some ⟨b0, 0, none⟩) 0 0) [] (by rfl) HM.out A k c (l.take k) (by rfl) ((HL.out wa1 HG.out).take (show k ≤ k by omega)) HA.out (by simp only [List.length_append, List.length_take, List.length_nil, List.length_singleton]; omega) HG.out.size ?_
            intro v4 wa2 hown hgrow _ _
            have hgn := HG.out.andThen hgrow (fun r e => .inl (own_fresh HM.out r e))
            have H6 := Lib.hid (H6.out.off hgrow (fun a e => by injection e with e; rw [← e]; intro e; injection e with e; exact NE6.out e))
            refine hK.out _ _ ?_ (fun hHeld => ?_)
            · exact hgn
            clear hK K hHeld
            have HM := Lib.hid hown
            have HG := Lib.hid hgn
            clear hown hgrow hgn
            try go_simp
            refine wpAnyH_ready (rs := [7]) (by kernel_rfl) (by simp) ?_
            refine AllReadyH.cons (o := _) rfl (fun K hK => ?_) AllReadyH.nil
            · refine step_append_strs rfl _ _ rfl w1.heap.size v4 (l.take k) (by rfl) HM.out (some ⟨b6, 0, none⟩) 1 1 [s] (by rfl) H6.out (by intro h; cases h) (by simp only [List.length_append, List.length_take, List.length_nil, List.length_singleton]; omega) HG.out.size ?_
              intro v7 wa3 hown hgrow _ _
              have hgn := HG.out.andThen hgrow (fun r e => .inl (own_fresh HM.out r e))
              refine hK.out _ _ ?_ (fun hHeld => ?_)
              · exact hgn
              clear hK K hHeld
              have HM := Lib.hid hown
              have HG := Lib.hid hgn
              clear hown hgrow hgn
              try go_simp
              refine wpAnyH_ready (rs := [11]) (by kernel_rfl) (by simp) ?_
              refine AllReadyH.cons (o := _) rfl (fun K hK => ?_) AllReadyH.nil
              · refine step_append_strs rfl _ _ rfl w1.heap.size v7 (l.take k ++ [s]) (by rfl) HM.out (A.map fun a => a.add k) 0 (c - k) (l.drop k) (by rfl) (by have := (HL.out wa3 HG.out).drop (Nat.le_refl k); rwa [if_neg hck, Nat.sub_self] at this) (fun e => by cases A with
                  | none => have := HA.out rfl; omega
                  | some a => cases e) (by simp only [List.length_append, List.length_take, List.length_nil, List.length_singleton]; omega) HG.out.size ?_
                intro v11 wa4 hown hgrow _ _
                have hgn := HG.out.andThen hgrow (fun r e => .inl (own_fresh HM.out r e))
                refine hK.out _ _ ?_ (fun hHeld => ?_)
                · exact hgn
                clear hK K hHeld
                have HM := Lib.hid hown
                have HG := Lib.hid hgn
                clear hown hgrow hgn
                try go_simp
                refine wpAnyH_take (i := 12) (oi := _) (v := ?_) rfl (by kernel_rfl) (by kernel_rfl) (by kernel_rfl) (fun _ _ _ h => h) (Or.inl ⟨by rfl, ?_⟩) (by assumption) ?_
                rotate_left 1
                · (intro w hSw; (try dsimp only at hSw); go_simp; first | done | with_reducible rfl)
                try go_simp
                refine wpAnyH_done (by kernel_rfl) ?_ _
                refine NoPanic.normal ?_
                go_simp
                have HM2 : Hid (wa4.ownsRow w1.heap.size 9 1 v11 (putL l s).length ((putL l s).map fun s => .string ⟨s.toArray⟩)) := Lib.hid (by rw [HPL.out]; exact HM.out)
                obtain ⟨A9, c9, rfl, hs9, ha9⟩ := own_strs' HM2.out (fun y hy => by
                  rw [HPL.out] at hy
                  rcases List.mem_append.1 hy with h | h
                  · rcases List.mem_append.1 h with h | h
                    · exact (HL.out w1 (World.grownBy.refl _ _)).sl y (List.mem_of_mem_take h)
                    · rw [List.mem_singleton] at h; rw [h]; exact Hs.out
                  · exact (HL.out w1 (World.grownBy.refl _ _)).sl y (List.mem_of_mem_drop h))
                have HS9 := Lib.hid hs9
                have HA9 := Lib.hid ha9
                clear hs9 ha9 HM2 HM
                try clear H6
                go_wp2_with fail
                go_ret
                exact ⟨_, _, _, rfl, HS9.out, HA9.out, G1.out.trans HG.out⟩
end Go.Proofs.Ytljjmoeplfcblaa
