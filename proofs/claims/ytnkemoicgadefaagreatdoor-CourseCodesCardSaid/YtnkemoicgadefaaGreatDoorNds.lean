/-
  course.Needs.
-/
import Derived.Test.YtnkemoicgadefaaGreatDoorSrt
namespace Go.Proofs.YtnkemoicgadefaaGreatDoor
open Go.RowKit
attribute [local go_sem] get_mk extract_mk
theorem nx_U (l : List O) : ∀ s, ∀ x ∈ nx l s, x ∈ allN l := fun _ _ hx => nx_all hx
set_option maxRecDepth 100000 in
set_option maxHeartbeats 1000000 in
theorem needs_k (A : Option Addr) (n c : Nat) (vs : List V) (l : List O) (code : Str) (hN : (allN l).length ≤ 999) (hS : ∀ x ∈ allN l, x.length ≤ 1152921504606846976) (w : World) (h : Offs w A n c vs l) :
    Calls Tryz.prog 16 #[.slice A n c, .string ⟨code.toArray⟩] w fun e w' => ∃ B d, e = .returned (.slice B (needsV l code).length d) ∧ Strs w' B (needsV l code).length d (needsV l code) ∧ w.grownBy w' none := by
  have RQ := Lib.hid (required_k A n c vs l w h)
  have HBW := Lib.hid (Nat.le_refl w.heap.size)
  clear h
  go_enter Tryz.func16, Tryz.ntmps16
  go_wp2_with fail
  refine RQ.out.mono ?_
  rintro e w1 ⟨b, rfl, _, hd, g1⟩
  have FK := Lib.hid (follow_k b (dirV l) (nx l) (fun c => (dir_nx l c).symm) (allN l) (nx_U l) hN code w1 hd)
  have G1 := Lib.hid g1
  clear hd g1 RQ
  go_wp2_with fail
  refine FK.out.mono ?_
  rintro e w2 ⟨bf, F, rfl, hbf, hs, hnd, hiff, g2⟩
  obtain ⟨w3, r3, hR, g3, hs3⟩ := Dict.range und46 hs
  have HR := Lib.hid hR
  have HRR := Lib.hid (Nat.le_trans G1.out.size g2.size)
  have G3 := Lib.hid ((G1.out.trans g2).trans g3)
  have HI := Lib.hid hiff
  have HND := Lib.hid hnd
  have HFS : Hid (∀ x ∈ F, x.length ≤ 1152921504606846976) := Lib.hid (fun x hx => hS x (leads_all ((hiff x).1 hx)))
  have HFL : Hid (F.length ≤ 999) := Lib.hid (Nat.le_trans (nodup_le hnd (fun x hx => leads_all ((hiff x).1 hx))) hN)
  clear FK hs hR g3 hs3 hiff hnd hbf g2 G1 hN hS
  generalize w2.heap.size = R at *
  go_wp2_with fail
  go_loopw [5] (fun v wr => ∃ (left : List (Str × Value)) (D : List Str), Hid (Rng encS wr bf R (F.map fun s => (s, Value.bool true)) left ∧ (D ++ left.map (·.1)).Perm F) ∧ Hid (OwnS wr w.heap.size v D) ∧ Hid (w.grownBy wr none)) (fun _ wr => leftN wr R)
  case atStart => exact ⟨_, [], Lib.hid ⟨HR.out, by simp [Function.comp_def]⟩, Lib.hid (World.ownsRow_nil _ _ 9 1), G3⟩
  case round =>
    clear HR G3 r3
    obtain ⟨left, D, HL, HO, HG⟩ := hrel
    generalize wr = wo at *
    generalize u5 = v at *
    rcases HL.out.1.next 0 with ⟨hl0, rn⟩ | ⟨pre, post, p, w6, hl0, rn, hR2, g6, hz6, re⟩
    · have HP : Hid (D.Perm F) := Lib.hid (by have := HL.out.2; rw [hl0] at this; simpa using this)
      have HDS : Hid (∀ x ∈ D, x.length ≤ 1152921504606846976) := Lib.hid (fun x hx => HFS.out x (HP.out.mem_iff.1 hx))
      have HDL : Hid (D.length ≤ 999) := Lib.hid (by rw [HP.out.length_eq]; exact HFL.out)
      have SK := Lib.hid (sort_k HO.out HDS.out (Nat.le_trans HDL.out (by omega)))
      have HE : Hid (D.mergeSort (fun x y => decide (x ≤ y)) = needsV l code ∧ D.length = (needsV l code).length) := Lib.hid (by
        have h1 := inc_sort (HP.out.nodup_iff.2 HND.out)
        have h2 : IsNeeds (nx l) code (D.mergeSort (fun x y => decide (x ≤ y))) := ⟨h1.1, fun s => by rw [h1.2, HP.out.mem_iff, HI.out]⟩
        have h3 := h2.eq (needs_is l code)
        exact ⟨h3, by rw [← h3]; exact (List.mergeSort_perm D _).length_eq.symm⟩)
      have HLT := Lib.hid (World.ownsRow.lt HO.out)
      clear HL hl0 HO
      go_wp2_with fail
      refine SK.out.mono ?_
      rintro e w7 ⟨rfl, B, d, rfl, hst, g7⟩
      rw [HE.out.1, HE.out.2] at hst
      have HST := Lib.hid hst
      have HG7 := Lib.hid (HG.out.andThen g7 (fun r e => .inl (HLT.out r e).1))
      have hdl := HE.out.2
      rw [hdl]
      clear hst g7 SK HLT hdl
      go_wp2_with fail
      go_ret
      exact ⟨B, d, rfl, HST.out, HG7.out⟩
    · have hmem := HL.out.1.sub keyS p (by rw [hl0]; simp)
      obtain ⟨x, hx, hxe⟩ := List.mem_map.1 hmem
      subst hxe
      have HLN := Lib.hid HL.out.1.leftN
      have HLL := Lib.hid hl0
      have HR2 := Lib.hid hR2
      have HP2 : Hid ((D ++ [x] ++ (pre ++ post).map (·.1)).Perm F) := Lib.hid (by
        refine List.Perm.trans ?_ HL.out.2
        rw [hl0]
        simp only [List.map_append, List.map_cons, List.append_assoc]
        refine List.Perm.append_left D ?_
        exact (List.perm_middle (l₁ := pre.map (·.1)) (a := x) (l₂ := post.map (·.1))).symm)
      have HDL : Hid (D.length ≤ 999) := Lib.hid (by
        have := HP2.out.length_eq
        have h9 := HFL.out
        simp at this
        omega)
      have hoff : some R ≠ v.ownBlock := own_off HO.out HL.out.1.iter
      have HO6 := Lib.hid (World.ownsRow.kept HO.out g6 (by
        cases hv : v.ownBlock with
        | none => exact .inl rfl
        | some k => exact .inr (fun e => hoff (by rw [hv, e]))))
      have HG6 := Lib.hid (HG.out.andThen g6 (by rintro j ⟨⟩; exact .inl HRR.out))
      simp only [encS] at rn re
      clear hl0 hR2 g6 hz6 hmem hx hoff HL HO HG
      have HPR := Lib.hid HP2
      have ga := World.grownBy_alloc w6 (.cells #[.string ⟨x.toArray⟩] 9) none
      have HO7 := Lib.hid (World.ownsRow.kept HO6.out ga (by cases v.ownBlock with | none => exact .inl rfl | some k => exact .inr (by simp)))
      have HG7 := Lib.hid (HG6.out.trans ga)
      have HR7 := Lib.hid (HR2.out.kept ga)
      have HV7 := Lib.hid (new_vals w6 9 [.string ⟨x.toArray⟩] 1 rfl (by omega) (fun u hu => by rw [List.mem_singleton.1 hu]; rfl))
      have hbase : w.heap.size ≤ (w6.alloc (.cells #[.string ⟨x.toArray⟩] 9)).heap.size := HG7.out.size
      clear ga HP2
      go_upto_region 5 with fail
      go_wp2_with (at_builtin; refine wpList_append_vals elt9 rfl _ _ rfl w.heap.size v D.length _ rfl HO7.out _ 1 1 _ rfl HV7.out (by have := HDL.out; omega) hbase ?_; intro v' w8 ho hg hb hv)
      have HR8 : Hid (Rng encS w8 bf R (F.map fun s => (s, Value.bool true)) (pre ++ post)) := Lib.hid (HR7.out.keptR hg (own_off HO7.out HR7.out.dict.map) (own_off HO7.out HR7.out.iter))
      have HO8 : Hid (OwnS w8 w.heap.size v' (D ++ [x])) := Lib.hid (by unfold OwnS; simpa using ho)
      have HG8 := Lib.hid (HG7.out.andThen hg (fun r e => .inl (World.ownsRow.lt HO7.out r e).1))
      exact ⟨⟨pre ++ post, D ++ [x], Lib.hid ⟨HR8.out, HPR.out⟩, HO8, HG8⟩, by rw [HR8.out.leftN, HLN.out, HLL.out]; simp⟩
end Go.Proofs.YtnkemoicgadefaaGreatDoor
