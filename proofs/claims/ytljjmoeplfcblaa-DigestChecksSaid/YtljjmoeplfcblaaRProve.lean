/-
  The reference's Root, Prove and Grow, by their contracts.
-/
import Derived.Test.YtljjmoeplfcblaaRTop
import Derived.Test.YtljjmoeplfcblaaProve
namespace Go.Proofs.Ytljjmoeplfcblaa
open Go.RowKit Go.Shelf
attribute [local go_sem] get_mk extract_mk
theorem nodes_d8 : ∀ (bs : List (Nat × Nat)) (ds : List Str), (∀ s ∈ ds, s.length ≤ 8) → d8 (nodes bs ds)
  | [], _, _ => fun _ h => by cases h
  | _ :: _, [], _ => fun _ h => by cases h
  | b :: bs, d :: ds, h => fun y hy => by
    rcases List.mem_cons.1 hy with rfl | hy
    · exact h d List.mem_cons_self
    · exact nodes_d8 bs ds (fun s hs => h s (List.mem_cons_of_mem _ hs)) y hy
theorem sums_le8 (l : List Str) (i j : Nat) : ∀ s ∈ sums l i j, s.length ≤ 8 := fun s hs => by
  obtain ⟨b, _, rfl⟩ := List.mem_map.1 hs
  exact Nat.le_of_eq (sumB_len l b)
theorem topD_len (st : List Nd) (h : d8 st) : (topD st).length ≤ 8 := by
  cases st with
  | nil => rw [topD, dg_len]; decide
  | cons a r => exact fold_len a (h a List.mem_cons_self) r
theorem push_d8 : ∀ (r : List Nd) (n : Nd), d8 r → n.d.length ≤ 8 → d8 (push pairD r n)
  | [], n, _, h => fun y hy => by
    rcases List.mem_cons.1 hy with rfl | hy
    · exact h
    · cases hy
  | a :: r, n, hr, h => by
    unfold push
    split
    · exact push_d8 r _ (fun y hy => hr y (List.mem_cons_of_mem _ hy)) (Nat.le_of_eq (pairD_len _ _))
    · intro y hy
      rcases List.mem_cons.1 hy with rfl | hy
      · exact h
      · exact hr y hy
theorem pushes_d8 : ∀ (l r : List Nd), d8 r → d8 l → d8 (pushes r l)
  | [], _, h, _ => h
  | n :: l, r, h, hl => pushes_d8 l (push pairD r n) (push_d8 r n h (hl n List.mem_cons_self)) (fun y hy => hl y (List.mem_cons_of_mem _ hy))
set_option maxRecDepth 100000 in
set_option maxHeartbeats 2000000 in
/-- the reference's Root -/
theorem root_r (A : Option Addr) (n c : Nat) (l : List Str) (hn : n ≤ 1099511627776) (hsh : ∀ x ∈ l, x.length ≤ 1152921504606846976) (w : World) (hl : Strs w A n c l) :
    Calls Try.prog 23 #[.slice A n c] w fun e w' => e = .returned (.string ⟨(root l).toArray⟩) ∧ w.grownBy w' none := by
  have HLN := Lib.hid hl.len
  have Hl := Lib.hid hl
  have Hsh := Lib.hid hsh
  have hb0 := blocks_len' 0 n
  have HS0 := Lib.hid (sums_len l 0 n)
  have hcap := hl.cap
  have hle := hl.le
  clear hl hsh
  go_enter Try.func23, Try.ntmps23
  go_wp2_with fail
  refine (blocks_r 0 n (by omega) (by omega) w).mono ?_
  rintro e w1 ⟨v1, rfl, o1, g1⟩
  go_wp2_with fail
  refine (digests_r A n c l hn Hsh.out 0 n (by omega) (Nat.le_refl _) w1 (Hl.out.kept g1)).mono ?_
  rintro e w2 ⟨v2, rfl, o2, g2⟩
  obtain ⟨A2, c2, rfl, hs2⟩ := own_strs o2 (fun s hs => by have := sums_le8 l 0 n s hs; omega)
  have HW := Lib.hid (with_r w.heap.size v1 (blocks 0 n) (by omega) A2 _ c2 (sums l 0 n) (Nat.le_of_eq HS0.out.symm) w2 (o1.kept g2 (Classical.em _)) hs2)
  clear o1 o2 hs2
  go_wp2_with fail
  refine HW.out.mono ?_
  rintro e w3 ⟨v3, rfl, o3, g3⟩
  have HT := Lib.hid (top_r w2.heap.size v3 (nodes (blocks 0 n) (sums l 0 n)) n hn w3 o3 (nodes_chained n n 0 _ (by omega) (by omega) HS0.out) (nodes_d8 _ _ (sums_le8 l 0 n)))
  clear o3
  go_wp2_with fail
  refine HT.out.mono ?_
  rintro e w4 ⟨rfl, g4⟩
  have ht8 := topD_len _ (pushes_d8 (nodes (blocks 0 n) (sums l 0 n)) [] (fun _ h => by cases h) (nodes_d8 _ _ (sums_le8 l 0 n)))
  go_wp2_with fail
  refine (rootn_r n hn _ (by omega) w4).mono ?_
  rintro e w5 ⟨rfl, g5⟩
  go_wp2_with fail
  go_ret
  exact ⟨by rw [root, stack, rootD, ← HLN.out]; rfl, (((g1.trans g2).trans g3).trans g4).trans g5⟩
set_option maxRecDepth 100000 in
set_option maxHeartbeats 2000000 in
/-- the reference's Prove, where the indices are in the list -/
theorem prove_r (A : Option Addr) (n c : Nat) (l : List Str) (hn : n ≤ 1000) (i j : Nat) (hij : i ≤ j) (hj : j ≤ n) (w : World) (hl : Strs w A n c l) (hsh : ∀ x ∈ l, x.length ≤ 1152921504606846976) :
    Calls Try.prog 30 #[.slice A n c, .int .i64 i, .int .i64 j] w fun e w' => ∃ v, e = .returned (.tuple #[v, .bool true]) ∧ w'.ownsRow w.heap.size 9 1 v (proofL l i j).length ((proofL l i j).map fun s => .string ⟨s.toArray⟩) ∧ w.grownBy w' none := by
  obtain ⟨i0, hi0, hz0, hz1, hz2⟩ := info_parts info9
  have hlen := Lib.hid hl.len
  have hcn := hl.le
  have hc6 := hl.cap
  have hb1 := blocks_len' 0 i
  have hb2 := blocks_len' j n
  have Hl := Lib.hid hl
  have q1 : (i : Int) ≤ (j : Int) := by omega
  have q2 : (j : Int) ≤ (n : Int) := by omega
  have Hsh := Lib.hid hsh
  clear hl hsh
  go_enter Try.func30, Try.ntmps30
  go_wp2_with fail
  refine (digests_r A n c l (by omega) Hsh.out 0 i (by omega) (by omega) w Hl.out).mono ?_
  rintro e w1 ⟨v1, rfl, o1, g1⟩
  go_wp2_with fail
  refine (digests_r A n c l (by omega) Hsh.out j n (by omega) (Nat.le_refl _) w1 (Hl.out.kept g1)).mono ?_
  rintro e w2 ⟨v2, rfl, o2, g2⟩
  have s1 := sums_len l 0 i
  have s2 := sums_len l j n
  have o1 : w1.ownsRow w.heap.size 9 1 v1 (sums l 0 i).length ((sums l 0 i).map fun s => .string ⟨s.toArray⟩) := o1
  have o2 : w2.ownsRow w1.heap.size 9 1 v2 (sums l j n).length ((sums l j n).map fun s => .string ⟨s.toArray⟩) := o2
  have o1 := o1.kept g2 (Classical.em _)
  have HP : Hid (proofL l i j = sums l 0 i ++ sums l j n) := Lib.hid (by unfold proofL; rw [hlen.out])
  generalize hD1 : sums l 0 i = D1 at *
  generalize hD2 : sums l j n = D2 at *
  clear hD1 hD2
  have e1 : D1.length ≤ 1000 := by omega
  have e2 : D2.length ≤ 1000 := by omega
  rcases o2.2 with ⟨rfl, h0⟩ | ⟨g, cap, cur, rfl, hb, hg, h1, h2, h3, h4⟩
  · have h00 : D2 = [] := List.eq_nil_of_length_eq_zero h0
    subst h00
    clear o2 h0 s1 s2 e2
    go_wp2_with (at_builtin; refine wpList_append_own_none rfl _ _ 29 rfl w.heap.size 9 i0 1 Try.underlying29 hi0 v1 D1.length _ rfl o1 rfl ?_)
    refine bodyPost_ret (results_tmp2 rfl _ _ _) rfl ?_
    refine ⟨v1, rfl, ?_, g1.trans g2⟩
    rw [HP.out, List.append_nil]
    exact o1
  · have hnews : ∀ j u, (D2.map fun s => Value.string ⟨s.toArray⟩)[j]? = some u → w2.cell? ((⟨g, 0, none⟩ : Addr).add j) = some u := fun j u hu => by
      have e : (⟨g, 0, none⟩ : Addr).add j = ⟨g, j, none⟩ := by unfold Addr.add; split <;> simp_all
      rw [e]
      rw [← h4, List.getElem?_take] at hu
      split at hu
      · simpa [World.cell?, hg] using hu
      · cases hu
    have hone : ∀ u ∈ (D2.map fun s => Value.string ⟨s.toArray⟩), u.oneCell' = true := fun u hu => by
      obtain ⟨s, _, rfl⟩ := List.mem_map.1 hu
      rfl
    clear o2 h4 s1 s2
    go_wp2_with (at_builtin; refine wpList_append_own_at _ rfl _ _ 29 rfl w.heap.size 9 i0 _ 1 16 Try.underlying29 hi0 hz0 hz1 hz2 rfl (by omega) v1 D1.length _ rfl o1 ⟨g, 0, none⟩ D2.length cap (D2.map fun s => Value.string ⟨s.toArray⟩) rfl (by simp) hnews hone (by simp only [maxLen]; omega) (by omega) (by have := g1.size; have := g2.size; omega) ?_; intro v9 w9 hown9 hgrow9 hnil9 hloc9)
    refine bodyPost_ret (results_tmp2 rfl _ _ _) rfl ?_
    refine ⟨v9, rfl, ?_, (g1.trans g2).andThen hgrow9 (fun r e => .inl (o1.lt r e).1)⟩
    rw [HP.out, List.length_append, List.map_append]
    exact hown9
set_option maxHeartbeats 1000000 in
/-- the reference's Prove, where they are not -/
theorem prove_rno (A : Option Addr) (n c : Nat) (i j : Int) (h : ¬ (0 ≤ i ∧ i ≤ j ∧ j ≤ n)) (_ : n ≤ 9223372036854775807) (w : World) :
    Calls Try.prog 30 #[.slice A n c, .int .i64 i, .int .i64 j] w fun e w' => e = .returned (.tuple #[.slice none 0 0, .bool false]) ∧ w.grownBy w' none := by
  by_cases h1 : i < 0
  · go_enter Try.func30, Try.ntmps30
    go_wp2_with fail
    refine bodyPost_ret (results_tmp2 rfl _ _ _) rfl ?_
    exact ⟨rfl, World.grownBy.refl _ _⟩
  · by_cases h2 : i > j
    · have h1' : decide (i < 0) = false := by simpa using h1
      go_enter Try.func30, Try.ntmps30
      go_wp2_with fail
      refine bodyPost_ret (results_tmp2 rfl _ _ _) rfl ?_
      exact ⟨rfl, World.grownBy.refl _ _⟩
    · have h3 : (n : Int) < j := by omega
      have h1' : decide (i < 0) = false := by simpa using h1
      have h2' : i ≤ j := by omega
      clear h h1 h2
      go_enter Try.func30, Try.ntmps30
      go_wp2_with fail
      refine bodyPost_ret (results_tmp2 rfl _ _ _) rfl ?_
      exact ⟨rfl, World.grownBy.refl _ _⟩
set_option maxRecDepth 100000 in
set_option maxHeartbeats 2000000 in
/-- the reference's Grow, where it is in the list -/
theorem grow_r (A : Option Addr) (n c : Nat) (l : List Str) (hn : n ≤ 1000) (m : Nat) (hm : m ≤ n) (w : World) (hl : Strs w A n c l) (hsh : ∀ x ∈ l, x.length ≤ 1152921504606846976) :
    Calls Try.prog 32 #[.slice A n c, .int .i64 m] w fun e w' => ∃ v, e = .returned (.tuple #[v, .bool true]) ∧ w'.ownsRow w.heap.size 9 1 v (proofL l m m).length ((proofL l m m).map fun s => .string ⟨s.toArray⟩) ∧ w.grownBy w' none := by
  obtain ⟨i0, hi0, hz0, hz1, hz2⟩ := info_parts info9
  have hlen := Lib.hid hl.len
  have hcn := hl.le
  have hc6 := hl.cap
  have hb1 := blocks_len' 0 m
  have hb2 := blocks_len' m n
  have Hl := Lib.hid hl
  have q2 : (m : Int) ≤ (n : Int) := by omega
  have Hsh := Lib.hid hsh
  clear hl hsh
  go_enter Try.func32, Try.ntmps32
  go_wp2_with fail
  refine (digests_r A n c l (by omega) Hsh.out 0 m (by omega) (by omega) w Hl.out).mono ?_
  rintro e w1 ⟨v1, rfl, o1, g1⟩
  go_wp2_with fail
  refine (digests_r A n c l (by omega) Hsh.out m n (by omega) (Nat.le_refl _) w1 (Hl.out.kept g1)).mono ?_
  rintro e w2 ⟨v2, rfl, o2, g2⟩
  have s1 := sums_len l 0 m
  have s2 := sums_len l m n
  have o1 : w1.ownsRow w.heap.size 9 1 v1 (sums l 0 m).length ((sums l 0 m).map fun s => .string ⟨s.toArray⟩) := o1
  have o2 : w2.ownsRow w1.heap.size 9 1 v2 (sums l m n).length ((sums l m n).map fun s => .string ⟨s.toArray⟩) := o2
  have o1 := o1.kept g2 (Classical.em _)
  have HP : Hid (proofL l m m = sums l 0 m ++ sums l m n) := Lib.hid (by unfold proofL; rw [hlen.out])
  generalize hD1 : sums l 0 m = D1 at *
  generalize hD2 : sums l m n = D2 at *
  clear hD1 hD2
  have e1 : D1.length ≤ 1000 := by omega
  have e2 : D2.length ≤ 1000 := by omega
  rcases o2.2 with ⟨rfl, h0⟩ | ⟨g, cap, cur, rfl, hb, hg, h1, h2, h3, h4⟩
  · have h00 : D2 = [] := List.eq_nil_of_length_eq_zero h0
    subst h00
    clear o2 h0 s1 s2 e2
    go_wp2_with (at_builtin; refine wpList_append_own_none rfl _ _ 29 rfl w.heap.size 9 i0 1 Try.underlying29 hi0 v1 D1.length _ rfl o1 rfl ?_)
    refine bodyPost_ret (results_tmp2 rfl _ _ _) rfl ?_
    refine ⟨v1, rfl, ?_, g1.trans g2⟩
    rw [HP.out, List.append_nil]
    exact o1
  · have hnews : ∀ j u, (D2.map fun s => Value.string ⟨s.toArray⟩)[j]? = some u → w2.cell? ((⟨g, 0, none⟩ : Addr).add j) = some u := fun j u hu => by
      have e : (⟨g, 0, none⟩ : Addr).add j = ⟨g, j, none⟩ := by unfold Addr.add; split <;> simp_all
      rw [e]
      rw [← h4, List.getElem?_take] at hu
      split at hu
      · simpa [World.cell?, hg] using hu
      · cases hu
    have hone : ∀ u ∈ (D2.map fun s => Value.string ⟨s.toArray⟩), u.oneCell' = true := fun u hu => by
      obtain ⟨s, _, rfl⟩ := List.mem_map.1 hu
      rfl
    clear o2 h4 s1 s2
    go_wp2_with (at_builtin; refine wpList_append_own_at _ rfl _ _ 29 rfl w.heap.size 9 i0 _ 1 16 Try.underlying29 hi0 hz0 hz1 hz2 rfl (by omega) v1 D1.length _ rfl o1 ⟨g, 0, none⟩ D2.length cap (D2.map fun s => Value.string ⟨s.toArray⟩) rfl (by simp) hnews hone (by simp only [maxLen]; omega) (by omega) (by have := g1.size; have := g2.size; omega) ?_; intro v9 w9 hown9 hgrow9 hnil9 hloc9)
    refine bodyPost_ret (results_tmp2 rfl _ _ _) rfl ?_
    refine ⟨v9, rfl, ?_, (g1.trans g2).andThen hgrow9 (fun r e => .inl (o1.lt r e).1)⟩
    rw [HP.out, List.length_append, List.map_append]
    exact hown9
set_option maxHeartbeats 1000000 in
/-- the reference's Grow, where it is not -/
theorem grow_rno (A : Option Addr) (n c : Nat) (m : Int) (h : ¬ (0 ≤ m ∧ m ≤ n)) (_ : n ≤ 9223372036854775807) (w : World) :
    Calls Try.prog 32 #[.slice A n c, .int .i64 m] w fun e w' => e = .returned (.tuple #[.slice none 0 0, .bool false]) ∧ w.grownBy w' none := by
  by_cases h1 : m < 0
  · go_enter Try.func32, Try.ntmps32
    go_wp2_with fail
    refine bodyPost_ret (results_tmp2 rfl _ _ _) rfl ?_
    exact ⟨rfl, World.grownBy.refl _ _⟩
  · have h3 : (n : Int) < m := by omega
    have h1' : decide (m < 0) = false := by simpa using h1
    clear h h1
    go_enter Try.func32, Try.ntmps32
    go_wp2_with fail
    refine bodyPost_ret (results_tmp2 rfl _ _ _) rfl ?_
    exact ⟨rfl, World.grownBy.refl _ _⟩
end Go.Proofs.Ytljjmoeplfcblaa
