/-
  digest.Prove, by its contract.
-/
import Derived.Test.YtljjmoeplfcblaaRoot
import Derived.OwnWalk
import Derived.Laws.AppendOwnNone
import Derived.Deep.AppendLies
namespace Go.Proofs.Ytljjmoeplfcblaa
open Go.RowKit Go.Shelf
attribute [local go_sem] get_mk extract_mk

def proofL (l : List Str) (i j : Nat) : List Str := sums l 0 i ++ sums l j l.length
set_option maxRecDepth 100000 in
set_option maxHeartbeats 2000000 in
/-- digest.Prove, where the indices are in the list -/
theorem prove_k (A : Option Addr) (n c : Nat) (l : List Str) (hn : n ≤ 1000) (i j : Nat) (hij : i ≤ j) (hj : j ≤ n) (w : World) (hl : Strs w A n c l) :
    Calls Try.prog 29 #[.slice A n c, .int .i64 i, .int .i64 j] w fun e w' => ∃ v, e = .returned (.tuple #[v, .bool true]) ∧ w'.ownsRow w.heap.size 9 1 v (proofL l i j).length ((proofL l i j).map fun s => .string ⟨s.toArray⟩) ∧ w.grownBy w' none := by
  obtain ⟨i0, hi0, hz0, hz1, hz2⟩ := info_parts info9
  have hlen := Lib.hid hl.len
  have hcn := hl.le
  have hc6 := hl.cap
  have hb1 := blocks_len' 0 i
  have hb2 := blocks_len' j n
  have Hl := Lib.hid hl
  have q1 : (i : Int) ≤ (j : Int) := by omega
  have q2 : (j : Int) ≤ (n : Int) := by omega
  clear hl
  go_enter Try.func29, Try.ntmps29
  go_wp2_with fail
  refine (sums_k A n c l (by omega) 0 i (by omega) w Hl.out).mono ?_
  rintro e w1 ⟨v1, rfl, o1, g1⟩
  go_wp2_with fail
  refine (sums_k A n c l (by omega) j n (Nat.le_refl _) w1 (Hl.out.kept g1)).mono ?_
  rintro e w2 ⟨v2, rfl, o2, g2⟩
  have s1 := sums_len l 0 i
  have s2 := sums_len l j n
  have o1 := o1.kept g2 (Classical.em _)
  have HP : Hid (proofL l i j = sums l 0 i ++ sums l j n) := Lib.hid (by unfold proofL; rw [hlen.out])
  generalize hD1 : sums l 0 i = D1 at *
  generalize hD2 : sums l j n = D2 at *
  clear hD1 hD2
  have e1 : D1.length ≤ 1000 := by omega
  have e2 : D2.length ≤ 1000 := by omega
  rcases o2.2 with ⟨rfl, h0⟩ | ⟨g, cap, cur, rfl, hb, hg, h1, h2, h3, h4⟩
  · have h00 : D2 = [] := List.eq_nil_of_length_eq_zero h0
    subst h00
    clear o2 h0 s1 s2 e2
    go_wp2_with (at_builtin; refine wpList_append_own_none rfl _ _ 29 rfl w.heap.size 9 i0 1 Try.underlying29 hi0 v1 D1.length _ rfl o1 rfl ?_)
    refine bodyPost_ret (results_tmp2 rfl _ _ _) rfl ?_
    refine ⟨v1, rfl, ?_, g1.trans g2⟩
    rw [HP.out, List.append_nil]
    exact o1
  · have hnews : ∀ j u, (D2.map fun s => Value.string ⟨s.toArray⟩)[j]? = some u → w2.cell? ((⟨g, 0, none⟩ : Addr).add j) = some u := fun j u hu => by
      have e : (⟨g, 0, none⟩ : Addr).add j = ⟨g, j, none⟩ := by unfold Addr.add; split <;> simp_all
      rw [e]
      rw [← h4, List.getElem?_take] at hu
      split at hu
      · simpa [World.cell?, hg] using hu
      · cases hu
    have hone : ∀ u ∈ (D2.map fun s => Value.string ⟨s.toArray⟩), u.oneCell' = true := fun u hu => by
      obtain ⟨s, _, rfl⟩ := List.mem_map.1 hu
      rfl
    clear o2 h4 s1 s2
    go_wp2_with (at_builtin; refine wpList_append_own_at _ rfl _ _ 29 rfl w.heap.size 9 i0 _ 1 16 Try.underlying29 hi0 hz0 hz1 hz2 rfl (by omega) v1 D1.length _ rfl o1 ⟨g, 0, none⟩ D2.length cap (D2.map fun s => Value.string ⟨s.toArray⟩) rfl (by simp) hnews hone (by simp only [maxLen]; omega) (by omega) (by have := g1.size; have := g2.size; omega) ?_; intro v9 w9 hown9 hgrow9 hnil9 hloc9)
    refine bodyPost_ret (results_tmp2 rfl _ _ _) rfl ?_
    refine ⟨v9, rfl, ?_, (g1.trans g2).andThen hgrow9 (fun r e => .inl (o1.lt r e).1)⟩
    rw [HP.out, List.length_append, List.map_append]
    exact hown9
set_option maxHeartbeats 1000000 in
/-- digest.Prove, where they are not -/
theorem prove_no (A : Option Addr) (n c : Nat) (i j : Int) (h : ¬ (0 ≤ i ∧ i ≤ j ∧ j ≤ n)) (_ : n ≤ 9223372036854775807) (w : World) :
    Calls Try.prog 29 #[.slice A n c, .int .i64 i, .int .i64 j] w fun e w' => e = .returned (.tuple #[.slice none 0 0, .bool false]) ∧ w.grownBy w' none := by
  by_cases h1 : i < 0
  · go_enter Try.func29, Try.ntmps29
    go_wp2_with fail
    refine bodyPost_ret (results_tmp2 rfl _ _ _) rfl ?_
    exact ⟨rfl, World.grownBy.refl _ _⟩
  · by_cases h2 : i > j
    · have h1' : decide (i < 0) = false := by simpa using h1
      go_enter Try.func29, Try.ntmps29
      go_wp2_with fail
      refine bodyPost_ret (results_tmp2 rfl _ _ _) rfl ?_
      exact ⟨rfl, World.grownBy.refl _ _⟩
    · have h3 : (n : Int) < j := by omega
      have h1' : decide (i < 0) = false := by simpa using h1
      have h2' : i ≤ j := by omega
      clear h h1 h2
      go_enter Try.func29, Try.ntmps29
      go_wp2_with fail
      refine bodyPost_ret (results_tmp2 rfl _ _ _) rfl ?_
      exact ⟨rfl, World.grownBy.refl _ _⟩
end Go.Proofs.Ytljjmoeplfcblaa
