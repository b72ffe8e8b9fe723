/-
  Sorted lists: what Put and Around make of them, and what Within shows.
-/
import Derived.Test.YtljjmoeplfcblaaWide
import Derived.Test.YtljjmoeplfcblaaRSort
namespace Go.Proofs.Ytljjmoeplfcblaa
open Go.RowKit Go.Shelf
theorem bl_irr : ∀ a : Str, Op.bytesLess a a = false
  | [] => rfl
  | x :: a => by simp [Op.bytesLess, bl_irr a]
theorem bl_trans : ∀ {a b c : Str}, Op.bytesLess a b = true → Op.bytesLess b c = true → Op.bytesLess a c = true
  | _, _, [], _, h => by simp [Op.bytesLess] at h
  | _, [], _ :: _, h, _ => by simp [Op.bytesLess] at h
  | [], _ :: _, _ :: _, _, _ => rfl
  | x :: a, y :: b, z :: c, h1, h2 => by
    simp only [Op.bytesLess, Bool.or_eq_true, decide_eq_true_eq, Bool.and_eq_true, beq_iff_eq] at h1 h2 ⊢
    rcases h1 with h1 | ⟨rfl, h1⟩
    · rcases h2 with h2 | ⟨rfl, h2⟩
      · exact .inl (by have := UInt8.lt_iff_toNat_lt.1 h1; have := UInt8.lt_iff_toNat_lt.1 h2; exact UInt8.lt_iff_toNat_lt.2 (by omega))
      · exact .inl h1
    · rcases h2 with h2 | ⟨rfl, h2⟩
      · exact .inl h2
      · exact .inr ⟨rfl, bl_trans h1 h2⟩
theorem bl_tot : ∀ {a b : Str}, Op.bytesLess a b = false → a = b ∨ Op.bytesLess b a = true
  | [], [], _ => .inl rfl
  | [], _ :: _, h => by simp [Op.bytesLess] at h
  | _ :: _, [], _ => .inr rfl
  | x :: a, y :: b, h => by
    simp only [Op.bytesLess, Bool.or_eq_false_iff, decide_eq_false_iff_not] at h
    simp only [Op.bytesLess, Bool.or_eq_true, decide_eq_true_eq, Bool.and_eq_true, beq_iff_eq, List.cons.injEq]
    by_cases hxy : x = y
    · subst hxy
      have h2 : Op.bytesLess a b = false := by simpa using h.2
      rcases bl_tot h2 with rfl | h3
      · exact .inl ⟨rfl, rfl⟩
      · exact .inr (.inr ⟨rfl, h3⟩)
    · refine .inr (.inl ?_)
      have h1 := h.1
      rw [UInt8.lt_iff_toNat_lt] at h1 ⊢
      have : x.toNat ≠ y.toNat := fun e => hxy (UInt8.toNat_inj.1 e)
      omega
abbrev Up (l : List Str) : Prop := l.Pairwise fun a b => Op.bytesLess a b = true
theorem up_of : ∀ {l : List Str}, sortedB l = true → Up l
  | [], _ => List.Pairwise.nil
  | [a], _ => List.pairwise_singleton _ _
  | a :: b :: r, h => by
    simp only [sortedB, Bool.and_eq_true] at h
    have ih := up_of h.2
    refine List.Pairwise.cons (fun y hy => ?_) ih
    rcases List.mem_cons.1 hy with rfl | hy
    · exact h.1
    · exact bl_trans h.1 (List.rel_of_pairwise_cons ih hy)
theorem of_up : ∀ {l : List Str}, Up l → sortedB l = true
  | [], _ => rfl
  | [a], _ => rfl
  | a :: b :: r, h => by
    have h1 := List.rel_of_pairwise_cons h (List.mem_cons_self)
    simp only [sortedB, h1, Bool.true_and]
    exact of_up h.of_cons
theorem sorted_cut {l : List Str} (h : sortedB l = true) (i n : Nat) : sortedB ((l.drop i).take n) = true :=
  of_up ((up_of h).sublist ((List.take_sublist _ _).trans (List.drop_sublist _ _)))
theorem take_lt (l : List Str) (s : Str) : ∀ y ∈ l.take (leastD l s), Op.bytesLess y s = true := fun y hy => by
  have e : l.take (leastD l s) = l.takeWhile fun x => Op.bytesLess x s := by
    have h := List.take_left' (l₁ := l.takeWhile fun x => Op.bytesLess x s) (l₂ := l.dropWhile fun x => Op.bytesLess x s) rfl
    rwa [List.takeWhile_append_dropWhile] at h
  rw [e] at hy
  exact (List.all_eq_true.1 (List.all_takeWhile (p := fun x => Op.bytesLess x s) (l := l))) y hy
theorem drop_eq (l : List Str) (s : Str) : l.drop (leastD l s) = l.dropWhile fun x => Op.bytesLess x s := by
  have h := List.drop_left' (l₁ := l.takeWhile fun x => Op.bytesLess x s) (l₂ := l.dropWhile fun x => Op.bytesLess x s) rfl
  rwa [List.takeWhile_append_dropWhile] at h
theorem drop_ge {l : List Str} (h : sortedB l = true) (s : Str) : ∀ y ∈ l.drop (leastD l s), Op.bytesLess y s = false := fun y hy => by
  have hu := (up_of h).sublist (List.drop_sublist (leastD l s) l)
  rw [drop_eq] at hy hu
  cases hd : l.dropWhile fun x => Op.bytesLess x s with
  | nil => rw [hd] at hy; cases hy
  | cons z r =>
    have hz : Op.bytesLess z s = false := by
      have := List.head?_dropWhile_not (fun x => Op.bytesLess x s) l
      rw [hd] at this
      simpa using this
    rw [hd] at hy hu
    rcases List.mem_cons.1 hy with rfl | hy
    · exact hz
    · cases hb : Op.bytesLess y s with
      | false => rfl
      | true => rw [bl_trans (List.rel_of_pairwise_cons hu hy) hb] at hz; cases hz
theorem put_sorted {l : List Str} (h : sortedB l = true) (s : Str) : sortedB (putL l s) = true := by
  unfold putL
  split
  · exact h
  · rename_i hne
    have hu := up_of h
    refine of_up ?_
    rw [List.append_assoc]
    refine List.pairwise_append.2 ⟨hu.sublist (List.take_sublist _ _), List.pairwise_append.2 ⟨List.pairwise_singleton _ _, hu.sublist (List.drop_sublist _ _), fun x hx y hy => ?_⟩, fun x hx y hy => ?_⟩
    · rw [List.mem_singleton] at hx
      subst hx
      rcases bl_tot (drop_ge h x y hy) with rfl | hlt
      · exfalso
        have hup := hu.sublist (List.drop_sublist (leastD l y) l)
        obtain ⟨k, hk⟩ := List.getElem?_of_mem hy
        rw [List.getElem?_drop] at hk
        cases k with
        | zero => exact hne hk
        | succ k =>
          obtain ⟨z, hz⟩ : ∃ z, l[leastD l y]? = some z := ⟨_, List.getElem?_eq_getElem (by have := (List.getElem?_eq_some_iff.1 hk).1; omega)⟩
          have hzd : z ∈ l.drop (leastD l y) := List.mem_of_getElem? (i := 0) (by rw [List.getElem?_drop]; exact hz)
          have hzy := List.pairwise_iff_getElem.1 hu (leastD l y) (leastD l y + (k + 1)) (List.getElem?_eq_some_iff.1 hz).1 (List.getElem?_eq_some_iff.1 hk).1 (by omega)
          rw [(List.getElem?_eq_some_iff.1 hz).2, (List.getElem?_eq_some_iff.1 hk).2] at hzy
          rw [drop_ge h y z hzd] at hzy
          cases hzy
      · exact hlt
    · rcases List.mem_append.1 hy with hy | hy
      · rw [List.mem_singleton] at hy
        subst hy
        exact take_lt l y x hx
      · have e := List.take_append_drop (leastD l s) l
        rw [← e] at hu
        exact (List.pairwise_append.1 hu).2.2 x hx y hy
theorem fold_sorted : ∀ (l r : List Str), sortedB r = true → sortedB (l.foldl putL r) = true
  | [], _, h => h
  | x :: l, r, h => fold_sorted l (putL r x) (put_sorted h x)
theorem sortL_sorted (l : List Str) : sortedB (sortL l) = true := fold_sorted l [] rfl
/-- Around's strings, with what stands before them and behind them -/
theorem ar_split (x : List Str) (a b : Str) : x = x.take (arI x a) ++ (arT x a b ++ x.drop (arJ x a b)) ∧ arI x a ≤ arJ x a b ∧ arJ x a b ≤ x.length := by
  have h1 := least_le x a
  have hij : arI x a ≤ arJ x a b := by unfold arI arJ; omega
  have hj : arJ x a b ≤ x.length := by unfold arJ; omega
  refine ⟨?_, hij, hj⟩
  have e : arT x a b ++ x.drop (arJ x a b) = x.drop (arI x a) := by
    unfold arT
    conv => rhs; rw [← List.take_append_drop (arJ x a b - arI x a) (x.drop (arI x a))]
    rw [List.drop_drop, show arI x a + (arJ x a b - arI x a) = arJ x a b by omega]
  rw [e, List.take_append_drop]
theorem arT_len (x : List Str) (a b : Str) : (arT x a b).length = arJ x a b - arI x a := by
  have h := ar_split x a b
  unfold arT
  rw [List.length_take, List.length_drop]
  omega
theorem arT_at {x : List Str} {a b : Str} {k : Nat} {s : Str} (h : (arT x a b)[k]? = some s) : x[arI x a + k]? = some s := by
  unfold arT at h
  rw [List.getElem?_take] at h
  split at h
  · rwa [List.getElem?_drop] at h
  · cases h
theorem mem_take_at {x : List Str} {k m : Nat} {s : Str} (h : x[k]? = some s) (hk : k < m) : s ∈ x.take m := List.mem_of_getElem? (i := k) (by rw [List.getElem?_take, if_pos hk]; exact h)
theorem mem_drop_at {x : List Str} {k m : Nat} {s : Str} (h : x[k]? = some s) (hk : m ≤ k) : s ∈ x.drop m := List.mem_of_getElem? (i := k - m) (by rw [List.getElem?_drop, show m + (k - m) = k by omega]; exact h)
theorem take_sub {x : List Str} {m n : Nat} {s : Str} (h : s ∈ x.take m) (hm : m ≤ n) : s ∈ x.take n := by
  obtain ⟨k, hk⟩ := List.getElem?_of_mem h
  rw [List.getElem?_take] at hk
  split at hk
  · exact mem_take_at hk (by omega)
  · cases hk
theorem drop_sub {x : List Str} {m n : Nat} {s : Str} (h : s ∈ x.drop n) (hm : m ≤ n) : s ∈ x.drop m := by
  obtain ⟨k, hk⟩ := List.getElem?_of_mem h
  rw [List.getElem?_drop] at hk
  exact mem_drop_at hk (by omega)
theorem ar_edge1 {x : List Str} (a b : Str) : edge1 (arI x a) a (arT x a b) = true := by
  have h := ar_split x a b
  have hl := arT_len x a b
  have hla := least_le x a
  unfold edge1
  by_cases h0 : arI x a = 0
  · rw [h0]; rfl
  · have hI : arI x a + 1 = leastD x a := by unfold arI at h0 ⊢; omega
    have hJ : arI x a < arJ x a b := by unfold arJ; omega
    cases hT : arT x a b with
    | nil => rw [hT] at hl; simp at hl; omega
    | cons y t =>
      have hy := arT_at (x := x) (a := a) (b := b) (k := 0) (s := y) (by rw [hT]; rfl)
      simp [take_lt x a y (mem_take_at hy (by omega))]
theorem ar_edge2 {x : List Str} (hs : sortedB x = true) (a b : Str) : edge2 x.length (arI x a) b (arT x a b) = true := by
  have h := ar_split x a b
  have hl := arT_len x a b
  unfold edge2
  rw [hl, show arI x a + (arJ x a b - arI x a) = arJ x a b by omega]
  by_cases hJ : arJ x a b < x.length
  · have e : arJ x a b = max (leastD x a) (leastD x b) + 1 := by unfold arJ at hJ ⊢; omega
    have hI : arI x a < arJ x a b := by rw [e]; unfold arI; omega
    rw [List.getLast?_eq_getElem?, hl]
    cases hk : (arT x a b)[arJ x a b - arI x a - 1]? with
    | none => rw [List.getElem?_eq_none_iff, hl] at hk; omega
    | some y =>
      have hy := arT_at hk
      rw [show arI x a + (arJ x a b - arI x a - 1) = max (leastD x a) (leastD x b) by omega] at hy
      have := drop_ge hs b y (mem_drop_at hy (by omega))
      simp [this]
  · simp [hJ]
theorem ar_filter {x : List Str} (hs : sortedB x = true) (a b : Str) : (arT x a b).filter (between a b) = x.filter (between a b) := by
  have h := ar_split x a b
  conv => rhs; rw [h.1]
  rw [List.filter_append, List.filter_append]
  have e1 : (x.take (arI x a)).filter (between a b) = [] := List.filter_eq_nil_iff.2 fun y hy => by
    have := take_lt x a y (take_sub hy (by unfold arI; omega))
    simp [between, this]
  have e2 : (x.drop (arJ x a b)).filter (between a b) = [] := List.filter_eq_nil_iff.2 fun y hy => by
    by_cases hJ : arJ x a b < x.length
    · have := drop_ge hs b y (drop_sub hy (by unfold arJ at hJ ⊢; omega))
      simp [between, this]
    · rw [List.drop_eq_nil_of_le (by omega)] at hy
      cases hy
  rw [e1, e2, List.nil_append, List.append_nil]
theorem ar_ver (x : List Str) (h40 : x.length ≤ 1099511627776) (a b : Str) : verB (root x) x.length (arI x a) (arT x a b) (arP x a b) = true := by
  have h := ar_split x a b
  have hl := arT_len x a b
  have := ver_true x (arI x a) (arT x a b) (by omega) h40 (fun k s hk => arT_at hk)
  rw [hl, show arI x a + (arJ x a b - arI x a) = arJ x a b by omega] at this
  exact this
/-- what Around returns shows exactly the strings between -/
theorem ar_win {x : List Str} (hs : sortedB x = true) (h40 : x.length ≤ 1099511627776) (a b : Str) : winB (root x) x.length (arI x a) a b (arT x a b) (arP x a b) = true := by
  unfold winB
  rw [ar_ver x h40, show sortedB (arT x a b) = true from sorted_cut hs _ _, show edge1 (arI x a : Int).toNat a (arT x a b) = true from ar_edge1 a b, show edge2 (x.length : Int).toNat (arI x a : Int).toNat b (arT x a b) = true from ar_edge2 hs a b]
  rfl
theorem ar_winL {x : List Str} (hs : sortedB x = true) (h40 : x.length ≤ 1099511627776) (a b : Str) : winL (root x) x.length (arI x a) a b (arT x a b) (arP x a b) = x.filter (between a b) := by
  rw [winL_yes (ar_win hs h40 a b), ar_filter hs]
theorem win_led {r : Str} {n i : Int} {a b : Str} {LL PL : List Str} (h : winB r n i a b LL PL = true) : fitsB n i LL PL = true ∧ ledS n i LL PL = r := by
  unfold winB at h
  simp only [Bool.and_eq_true] at h
  have hv := h.1.1.1
  rw [ver_led, Bool.and_eq_true, beq_iff_eq] at hv
  exact ⟨hv.1, hv.2.symm⟩
end Go.Proofs.Ytljjmoeplfcblaa
