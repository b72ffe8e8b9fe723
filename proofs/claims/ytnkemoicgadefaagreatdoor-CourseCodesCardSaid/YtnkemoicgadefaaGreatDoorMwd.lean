/-
  Made catalogs: words of the walk.
-/
import Derived.Test.YtnkemoicgadefaaGreatDoorMmd
import Derived.Test.YtnkemoicgadefaaGreatDoorRod
import Derived.Deep.DeepCutAuto
namespace Go.Proofs.YtnkemoicgadefaaGreatDoor
open Go.RowKit
attribute [local go_sem] get_mk extract_mk
theorem own_keep {w w' : World} {b e sz n : Nat} {v : Value} {vs : List Value} {r : Option Nat} (h : w.ownsRow b e sz v n vs) (g : w.grownBy w' r) (hr : ∀ j, r = some j → j < b) : w'.ownsRow b e sz v n vs :=
  World.ownsRow.kept h g (by
    cases hv : v.ownBlock with
    | none => exact .inl rfl
    | some k =>
      refine .inr (fun e => ?_)
      have h1 := (World.ownsRow.lt h k hv).1
      have h2 := hr k e.symm
      omega)
/-- offers of the call's own, with lists of its own -/
structure OutIs (w : World) (b : Nat) (v : Value) (vs : List V) (l : List O) : Prop where
  own : w.ownsRow b 41 5 v l.length (vc vs)
  vlen : vs.length = l.length
  is : ∀ (j : Nat) (u : V) (o : O), vs[j]? = some u → l[j]? = some o → VIs w u o ∧ OwnI w b (.slice u.sA u.sn u.sc) o.slots ∧ OwnS w b (.slice u.nA u.nn u.nc) o.needs
  dis : ∀ (j : Nat) (u : V), vs[j]? = some u → ∀ k, v.ownBlock = some k → (Value.slice u.sA u.sn u.sc).ownBlock ≠ some k ∧ (Value.slice u.nA u.nn u.nc).ownBlock ≠ some k
theorem own_vis {w W : World} {v : V} {o : O} {b : Nat} (h : VIs w v o) (hi : OwnI W b (.slice v.sA v.sn v.sc) o.slots) (hs : OwnS W b (.slice v.nA v.nn v.nc) o.needs) : VIs W v o :=
  ⟨h.code, h.cr, h.pl, h.ok, ⟨vals_own hi h.slots.len (fun v hv => by obtain ⟨x, _, rfl⟩ := List.mem_map.1 hv; rfl), h.slots.ok⟩, ⟨vals_own hs h.needs.len (fun v hv => by obtain ⟨x, _, rfl⟩ := List.mem_map.1 hv; rfl), h.needs.ok⟩, h.few⟩
theorem OutIs.kept {w w' : World} {b : Nat} {v : Value} {vs : List V} {l : List O} {r : Option Nat} (h : OutIs w b v vs l) (g : w.grownBy w' r) (hr : ∀ j, r = some j → j < b) : OutIs w' b v vs l :=
  ⟨own_keep h.own g hr, h.vlen, fun j u o hu ho => by
    obtain ⟨h1, h2, h3⟩ := h.is j u o hu ho
    have i2 : OwnI w' b _ _ := own_keep h2 g hr
    have i3 : OwnS w' b _ _ := own_keep h3 g hr
    exact ⟨own_vis h1 i2 i3, i2, i3⟩, h.dis⟩
theorem OutIs.offs {w : World} {b : Nat} {v : Value} {vs : List V} {l : List O} (h : OutIs w b v vs l) : ∃ A c, v = .slice A l.length c ∧ Offs w A l.length c vs l ∧ ∀ ad, A = some ad → b ≤ ad.block := by
  obtain ⟨A, c, e, hv, hb⟩ := own_vals h.own (fun _ hv => vc_one hv)
  exact ⟨A, c, e, ⟨hv, rfl, h.vlen, fun j u o hu ho => (h.is j u o hu ho).1⟩, hb⟩
theorem out_nil (w : World) (b : Nat) : OutIs w b (.slice none 0 0) [] [] := ⟨World.ownsRow_nil _ _ 41 5, rfl, (fun _ _ _ h => by simp at h), (fun _ _ h => by simp at h)⟩
theorem OutIs.snoc {w w' : World} {b b2 : Nat} {v v2 : Value} {vs : List V} {l : List O} {u : V} {o : O} (h : OutIs w b v vs l) (hown : w'.ownsRow b 41 5 v2 (l.length + 1) (vc vs ++ u.cells.toList)) (hg : w.grownBy w' v.ownBlock)
    (hb : v2.ownBlock = v.ownBlock ∨ v2.ownBlock = some w.heap.size) (hu : VIs w u o) (hi : OwnI w b2 (.slice u.sA u.sn u.sc) o.slots) (hs : OwnS w b2 (.slice u.nA u.nn u.nc) o.needs) (hb2 : b ≤ b2) (hlt : ∀ j, v.ownBlock = some j → j < b2) : OutIs w' b v2 (vs ++ [u]) (l ++ [o]) := by
  have hni : ∀ k, v.ownBlock = some k → (Value.slice u.sA u.sn u.sc).ownBlock ≠ some k ∧ (Value.slice u.nA u.nn u.nc).ownBlock ≠ some k := fun k hk => by
    have := hlt k hk
    exact ⟨fun e => by have := (World.ownsRow.lt hi k e).1; omega, fun e => by have := (World.ownsRow.lt hs k e).1; omega⟩
  have key : ∀ {e sz n : Nat} {x : Value} {xs : List Value}, w.ownsRow b e sz x n xs → (∀ k, v.ownBlock = some k → x.ownBlock ≠ some k) → w'.ownsRow b e sz x n xs := fun hx hd => World.ownsRow.kept hx hg (by
    cases hv : v.ownBlock with
    | none =>
      cases hxb : Value.ownBlock _ with
      | none => exact .inl rfl
      | some k => exact .inr (by simp)
    | some k => exact .inr (hd k hv))
  refine ⟨?_, by simp [h.vlen], fun j x y hx hy => ?_, fun j x hx k hk => ?_⟩
  · rw [List.length_append, vc_app]
    simpa [vc] using hown
  · by_cases hj : j < l.length
    · rw [List.getElem?_append_left (by rw [h.vlen]; exact hj)] at hx
      rw [List.getElem?_append_left hj] at hy
      obtain ⟨h1, h2, h3⟩ := h.is j x y hx hy
      have i2 : OwnI w' b _ _ := key h2 (fun k hk => (h.dis j x hx k hk).1)
      have i3 : OwnS w' b _ _ := key h3 (fun k hk => (h.dis j x hx k hk).2)
      exact ⟨own_vis h1 i2 i3, i2, i3⟩
    · have hj2 : j = l.length := by
        have := (List.getElem?_eq_some_iff.1 hy).1
        simp at this
        omega
      subst hj2
      rw [List.getElem?_append_right (by rw [h.vlen]; omega)] at hx
      rw [List.getElem?_append_right (by omega)] at hy
      simp [h.vlen] at hx hy
      subst hx hy
      have i2 : OwnI w' b _ _ := key (own_base hi hb2) (fun k hk => (hni k hk).1)
      have i3 : OwnS w' b _ _ := key (own_base hs hb2) (fun k hk => (hni k hk).2)
      exact ⟨own_vis hu i2 i3, i2, i3⟩
  · by_cases hj : j < vs.length
    · rw [List.getElem?_append_left hj] at hx
      rcases hb with hb | hb
      · exact h.dis j x hx k (hb ▸ hk)
      · rw [hb] at hk
        injection hk with hk
        obtain ⟨y, hy⟩ : ∃ y, l[j]? = some y := ⟨_, List.getElem?_eq_getElem (by rw [← h.vlen]; exact hj)⟩
        obtain ⟨_, h2, h3⟩ := h.is j x y hx hy
        exact ⟨fun e => by have := (World.ownsRow.lt h2 k e).2; omega, fun e => by have := (World.ownsRow.lt h3 k e).2; omega⟩
    · have hj2 : j = vs.length := by
        have := (List.getElem?_eq_some_iff.1 hx).1
        simp at this
        omega
      subst hj2
      rw [List.getElem?_append_right (by omega)] at hx
      simp at hx
      subst hx
      rcases hb with hb | hb
      · exact hni k (hb ▸ hk)
      · rw [hb] at hk
        injection hk with hk
        exact ⟨fun e => by have := (World.ownsRow.lt hi k e).2; omega, fun e => by have := (World.ownsRow.lt hs k e).2; omega⟩
theorem new_vals5 (W : World) (u : V) : Vals (W.alloc (.cells u.cells 41)) (some ⟨W.heap.size, 0, none⟩) 1 1 5 u.cells.toList :=
  ⟨rfl, Nat.le_refl _, by omega, (fun h => by cases h), (fun x hx => vc_one (l := [u]) (by simpa [vc] using hx)), fun _ => ⟨_, rfl, by simp, fun j v hj => by rw [add_zero, cell_at rfl]; simpa using hj⟩⟩
theorem draw_n (P : Nat) (A : Option Addr) (n c : Nat) (l : List Int) (at_ : Nat) (m : Nat) (hm : 0 < m) (hm9 : m ≤ 1000) (w : World) (hr : Row w P 51 #[.slice A n c, .int .i64 (at_ : Int)]) (ha : at_ ≤ n) (h : Ints w A n c l) (hne : ∀ ad, A = some ad → 0 < n → ad.block ≠ P) :
    Calls Tryz.prog 22 #[.pointer (some ⟨P, 0, none⟩), .int .i64 (m : Int)] w fun e w' => ∃ (i a : Nat), e = .returned (.int .i64 (i : Int)) ∧ i < m ∧ a ≤ n ∧ Row w' P 51 #[.slice A n c, .int .i64 (a : Int)] ∧ w.grownBy w' (some P) := by
  refine (draw_r P A n c l at_ (m : Int) (by omega) (by omega) w hr ha h hne).mono ?_
  rintro e w' ⟨v, a, rfl, ⟨h1, h2⟩, h3, h4, h5⟩
  exact ⟨v.toNat, a, by rw [Int.toNat_of_nonneg h1], by omega, h3, h4, h5⟩
theorem grow_some {a b : World} (P : Nat) (h : a.grownBy b none) : a.grownBy b (some P) := ⟨h.os, h.tape, h.output, h.size, fun k h1 _ => h.block k h1 (by simp)⟩
theorem grow_p {a b c : World} {P : Nat} (h : a.grownBy b (some P)) (k : b.grownBy c none) : a.grownBy c (some P) := h.trans (grow_some P k)
/-- the draws of a walk: where the numbers lie, and how far they are read -/
structure Dr (w : World) (P : Nat) (A : Option Addr) (n c at_ : Nat) : Prop where
  row : Row w P 51 #[.slice A n c, .int .i64 (at_ : Int)]
  le : at_ ≤ n
theorem Dr.kept {w w' : World} {P : Nat} {A : Option Addr} {n c at_ : Nat} {r : Option Nat} (h : Dr w P A n c at_) (g : w.grownBy w' r) (hr : some P ≠ r) : Dr w' P A n c at_ := ⟨h.row.keptR g hr, h.le⟩
theorem row6 {w : World} {b i : Nat} {a0 a1 a2 a3 a4 a5 : Int} {lo hi : Int} (h : Row w b 3 #[.int .i64 a0, .int .i64 a1, .int .i64 a2, .int .i64 a3, .int .i64 a4, .int .i64 a5]) (hi6 : i < 6) (hr : ∀ x ∈ [a0, a1, a2, a3, a4, a5], lo ≤ x ∧ x ≤ hi) :
    ∃ x : Int, w.cell? ⟨b, i, none⟩ = some (.int .i64 x) ∧ lo ≤ x ∧ x ≤ hi := by
  rcases (show i = 0 ∨ i = 1 ∨ i = 2 ∨ i = 3 ∨ i = 4 ∨ i = 5 by omega) with rfl | rfl | rfl | rfl | rfl | rfl
  · exact ⟨a0, h.c 0 rfl, hr a0 (by simp)⟩
  · exact ⟨a1, h.c 1 rfl, hr a1 (by simp)⟩
  · exact ⟨a2, h.c 2 rfl, hr a2 (by simp)⟩
  · exact ⟨a3, h.c 3 rfl, hr a3 (by simp)⟩
  · exact ⟨a4, h.c 4 rfl, hr a4 (by simp)⟩
  · exact ⟨a5, h.c 5 rfl, hr a5 (by simp)⟩
theorem name_them {P : Program} {md : Region.Mode} {ops : Array Oper} {Q : Exit → Act → World → Prop} {S : World → Prop} {fuel : Nat} {listed : Array Bool} {a : Act} {w : World}
    (h : ∀ (ops' : Array Oper) (Q' : Exit → Act → World → Prop) (a' : Act), ops' = ops → Q' = Q → a' = a → wpAnyH P md ops' Q' S fuel listed a' w) : wpAnyH P md ops Q S fuel listed a w := h _ _ _ rfl rfl rfl
end Go.Proofs.YtnkemoicgadefaaGreatDoor
