/-
  Rings that numbers make: they are valid.
-/
import Derived.Test.YtecobgjkodmaiaaDoorSign
import Derived.Test.YtecobgjkodmaiaaDoorRing2
namespace Go.Proofs.YtecobgjkodmaiaaDoor
open Go.RowKit
attribute [local go_sem] get_mk extract_mk
/-- the slice A, n, c holds the numbers l -/
structure Ints (w : World) (A : Option Addr) (n c : Nat) (l : List Int) : Prop where
  len : n = l.length
  le : n ≤ c
  cap : c ≤ 9223372036854775807
  ok : ∀ x ∈ l, i64 x
  cell : 0 < n → ∃ ad, A = some ad ∧ ad.block < w.heap.size ∧ ∀ (j : Nat) (x : Int), l[j]? = some x → w.cell? (ad.add j) = some (.int .i64 x)
theorem Ints.kept {w w' : World} {A : Option Addr} {n c : Nat} {l : List Int} (h : Ints w A n c l) (g : w.grownBy w' none) : Ints w' A n c l :=
  ⟨h.len, h.le, h.cap, h.ok, fun hn => by
    obtain ⟨ad, e, hb, hc⟩ := h.cell hn
    exact ⟨ad, e, Nat.lt_of_lt_of_le hb g.size, fun j x hj => gcell g (hc j x hj)⟩⟩
theorem mx_bound (z : Int) (h : i64 z) : 0 ≤ max z (IntKind.i64.wrap (-IntKind.i64.wrap (z + 1))) ∧ max z (IntKind.i64.wrap (-IntKind.i64.wrap (z + 1))) ≤ 9223372036854775807 := by
  obtain ⟨h1, h2⟩ := h
  rw [IntKind.wrap_i64, IntKind.wrap_i64]
  omega
def nm : Nat → Str
  | 0 => [111, 97, 107]
  | 1 => [101, 108, 109]
  | _ => [97, 115, 104]
theorem nm_at {k : Nat} (h : k < 3) : (#[.string ⟨#[111, 97, 107]⟩, .string ⟨#[101, 108, 109]⟩, .string ⟨#[97, 115, 104]⟩] : Array Value)[k]? = some (.string ⟨(nm k).toArray⟩) := by
  match k, h with
  | 0, _ => rfl
  | 1, _ => rfl
  | 2, _ => rfl
/-- what Made makes: keys that are right one after the other -/
structure MadeP (l : List K) : Prop where
  ok : ∀ x ∈ l, x.ok
  id : ∀ (j : Nat) (x : K), l[j]? = some x → x.id = 1 + 2 * (j : Int)
  sec : ∀ x ∈ l, x.sec ≠ [] ∧ x.sec.length ≤ 40
  frm : ∀ x ∈ l, 0 ≤ x.frm ∧ x.frm ≤ 360
  stl : ∀ x ∈ l, x.stl = 0 ∨ x.frm < x.stl ∧ x.stl ≤ 1000
  up : ∀ (i j : Nat) (x y : K), i < j → l[i]? = some x → l[j]? = some y → x.frm ≤ y.frm
theorem MadeP.nil : MadeP [] := ⟨(fun _ h => by cases h), (fun _ _ h => by simp at h), (fun _ h => by cases h), (fun _ h => by cases h), (fun _ h => by cases h), (fun _ _ _ _ _ h => by simp at h)⟩
theorem snoc_at {l : List K} {x y : K} {j : Nat} (h : (l ++ [x])[j]? = some y) : l[j]? = some y ∨ j = l.length ∧ y = x := by
  rcases Nat.lt_or_ge j l.length with hj | hj
  · rw [List.getElem?_append_left hj] at h; exact .inl h
  · rw [List.getElem?_append_right hj] at h
    rcases Nat.eq_zero_or_pos (j - l.length) with e | e
    · rw [e] at h; simp at h; exact .inr ⟨by omega, h.symm⟩
    · rw [List.getElem?_eq_none (by simp; omega)] at h; cases h
theorem nm_len (k : Nat) : (nm k).length = 3 := by unfold nm; split <;> rfl
theorem made_next {l : List K} {k : Nat} {s day stl : Int} (h : MadeP l) (hl : l.length = k) (hk : k < 3) (hs : i64 s) (h0 : 0 ≤ day) (h1 : day ≤ 120 * (k : Int)) (hf : ∀ y ∈ l, y.frm ≤ day) (hst : stl = 0 ∨ day < stl ∧ stl ≤ 1000) :
    MadeP (l ++ [⟨1 + 2 * (k : Int), nm k ++ Lib.itoa s, day, stl⟩]) ∧ K.ok ⟨1 + 2 * (k : Int), nm k ++ Lib.itoa s, day, stl⟩ := by
  have hn := nm_len k
  have hi := itoa_len hs
  have hok : K.ok ⟨1 + 2 * (k : Int), nm k ++ Lib.itoa s, day, stl⟩ := ⟨⟨by simp only; omega, by simp only; omega⟩, ⟨by simp only; omega, by simp only; omega⟩, ⟨by simp only; omega, by simp only; omega⟩, by simp; omega⟩
  refine ⟨⟨ok_app h.ok hok, ?_, ?_, ?_, ?_, ?_⟩, hok⟩
  · intro j x hj
    rcases snoc_at hj with hj | ⟨e, e2⟩
    · exact h.id j x hj
    · rw [e2, e, hl]
  · intro x hx
    rcases List.mem_append.1 hx with hx | hx
    · exact h.sec x hx
    · rw [List.mem_singleton.1 hx]
      refine ⟨fun e => ?_, by simp; omega⟩
      have e2 := congrArg List.length (show nm k ++ Lib.itoa s = [] from e)
      rw [List.length_append, hn, List.length_nil] at e2
      omega
  · intro x hx
    rcases List.mem_append.1 hx with hx | hx
    · exact h.frm x hx
    · rw [List.mem_singleton.1 hx]; exact ⟨h0, by simp only; omega⟩
  · intro x hx
    rcases List.mem_append.1 hx with hx | hx
    · exact h.stl x hx
    · rw [List.mem_singleton.1 hx]; exact hst
  · intro i j x y hij hx hy
    rcases snoc_at hx with hx | ⟨e, rfl⟩
    · rcases snoc_at hy with hy | ⟨e, rfl⟩
      · exact h.up i j x y hij hx hy
      · exact hf x (List.mem_of_getElem? hx)
    · rcases snoc_at hy with hy | ⟨e2, rfl⟩
      · have := (List.getElem?_eq_some_iff.1 hy).1; omega
      · exact Int.le_refl _
theorem own_low {v : Value} {base B : Nat} (h : ∀ g, v.ownBlock = some g → base ≤ g) (hB : B < base) : some B ≠ v.ownBlock := fun e => by have := h B e.symm; omega
theorem own_not {v : Value} {X : Nat} (h : ∀ g, v.ownBlock = some g → g ≠ X) : v.ownBlock = none ∨ v.ownBlock ≠ some X := .inr (fun e => h X e rfl)
theorem own_high {gb base B n c : Nat} (h : base ≤ gb) (hB : B < base) : (Value.slice (some ⟨gb, 0, none⟩) n c).ownBlock = none ∨ (Value.slice (some ⟨gb, 0, none⟩) n c).ownBlock ≠ some B := .inr (by simp [Value.ownBlock]; omega)
def MadeIs (w : World) (s : Int) (e : Ending) (w' : World) : Prop := ∃ A n c l, e = .returned (.agg #[.int .i64 s, .slice A n c]) ∧ Keys w' A n c l ∧ MadeP l ∧ 1 ≤ l.length ∧ l.length ≤ 3 ∧ w.grownBy w' none
set_option maxRecDepth 100000 in
set_option maxHeartbeats 4000000 in
/-- Made -/
theorem made_k (s : Int) (A : Option Addr) (n c : Nat) (il : List Int) (hs : i64 s) (w : World) (hi : Ints w A n c il) :
    Calls Tryd.prog 28 #[.int .i64 s, .slice A n c] w (MadeIs w s) := by
  obtain ⟨w1, e1, HR, g1⟩ := row_of w 34 #[.int .i64 0, .slice none 0 0]
  have E1 := Lib.hid e1
  have HI := Lib.hid (fun W (g : w.grownBy W none) => hi.kept g)
  have HL := Lib.hid hi.len
  have HIO := Lib.hid hi.ok
  have hnc := hi.le
  have hcap := hi.cap
  have hs1 : w1.heap.size = w.heap.size + 1 := by rw [e1]; simp
  clear e1 hi
  go_enter Tryd.func28, Tryd.ntmps28
  go_upto_region 1 with fail
  rw [← E1.out]
  clear E1
  go_upto_region 2 with fail
  obtain ⟨w2, e2, HB, g2⟩ := row_of w1 34 #[.int .i64 s, .slice none 0 0]
  rw [← e2]
  have hs2 : w2.heap.size = w.heap.size + 1 + 1 := by rw [e2]; simp [hs1]
  replace HR := HR.kept g2
  have gg := g1.trans g2
  have HO := OwnK.nil w2 w2.heap.size
  have hbw : Hid (∀ W, w.grownBy W none → w2.heap.size ≤ W.heap.size ∨ True) := Lib.hid (fun W _ => .inr trivial)
  clear e2 g1 g2 hbw
  rw [hs1] at HB
  obtain ⟨R, hR⟩ : ∃ R, w.heap.size = R := ⟨_, rfl⟩
  obtain ⟨B, hB⟩ : ∃ B, w.heap.size + 1 = B := ⟨_, rfl⟩
  obtain ⟨base, hbase⟩ : ∃ base, w2.heap.size = base := ⟨_, rfl⟩
  rw [hbase] at HO
  rw [hB] at HB
  rw [hR] at HR
  rw [hB, hR]
  have hwR : w.heap.size ≤ R := by omega
  have hwB : w.heap.size ≤ B := by omega
  have hwb : w.heap.size ≤ base := by omega
  have hRb : R < base := by omega
  have hBb : B < base := by omega
  have hRB : R ≠ B := by omega
  have hbz : base ≤ w2.heap.size := by omega
  clear hR hB hbase hs1 hs2
  go_wp2_with fail
  go_loopw [6, 7] (fun dv iv wr => ∃ (k : Nat) (day : Int) (A0 : Option Addr) (c0 : Nat) (l : List K), k ≤ 3 ∧ iv = .int .i64 (k : Int) ∧ dv = .int .i64 day ∧ Row wr B 34 #[.int .i64 s, .slice A0 l.length c0] ∧ Row wr R 34 #[.int .i64 0, .slice none 0 0] ∧ OwnK wr base (.slice A0 l.length c0) l ∧ l.length = k ∧ MadeP l ∧ 0 ≤ day ∧ day ≤ 120 * (k : Int) ∧ (∀ y ∈ l, y.frm ≤ day) ∧ base ≤ wr.heap.size ∧ w.grownBy wr none) (fun _ iv _ => 3 - (intOf iv).toNat)
  case atStart => exact ⟨0, 0, none, 0, [], by omega, rfl, rfl, HB, HR, HO, rfl, MadeP.nil, by omega, by omega, (fun _ h => by cases h), hbz, gg⟩
  case round =>
    clear HB HR HO gg hbz
    obtain ⟨k, day, A0, c0, l, hk, rfl, rfl, HB, HR, HO, hlk, HP, hd0, hd1, hfr, hbb, gw⟩ := hrel
    have HLK := Lib.hid hlk
    have HFR := Lib.hid hfr
    have HPP := Lib.hid HP
    clear hlk hfr HP
    by_cases hlt : k < 3
    · by_cases hkn : k < n
      · obtain ⟨ad, rfl, hbl, hc⟩ := (HI.out wr gw).cell (by omega)
        obtain ⟨z, hz⟩ : ∃ z, il[k]? = some z := ⟨_, List.getElem?_eq_getElem (by have := HL.out; omega)⟩
        have q1 := hc k z hz
        have hvb := mx_bound z (HIO.out z (List.mem_of_getElem? hz))
        clear hc hz
        go_upto_region 8 with fail
        have gz : wr.grownBy wr.drew none := grown_dr (grown_refl _)
        refine wp_region_noPanic ?_
        refine wp_region_held_drew (S := (fun w' => wr.grownBy w' none)) (by kernel_rfl) ?_ (fun hHeld => ?_)
        · (try dsimp only); (repeat (first | assumption | exact grown_refl _ | refine grown_dr ?_ | refine grown_dn ?_ | refine grown_al ?_))
        refine wpAnyH_take (i := 0) (oi := _) (v := ?_) rfl (by kernel_rfl) (by kernel_rfl) (by kernel_rfl) (fun _ _ _ h => h) (Or.inl ⟨by rfl, ?_⟩) (by assumption) ?_
        rotate_left 1
        · (intro w hSw; (try dsimp only at hSw); go_simp; first | done | with_reducible rfl)
        try go_simp
        refine wpAnyH_take (i := 1) (oi := _) (v := ?_) rfl (by kernel_rfl) (by kernel_rfl) (by kernel_rfl) (fun _ _ _ h => h) (Or.inl ⟨by rfl, ?_⟩) (by assumption) ?_
        rotate_left 1
        · (intro w hSw; (try dsimp only at hSw); go_simp; first | done | with_reducible rfl)
        try go_simp
        refine wpAnyH_take (i := 2) (oi := _) (v := ?_) rfl (by kernel_rfl) (by kernel_rfl) (by kernel_rfl) (fun _ _ _ h => h) (Or.inl ⟨by rfl, ?_⟩) (by assumption) ?_
        rotate_left 1
        · (intro w hSw; (try dsimp only at hSw); go_simp; first | done | with_reducible rfl)
        try go_simp
        refine wpAnyH_take (i := 3) (oi := _) (v := .int .i64 z) rfl (by kernel_rfl) (by kernel_rfl) (by kernel_rfl) (fun _ _ _ h => h) (Or.inl ⟨by kernel_rfl, ?_⟩) (by assumption) ?_
        · (intro w hSw; (try dsimp only at hSw); go_simp; have y0 := gcell hSw q1; clear hSw; go_simp; first | done | with_reducible rfl)
        try go_simp
        refine wpAnyH_take (i := 4) (oi := _) (v := ?_) rfl (by kernel_rfl) (by kernel_rfl) (by kernel_rfl) (fun _ _ _ h => h) (Or.inl ⟨by rfl, ?_⟩) (by assumption) ?_
        rotate_left 1
        · (intro w hSw; (try dsimp only at hSw); go_simp; first | done | with_reducible rfl)
        try go_simp
        refine wpAnyH_take (i := 5) (oi := _) (v := ?_) rfl (by kernel_rfl) (by kernel_rfl) (by kernel_rfl) (fun _ _ _ h => h) (Or.inl ⟨by rfl, ?_⟩) (by assumption) ?_
        rotate_left 1
        · (intro w hSw; (try dsimp only at hSw); go_simp; first | done | with_reducible rfl)
        try go_simp
        refine wpAnyH_take (i := 6) (oi := _) (v := ?_) rfl (by kernel_rfl) (by kernel_rfl) (by kernel_rfl) (fun _ _ _ h => h) (Or.inl ⟨by rfl, ?_⟩) (by assumption) ?_
        rotate_left 1
        · (intro w hSw; (try dsimp only at hSw); go_simp; first | done | with_reducible rfl)
        try go_simp
        refine wpAnyH_take (i := 7) (oi := _) (v := .int .i64 z) rfl (by kernel_rfl) (by kernel_rfl) (by kernel_rfl) (fun _ _ _ h => h) (Or.inl ⟨by kernel_rfl, ?_⟩) (by assumption) ?_
        · (intro w hSw; (try dsimp only at hSw); go_simp; have y0 := gcell hSw q1; clear hSw; go_simp; first | done | with_reducible rfl)
        try go_simp
        refine wpAnyH_take (i := 8) (oi := _) (v := ?_) rfl (by kernel_rfl) (by kernel_rfl) (by kernel_rfl) (fun _ _ _ h => h) (Or.inl ⟨by rfl, ?_⟩) (by assumption) ?_
        rotate_left 1
        · (intro w hSw; (try dsimp only at hSw); go_simp; first | done | with_reducible rfl)
        try go_simp
        refine wpAnyH_take (i := 9) (oi := _) (v := ?_) rfl (by kernel_rfl) (by kernel_rfl) (by kernel_rfl) (fun _ _ _ h => h) (Or.inl ⟨by rfl, ?_⟩) (by assumption) ?_
        rotate_left 1
        · (intro w hSw; (try dsimp only at hSw); go_simp; first | done | with_reducible rfl)
        try go_simp
        refine wpAnyH_take (i := 10) (oi := _) (v := ?_) rfl (by kernel_rfl) (by kernel_rfl) (by kernel_rfl) (fun _ _ _ h => h) (Or.inl ⟨by rfl, ?_⟩) (by assumption) ?_
        rotate_left 1
        · (intro w hSw; (try dsimp only at hSw); go_simp; first | done | with_reducible rfl)
        try go_simp
        refine wpAnyH_take (i := 11) (oi := _) (v := ?_) rfl (by kernel_rfl) (by kernel_rfl) (by kernel_rfl) (fun _ _ _ h => h) (Or.inl ⟨by rfl, ?_⟩) (by assumption) ?_
        rotate_left 1
        · (intro w hSw; (try dsimp only at hSw); go_simp; first | done | with_reducible rfl)
        try go_simp
        refine wpAnyH_done (by kernel_rfl) ?_ _
        refine NoPanic.normal ?_
        go_simp
        generalize max z (IntKind.i64.wrap (-IntKind.i64.wrap (z + 1))) = v at *
        replace HB := HB.kept gz
        replace HR := HR.kept gz
        replace HO := HO.kept0 gz
        replace gw := gw.trans gz
        replace hbb := Nat.le_trans hbb gz.size
        clear gz hHeld q1 hbl
        generalize wr.drew = wa at *
        obtain ⟨hv0, hv1⟩ := hvb
        have m3 : v.tmod 3 = v % 3 := Int.tmod_eq_emod_of_nonneg hv0
        have m5 : v.tmod 5 = v % 5 := Int.tmod_eq_emod_of_nonneg hv0
        have m7 : v.tmod 7 = v % 7 := Int.tmod_eq_emod_of_nonneg hv0
        by_cases hbr : 0 < k ∧ v % 3 = 0
        · have b1 : 0 < k := hbr.1
          have b2 : (v % 3 == 0) = true := by simpa using hbr.2
          have hk1 : 1 ≤ k := hbr.1
          clear hbr
          have hlk := HLK.out
          have hl0 : l ≠ [] := by intro e; have hz := hlk; rw [e, List.length_nil] at hz; omega
          obtain ⟨ga, c1, hv⟩ : ∃ ga c1, Value.slice A0 l.length c0 = .slice (some ⟨ga, 0, none⟩) l.length c1 := by
            rcases HO.slice with ⟨_, e⟩ | e
            · exact absurd e hl0
            · exact e
          rw [hv] at HO HB
          have hga := (HO.lt ga rfl).1
          have hgR : ga ≠ R := by omega
          have HP := HPP.out
          have hk8 := keys_of HO HP.ok rfl
          have b0 : wa.cell? ⟨B, 0, none⟩ = some (.int .i64 s) := HB.c 0 rfl
          have b1 : wa.cell? ⟨B, 1, none⟩ = some (.slice (some ⟨ga, 0, none⟩) l.length c1) := HB.c 1 rfl
          have k0 : wa.cell? ⟨R, 0, none⟩ = some (.int .i64 0) := HR.c 0 rfl
          have k1 : wa.cell? ⟨R, 1, none⟩ = some (.slice none 0 0) := HR.c 1 rfl
          have f0 := HR.fz 0
          have f1 := HR.fz 1
          have hsz := HR.lt
          have RS : Row _ R 34 #[.int .i64 s, .slice (some ⟨ga, 0, none⟩) l.length c1] := (HR.set 0 (.int .i64 s)).set 1 (.slice (some ⟨ga, 0, none⟩) l.length c1)
          have gs := grown_set (i := 1) (v := .slice (some ⟨ga, 0, none⟩) l.length c1) (grown_set (i := 0) (v := .int .i64 s) gw (.inl hwR)) (.inl hwR)
          have HKS := keys_far (R := R) (v0 := .int .i64 s) (v1 := .slice (some ⟨ga, 0, none⟩) l.length c1) hk8 hgR
          have HPH := Lib.hid HP
          have hk3 : l.length ≤ 3 := by omega
          have hk1' : 1 ≤ l.length := by omega
          clear hlk hl0 hv HO HB HR gw hk8 HP
          go_wp2_with fail
          exact bodyPost_ret (v := .agg #[.int .i64 s, .slice (some ⟨ga, 0, none⟩) l.length c1]) (by simp [results, Tryd.results28, go_sem, RS.c 0 rfl, RS.c 1 rfl]) rfl ⟨some ⟨ga, 0, none⟩, l.length, c1, l, rfl, HKS, HPH.out, hk1', hk3, gs⟩
        have hb9a : ¬ 0 < k ∨ 0 < k ∧ (v % 3 == 0) = false := by
          rcases Nat.eq_zero_or_pos k with h | h
          · exact .inl (by omega)
          · exact .inr ⟨h, by simp; intro e; exact hbr ⟨h, e⟩⟩
        clear hbr
        have hcat : ¬ 9223372036854775807 < (nm k).length + (Lib.itoa s).length := by have := nm_len k; have := itoa_len hs; omega
        have hw2k : IntKind.i64.wrap (2 * (k : Int)) = 2 * (k : Int) := by rw [IntKind.wrap_i64]; omega
        have hw1k : IntKind.i64.wrap (1 + 2 * (k : Int)) = 1 + 2 * (k : Int) := by rw [IntKind.wrap_i64]; omega
        go_upto_region 9 with fail
        go_cut [37] from 12 to 70 (fun bv wx => bv = .bool false ∧ wa = wx)
        case first =>
          rcases hb9a with h | ⟨h, h'⟩
          · go_wp2_with fail
            go_meet
            exact ⟨rfl, rfl⟩
          · go_wp2_with fail
            go_meet
            exact ⟨by first | rfl | rw [h'], rfl⟩
        obtain ⟨rfl, rfl⟩ := hcut
        clear hb9a
        go_upto_region 10 with fail
        go_cut [9] from 12 to 70 (fun p wx => ∃ X, p = .pointer (some ⟨X, 0, none⟩) ∧ Row wx X 28 #[.int .i64 (1 + 2 * (k : Int)), .string ⟨(nm k ++ Lib.itoa s).toArray⟩, .int .i64 day, .int .i64 0] ∧ wa.heap.size ≤ X ∧ wa.grownBy wx none)
        case first =>
          have gz : wa.grownBy wa.drew none := grown_dr (grown_refl _)
          refine wp_region_noPanic ?_
          refine wp_region_held_drew (S := (fun w' => wa.grownBy w' none)) (by kernel_rfl) ?_ (fun hHeld => ?_)
          · (try dsimp only); (repeat (first | assumption | exact grown_refl _ | refine grown_dr ?_ | refine grown_dn ?_ | refine grown_al ?_))
          refine wpAnyH_take (i := 0) (oi := _) (v := ?_) rfl (by kernel_rfl) (by kernel_rfl) (by kernel_rfl) (fun _ _ _ h => h) (Or.inl ⟨by rfl, ?_⟩) (by assumption) ?_
          rotate_left 1
          · (intro w hSw; (try dsimp only at hSw); go_simp; first | done | with_reducible rfl)
          try go_simp
          refine wpAnyH_take (i := 1) (oi := _) (v := .int .i64 (2 * (k : Int))) rfl (by kernel_rfl) (by kernel_rfl) (by kernel_rfl) (fun _ _ _ h => h) (Or.inl ⟨by kernel_rfl, ?_⟩) (by assumption) ?_
          · (intro w hSw; (try dsimp only at hSw); go_simp; first | done | with_reducible rfl)
          try go_simp
          refine wpAnyH_take (i := 2) (oi := _) (v := .int .i64 (1 + 2 * (k : Int))) rfl (by kernel_rfl) (by kernel_rfl) (by kernel_rfl) (fun _ _ _ h => h) (Or.inl ⟨by kernel_rfl, ?_⟩) (by assumption) ?_
          · (intro w hSw; (try dsimp only at hSw); go_simp; first | done | with_reducible rfl)
          try go_simp
          refine wpAnyH_take (i := 4) (oi := _) (v := ?_) rfl (by kernel_rfl) (by kernel_rfl) (by kernel_rfl) (fun _ _ _ h => h) (Or.inl ⟨by rfl, ?_⟩) (by assumption) ?_
          rotate_left 1
          · (intro w hSw; (try dsimp only at hSw); go_simp; first | done | with_reducible rfl)
          try go_simp
          refine wpAnyH_take (i := 7) (oi := _) (v := ?_) rfl (by kernel_rfl) (by kernel_rfl) (by kernel_rfl) (fun _ _ _ h => h) (Or.inl ⟨by rfl, ?_⟩) (by assumption) ?_
          rotate_left 1
          · (intro w hSw; (try dsimp only at hSw); go_simp; first | done | with_reducible rfl)
          try go_simp
          refine wpAnyH_take (i := 10) (oi := _) (v := ?_) rfl (by kernel_rfl) (by kernel_rfl) (by kernel_rfl) (fun _ _ _ h => h) (Or.inl ⟨by rfl, ?_⟩) (by assumption) ?_
          rotate_left 1
          · (intro w hSw; (try dsimp only at hSw); go_simp; first | done | with_reducible rfl)
          try go_simp
          refine wpAnyH_ready (rs := [3, 8, 12]) (by kernel_rfl) (by simp) ?_
          refine AllReadyH.cons (o := _) rfl (fun K hK => ?_) ?_
          · clear hHeld
            go_simp
            obtain ⟨wq1, ea, RS, g⟩ := row_of wa 9 #[.string ⟨#[111, 97, 107]⟩, .string ⟨#[101, 108, 109]⟩, .string ⟨#[97, 115, 104]⟩]
            have gb : wa.drew.grownBy wq1.drew none := ⟨g.os, g.tape, g.output, g.size, g.block⟩
            have hBRS : wa.heap.size ≤ wa.heap.size := gz.size
            replace RS := RS.kept (grown_dr (grown_refl wq1))
            clear g
            have g := gb
            clear gb
            replace gz := gz.trans g
            clear g
            first | (refine hK.out _ _ ?_ (fun hHeld => ?_)) | (go_wp2_with fail; refine hK.out _ _ ?_ (fun hHeld => ?_))
            · (try dsimp only); (first | rw [← ea] | skip); exact gz
            clear hK K
            rw [← ea]
            clear ea hHeld
            have hHeld := gz
            refine wpAnyH_take (i := 5) (oi := _) (v := ?_) rfl (by kernel_rfl) (by kernel_rfl) (by kernel_rfl) (fun _ _ _ h => h) (Or.inl ⟨by rfl, ?_⟩) (by assumption) ?_
            rotate_left 1
            · (intro w hSw; (try dsimp only at hSw); go_simp; first | done | with_reducible rfl)
            try go_simp
            refine wpAnyH_ready (rs := [6, 8, 12]) (by kernel_rfl) (by simp) ?_
            refine AllReadyH.cons (o := _) rfl (fun K hK => ?_) ?_
            · clear hHeld
              have qs := RS.c k (nm_at hlt)
              have hsl := RS.lt
              go_simp
              first | (refine hK.out _ _ ?_ (fun hHeld => ?_)) | (go_wp2_with fail; refine hK.out _ _ ?_ (fun hHeld => ?_))
              · (try dsimp only); exact gz
              clear hK K
              clear qs hsl
              refine wpAnyH_ready (rs := [8, 12]) (by kernel_rfl) (by simp) ?_
              refine AllReadyH.cons (o := _) rfl (fun K hK => ?_) ?_
              · clear hHeld
                go_simp
                refine (decimal_r s hs _).mono ?_
                rintro e wq3 ⟨rfl, g⟩
                replace RS := RS.kept g
                replace gz := gz.trans g
                clear g
                first | (refine hK.out _ _ ?_ (fun hHeld => ?_)) | (go_wp2_with fail; refine hK.out _ _ ?_ (fun hHeld => ?_))
                · (try dsimp only); (repeat (first | assumption | exact grown_refl _ | refine grown_dr ?_ | refine grown_dn ?_ | refine grown_al ?_))
                clear hK K
                refine wpAnyH_take (i := 9) (oi := _) (v := .string ⟨(nm k ++ Lib.itoa s).toArray⟩) rfl (by kernel_rfl) (by kernel_rfl) (by kernel_rfl) (fun _ _ _ h => h) (Or.inl ⟨by kernel_rfl, ?_⟩) (by assumption) ?_
                · (intro w hSw; (try dsimp only at hSw); go_simp; first | done | (rw [str_app]; first | done | with_reducible rfl) | (simp only [str_app]; first | done | with_reducible rfl))
                try go_simp
                refine wpAnyH_take (i := 11) (oi := _) (v := ?_) rfl (by kernel_rfl) (by kernel_rfl) (by kernel_rfl) (fun _ _ _ h => h) (Or.inl ⟨by rfl, ?_⟩) (by assumption) ?_
                rotate_left 1
                · (intro w hSw; (try dsimp only at hSw); go_simp; first | done | with_reducible rfl)
                try go_simp
                refine wpAnyH_ready (rs := [12]) (by kernel_rfl) (by simp) ?_
                refine AllReadyH.cons (o := _) rfl (fun K hK => ?_) ?_
                · clear hHeld
                  go_simp
                  obtain ⟨wq4, ea, RA, g⟩ := row_of wq3 28 #[.int .i64 0, .string ⟨#[]⟩, .int .i64 0, .int .i64 0]
                  have hBRA : wa.heap.size ≤ wq3.heap.size := gz.size
                  replace RS := RS.kept g
                  replace gz := gz.trans g
                  clear g
                  first | (refine hK.out _ _ ?_ (fun hHeld => ?_)) | (go_wp2_with fail; refine hK.out _ _ ?_ (fun hHeld => ?_))
                  · (try dsimp only); (first | rw [← ea] | skip); exact gz
                  clear hK K
                  rw [← ea]
                  clear ea hHeld
                  have hHeld := gz
                  refine wpAnyH_ready (rs := [13]) (by kernel_rfl) (by simp) ?_
                  refine AllReadyH.cons (o := _) rfl (fun K hK => ?_) ?_
                  · clear hHeld
                    have k0 := RA.c 0 rfl
                    have f0 := RA.fz 0
                    have k1 := RA.c 1 rfl
                    have f1 := RA.fz 1
                    have k2 := RA.c 2 rfl
                    have f2 := RA.fz 2
                    have k3 := RA.c 3 rfl
                    have f3 := RA.fz 3
                    have hsz := RA.lt
                    have gst := (grown_set (i := 3) (v := .int .i64 0) (grown_set (i := 2) (v := .int .i64 day) (grown_set (i := 1) (v := .string ⟨(nm k ++ Lib.itoa s).toArray⟩) (grown_set (i := 0) (v := .int .i64 (1 + 2 * (k : Int))) gz (.inl hBRA)) (.inl hBRA)) (.inl hBRA)) (.inl hBRA))
                    have RS2 := ((((RA.set 0 (.int .i64 (1 + 2 * (k : Int)))).set 1 (.string ⟨(nm k ++ Lib.itoa s).toArray⟩)).set 2 (.int .i64 day)).set 3 (.int .i64 0))
                    go_simp
                    first | (refine hK.out _ _ ?_ (fun hHeld => ?_)) | (go_wp2_with fail; refine hK.out _ _ ?_ (fun hHeld => ?_))
                    · (try dsimp only); exact gst
                    clear hK K
                    refine wpAnyH_done (by kernel_rfl) ?_ _
                    refine NoPanic.normal ?_
                    go_simp
                    go_wp2_with fail
                    go_meet
                    exact ⟨_, rfl, RS2, hBRA, gst⟩
                  exact AllReadyH.nil
                exact AllReadyH.nil
              refine AllReadyH.cons (o := _) rfl (fun K hK => ?_) ?_
              · clear hHeld
                go_simp
                obtain ⟨wq3, ea, RA, g⟩ := row_of wq1 28 #[.int .i64 0, .string ⟨#[]⟩, .int .i64 0, .int .i64 0]
                have gb : wq1.drew.grownBy wq3.drew none := ⟨g.os, g.tape, g.output, g.size, g.block⟩
                have hBRA : wa.heap.size ≤ wq1.heap.size := gz.size
                replace RA := RA.kept (grown_dr (grown_refl wq3))
                clear g
                have g := gb
                clear gb
                replace RS := RS.kept g
                replace gz := gz.trans g
                clear g
                first | (refine hK.out _ _ ?_ (fun hHeld => ?_)) | (go_wp2_with fail; refine hK.out _ _ ?_ (fun hHeld => ?_))
                · (try dsimp only); (first | rw [← ea] | skip); exact gz
                clear hK K
                rw [← ea]
                clear ea hHeld
                have hHeld := gz
                refine wpAnyH_ready (rs := [8]) (by kernel_rfl) (by simp) ?_
                refine AllReadyH.cons (o := _) rfl (fun K hK => ?_) ?_
                · clear hHeld
                  go_simp
                  refine (decimal_r s hs _).mono ?_
                  rintro e wq4 ⟨rfl, g⟩
                  replace RS := RS.kept g
                  replace RA := RA.kept g
                  replace gz := gz.trans g
                  clear g
                  first | (refine hK.out _ _ ?_ (fun hHeld => ?_)) | (go_wp2_with fail; refine hK.out _ _ ?_ (fun hHeld => ?_))
                  · (try dsimp only); (repeat (first | assumption | exact grown_refl _ | refine grown_dr ?_ | refine grown_dn ?_ | refine grown_al ?_))
                  clear hK K
                  refine wpAnyH_take (i := 9) (oi := _) (v := .string ⟨(nm k ++ Lib.itoa s).toArray⟩) rfl (by kernel_rfl) (by kernel_rfl) (by kernel_rfl) (fun _ _ _ h => h) (Or.inl ⟨by kernel_rfl, ?_⟩) (by assumption) ?_
                  · (intro w hSw; (try dsimp only at hSw); go_simp; first | done | (rw [str_app]; first | done | with_reducible rfl) | (simp only [str_app]; first | done | with_reducible rfl))
                  try go_simp
                  refine wpAnyH_take (i := 11) (oi := _) (v := ?_) rfl (by kernel_rfl) (by kernel_rfl) (by kernel_rfl) (fun _ _ _ h => h) (Or.inl ⟨by rfl, ?_⟩) (by assumption) ?_
                  rotate_left 1
                  · (intro w hSw; (try dsimp only at hSw); go_simp; first | done | with_reducible rfl)
                  try go_simp
                  refine wpAnyH_ready (rs := [13]) (by kernel_rfl) (by simp) ?_
                  refine AllReadyH.cons (o := _) rfl (fun K hK => ?_) ?_
                  · clear hHeld
                    have k0 := RA.c 0 rfl
                    have f0 := RA.fz 0
                    have k1 := RA.c 1 rfl
                    have f1 := RA.fz 1
                    have k2 := RA.c 2 rfl
                    have f2 := RA.fz 2
                    have k3 := RA.c 3 rfl
                    have f3 := RA.fz 3
                    have hsz := RA.lt
                    have gst := (grown_set (i := 3) (v := .int .i64 0) (grown_set (i := 2) (v := .int .i64 day) (grown_set (i := 1) (v := .string ⟨(nm k ++ Lib.itoa s).toArray⟩) (grown_set (i := 0) (v := .int .i64 (1 + 2 * (k : Int))) gz (.inl hBRA)) (.inl hBRA)) (.inl hBRA)) (.inl hBRA))
                    have RS2 := ((((RA.set 0 (.int .i64 (1 + 2 * (k : Int)))).set 1 (.string ⟨(nm k ++ Lib.itoa s).toArray⟩)).set 2 (.int .i64 day)).set 3 (.int .i64 0))
                    go_simp
                    first | (refine hK.out _ _ ?_ (fun hHeld => ?_)) | (go_wp2_with fail; refine hK.out _ _ ?_ (fun hHeld => ?_))
                    · (try dsimp only); exact gst
                    clear hK K
                    refine wpAnyH_done (by kernel_rfl) ?_ _
                    refine NoPanic.normal ?_
                    go_simp
                    go_wp2_with fail
                    go_meet
                    exact ⟨_, rfl, RS2, hBRA, gst⟩
                  exact AllReadyH.nil
                exact AllReadyH.nil
              exact AllReadyH.nil
            refine AllReadyH.cons (o := _) rfl (fun K hK => ?_) ?_
            · clear hHeld
              go_simp
              refine (decimal_r s hs _).mono ?_
              rintro e wq2 ⟨rfl, g⟩
              replace RS := RS.kept g
              replace gz := gz.trans g
              clear g
              first | (refine hK.out _ _ ?_ (fun hHeld => ?_)) | (go_wp2_with fail; refine hK.out _ _ ?_ (fun hHeld => ?_))
              · (try dsimp only); (repeat (first | assumption | exact grown_refl _ | refine grown_dr ?_ | refine grown_dn ?_ | refine grown_al ?_))
              clear hK K
              refine wpAnyH_ready (rs := [6, 12]) (by kernel_rfl) (by simp) ?_
              refine AllReadyH.cons (o := _) rfl (fun K hK => ?_) ?_
              · clear hHeld
                have qs := RS.c k (nm_at hlt)
                have hsl := RS.lt
                go_simp
                first | (refine hK.out _ _ ?_ (fun hHeld => ?_)) | (go_wp2_with fail; refine hK.out _ _ ?_ (fun hHeld => ?_))
                · (try dsimp only); exact gz
                clear hK K
                clear qs hsl
                refine wpAnyH_take (i := 9) (oi := _) (v := .string ⟨(nm k ++ Lib.itoa s).toArray⟩) rfl (by kernel_rfl) (by kernel_rfl) (by kernel_rfl) (fun _ _ _ h => h) (Or.inl ⟨by kernel_rfl, ?_⟩) (by assumption) ?_
                · (intro w hSw; (try dsimp only at hSw); go_simp; first | done | (rw [str_app]; first | done | with_reducible rfl) | (simp only [str_app]; first | done | with_reducible rfl))
                try go_simp
                refine wpAnyH_take (i := 11) (oi := _) (v := ?_) rfl (by kernel_rfl) (by kernel_rfl) (by kernel_rfl) (fun _ _ _ h => h) (Or.inl ⟨by rfl, ?_⟩) (by assumption) ?_
                rotate_left 1
                · (intro w hSw; (try dsimp only at hSw); go_simp; first | done | with_reducible rfl)
                try go_simp
                refine wpAnyH_ready (rs := [12]) (by kernel_rfl) (by simp) ?_
                refine AllReadyH.cons (o := _) rfl (fun K hK => ?_) ?_
                · clear hHeld
                  go_simp
                  obtain ⟨wq4, ea, RA, g⟩ := row_of wq2 28 #[.int .i64 0, .string ⟨#[]⟩, .int .i64 0, .int .i64 0]
                  have hBRA : wa.heap.size ≤ wq2.heap.size := gz.size
                  replace RS := RS.kept g
                  replace gz := gz.trans g
                  clear g
                  first | (refine hK.out _ _ ?_ (fun hHeld => ?_)) | (go_wp2_with fail; refine hK.out _ _ ?_ (fun hHeld => ?_))
                  · (try dsimp only); (first | rw [← ea] | skip); exact gz
                  clear hK K
                  rw [← ea]
                  clear ea hHeld
                  have hHeld := gz
                  refine wpAnyH_ready (rs := [13]) (by kernel_rfl) (by simp) ?_
                  refine AllReadyH.cons (o := _) rfl (fun K hK => ?_) ?_
                  · clear hHeld
                    have k0 := RA.c 0 rfl
                    have f0 := RA.fz 0
                    have k1 := RA.c 1 rfl
                    have f1 := RA.fz 1
                    have k2 := RA.c 2 rfl
                    have f2 := RA.fz 2
                    have k3 := RA.c 3 rfl
                    have f3 := RA.fz 3
                    have hsz := RA.lt
                    have gst := (grown_set (i := 3) (v := .int .i64 0) (grown_set (i := 2) (v := .int .i64 day) (grown_set (i := 1) (v := .string ⟨(nm k ++ Lib.itoa s).toArray⟩) (grown_set (i := 0) (v := .int .i64 (1 + 2 * (k : Int))) gz (.inl hBRA)) (.inl hBRA)) (.inl hBRA)) (.inl hBRA))
                    have RS2 := ((((RA.set 0 (.int .i64 (1 + 2 * (k : Int)))).set 1 (.string ⟨(nm k ++ Lib.itoa s).toArray⟩)).set 2 (.int .i64 day)).set 3 (.int .i64 0))
                    go_simp
                    first | (refine hK.out _ _ ?_ (fun hHeld => ?_)) | (go_wp2_with fail; refine hK.out _ _ ?_ (fun hHeld => ?_))
                    · (try dsimp only); exact gst
                    clear hK K
                    refine wpAnyH_done (by kernel_rfl) ?_ _
                    refine NoPanic.normal ?_
                    go_simp
                    go_wp2_with fail
                    go_meet
                    exact ⟨_, rfl, RS2, hBRA, gst⟩
                  exact AllReadyH.nil
                exact AllReadyH.nil
              refine AllReadyH.cons (o := _) rfl (fun K hK => ?_) ?_
              · clear hHeld
                go_simp
                obtain ⟨wq3, ea, RA, g⟩ := row_of wq2 28 #[.int .i64 0, .string ⟨#[]⟩, .int .i64 0, .int .i64 0]
                have hBRA : wa.heap.size ≤ wq2.heap.size := gz.size
                replace RS := RS.kept g
                replace gz := gz.trans g
                clear g
                first | (refine hK.out _ _ ?_ (fun hHeld => ?_)) | (go_wp2_with fail; refine hK.out _ _ ?_ (fun hHeld => ?_))
                · (try dsimp only); (first | rw [← ea] | skip); exact gz
                clear hK K
                rw [← ea]
                clear ea hHeld
                have hHeld := gz
                refine wpAnyH_ready (rs := [6]) (by kernel_rfl) (by simp) ?_
                refine AllReadyH.cons (o := _) rfl (fun K hK => ?_) ?_
                · clear hHeld
                  have qs := RS.c k (nm_at hlt)
                  have hsl := RS.lt
                  go_simp
                  first | (refine hK.out _ _ ?_ (fun hHeld => ?_)) | (go_wp2_with fail; refine hK.out _ _ ?_ (fun hHeld => ?_))
                  · (try dsimp only); exact gz
                  clear hK K
                  clear qs hsl
                  refine wpAnyH_take (i := 9) (oi := _) (v := .string ⟨(nm k ++ Lib.itoa s).toArray⟩) rfl (by kernel_rfl) (by kernel_rfl) (by kernel_rfl) (fun _ _ _ h => h) (Or.inl ⟨by kernel_rfl, ?_⟩) (by assumption) ?_
                  · (intro w hSw; (try dsimp only at hSw); go_simp; first | done | (rw [str_app]; first | done | with_reducible rfl) | (simp only [str_app]; first | done | with_reducible rfl))
                  try go_simp
                  refine wpAnyH_take (i := 11) (oi := _) (v := ?_) rfl (by kernel_rfl) (by kernel_rfl) (by kernel_rfl) (fun _ _ _ h => h) (Or.inl ⟨by rfl, ?_⟩) (by assumption) ?_
                  rotate_left 1
                  · (intro w hSw; (try dsimp only at hSw); go_simp; first | done | with_reducible rfl)
                  try go_simp
                  refine wpAnyH_ready (rs := [13]) (by kernel_rfl) (by simp) ?_
                  refine AllReadyH.cons (o := _) rfl (fun K hK => ?_) ?_
                  · clear hHeld
                    have k0 := RA.c 0 rfl
                    have f0 := RA.fz 0
                    have k1 := RA.c 1 rfl
                    have f1 := RA.fz 1
                    have k2 := RA.c 2 rfl
                    have f2 := RA.fz 2
                    have k3 := RA.c 3 rfl
                    have f3 := RA.fz 3
                    have hsz := RA.lt
                    have gst := (grown_set (i := 3) (v := .int .i64 0) (grown_set (i := 2) (v := .int .i64 day) (grown_set (i := 1) (v := .string ⟨(nm k ++ Lib.itoa s).toArray⟩) (grown_set (i := 0) (v := .int .i64 (1 + 2 * (k : Int))) gz (.inl hBRA)) (.inl hBRA)) (.inl hBRA)) (.inl hBRA))
                    have RS2 := ((((RA.set 0 (.int .i64 (1 + 2 * (k : Int)))).set 1 (.string ⟨(nm k ++ Lib.itoa s).toArray⟩)).set 2 (.int .i64 day)).set 3 (.int .i64 0))
                    go_simp
                    first | (refine hK.out _ _ ?_ (fun hHeld => ?_)) | (go_wp2_with fail; refine hK.out _ _ ?_ (fun hHeld => ?_))
                    · (try dsimp only); exact gst
                    clear hK K
                    refine wpAnyH_done (by kernel_rfl) ?_ _
                    refine NoPanic.normal ?_
                    go_simp
                    go_wp2_with fail
                    go_meet
                    exact ⟨_, rfl, RS2, hBRA, gst⟩
                  exact AllReadyH.nil
                exact AllReadyH.nil
              exact AllReadyH.nil
            refine AllReadyH.cons (o := _) rfl (fun K hK => ?_) ?_
            · clear hHeld
              go_simp
              obtain ⟨wq2, ea, RA, g⟩ := row_of wq1 28 #[.int .i64 0, .string ⟨#[]⟩, .int .i64 0, .int .i64 0]
              have gb : wq1.drew.grownBy wq2.drew none := ⟨g.os, g.tape, g.output, g.size, g.block⟩
              have hBRA : wa.heap.size ≤ wq1.heap.size := gz.size
              replace RA := RA.kept (grown_dr (grown_refl wq2))
              clear g
              have g := gb
              clear gb
              replace RS := RS.kept g
              replace gz := gz.trans g
              clear g
              first | (refine hK.out _ _ ?_ (fun hHeld => ?_)) | (go_wp2_with fail; refine hK.out _ _ ?_ (fun hHeld => ?_))
              · (try dsimp only); (first | rw [← ea] | skip); exact gz
              clear hK K
              rw [← ea]
              clear ea hHeld
              have hHeld := gz
              refine wpAnyH_ready (rs := [6, 8]) (by kernel_rfl) (by simp) ?_
              refine AllReadyH.cons (o := _) rfl (fun K hK => ?_) ?_
              · clear hHeld
                have qs := RS.c k (nm_at hlt)
                have hsl := RS.lt
                go_simp
                first | (refine hK.out _ _ ?_ (fun hHeld => ?_)) | (go_wp2_with fail; refine hK.out _ _ ?_ (fun hHeld => ?_))
                · (try dsimp only); exact gz
                clear hK K
                clear qs hsl
                refine wpAnyH_ready (rs := [8]) (by kernel_rfl) (by simp) ?_
                refine AllReadyH.cons (o := _) rfl (fun K hK => ?_) ?_
                · clear hHeld
                  go_simp
                  refine (decimal_r s hs _).mono ?_
                  rintro e wq4 ⟨rfl, g⟩
                  replace RS := RS.kept g
                  replace RA := RA.kept g
                  replace gz := gz.trans g
                  clear g
                  first | (refine hK.out _ _ ?_ (fun hHeld => ?_)) | (go_wp2_with fail; refine hK.out _ _ ?_ (fun hHeld => ?_))
                  · (try dsimp only); (repeat (first | assumption | exact grown_refl _ | refine grown_dr ?_ | refine grown_dn ?_ | refine grown_al ?_))
                  clear hK K
                  refine wpAnyH_take (i := 9) (oi := _) (v := .string ⟨(nm k ++ Lib.itoa s).toArray⟩) rfl (by kernel_rfl) (by kernel_rfl) (by kernel_rfl) (fun _ _ _ h => h) (Or.inl ⟨by kernel_rfl, ?_⟩) (by assumption) ?_
                  · (intro w hSw; (try dsimp only at hSw); go_simp; first | done | (rw [str_app]; first | done | with_reducible rfl) | (simp only [str_app]; first | done | with_reducible rfl))
                  try go_simp
                  refine wpAnyH_take (i := 11) (oi := _) (v := ?_) rfl (by kernel_rfl) (by kernel_rfl) (by kernel_rfl) (fun _ _ _ h => h) (Or.inl ⟨by rfl, ?_⟩) (by assumption) ?_
                  rotate_left 1
                  · (intro w hSw; (try dsimp only at hSw); go_simp; first | done | with_reducible rfl)
                  try go_simp
                  refine wpAnyH_ready (rs := [13]) (by kernel_rfl) (by simp) ?_
                  refine AllReadyH.cons (o := _) rfl (fun K hK => ?_) ?_
                  · clear hHeld
                    have k0 := RA.c 0 rfl
                    have f0 := RA.fz 0
                    have k1 := RA.c 1 rfl
                    have f1 := RA.fz 1
                    have k2 := RA.c 2 rfl
                    have f2 := RA.fz 2
                    have k3 := RA.c 3 rfl
                    have f3 := RA.fz 3
                    have hsz := RA.lt
                    have gst := (grown_set (i := 3) (v := .int .i64 0) (grown_set (i := 2) (v := .int .i64 day) (grown_set (i := 1) (v := .string ⟨(nm k ++ Lib.itoa s).toArray⟩) (grown_set (i := 0) (v := .int .i64 (1 + 2 * (k : Int))) gz (.inl hBRA)) (.inl hBRA)) (.inl hBRA)) (.inl hBRA))
                    have RS2 := ((((RA.set 0 (.int .i64 (1 + 2 * (k : Int)))).set 1 (.string ⟨(nm k ++ Lib.itoa s).toArray⟩)).set 2 (.int .i64 day)).set 3 (.int .i64 0))
                    go_simp
                    first | (refine hK.out _ _ ?_ (fun hHeld => ?_)) | (go_wp2_with fail; refine hK.out _ _ ?_ (fun hHeld => ?_))
                    · (try dsimp only); exact gst
                    clear hK K
                    refine wpAnyH_done (by kernel_rfl) ?_ _
                    refine NoPanic.normal ?_
                    go_simp
                    go_wp2_with fail
                    go_meet
                    exact ⟨_, rfl, RS2, hBRA, gst⟩
                  exact AllReadyH.nil
                exact AllReadyH.nil
              refine AllReadyH.cons (o := _) rfl (fun K hK => ?_) ?_
              · clear hHeld
                go_simp
                refine (decimal_r s hs _).mono ?_
                rintro e wq3 ⟨rfl, g⟩
                replace RS := RS.kept g
                replace RA := RA.kept g
                replace gz := gz.trans g
                clear g
                first | (refine hK.out _ _ ?_ (fun hHeld => ?_)) | (go_wp2_with fail; refine hK.out _ _ ?_ (fun hHeld => ?_))
                · (try dsimp only); (repeat (first | assumption | exact grown_refl _ | refine grown_dr ?_ | refine grown_dn ?_ | refine grown_al ?_))
                clear hK K
                refine wpAnyH_ready (rs := [6]) (by kernel_rfl) (by simp) ?_
                refine AllReadyH.cons (o := _) rfl (fun K hK => ?_) ?_
                · clear hHeld
                  have qs := RS.c k (nm_at hlt)
                  have hsl := RS.lt
                  go_simp
                  first | (refine hK.out _ _ ?_ (fun hHeld => ?_)) | (go_wp2_with fail; refine hK.out _ _ ?_ (fun hHeld => ?_))
                  · (try dsimp only); exact gz
                  clear hK K
                  clear qs hsl
                  refine wpAnyH_take (i := 9) (oi := _) (v := .string ⟨(nm k ++ Lib.itoa s).toArray⟩) rfl (by kernel_rfl) (by kernel_rfl) (by kernel_rfl) (fun _ _ _ h => h) (Or.inl ⟨by kernel_rfl, ?_⟩) (by assumption) ?_
                  · (intro w hSw; (try dsimp only at hSw); go_simp; first | done | (rw [str_app]; first | done | with_reducible rfl) | (simp only [str_app]; first | done | with_reducible rfl))
                  try go_simp
                  refine wpAnyH_take (i := 11) (oi := _) (v := ?_) rfl (by kernel_rfl) (by kernel_rfl) (by kernel_rfl) (fun _ _ _ h => h) (Or.inl ⟨by rfl, ?_⟩) (by assumption) ?_
                  rotate_left 1
                  · (intro w hSw; (try dsimp only at hSw); go_simp; first | done | with_reducible rfl)
                  try go_simp
                  refine wpAnyH_ready (rs := [13]) (by kernel_rfl) (by simp) ?_
                  refine AllReadyH.cons (o := _) rfl (fun K hK => ?_) ?_
                  · clear hHeld
                    have k0 := RA.c 0 rfl
                    have f0 := RA.fz 0
                    have k1 := RA.c 1 rfl
                    have f1 := RA.fz 1
                    have k2 := RA.c 2 rfl
                    have f2 := RA.fz 2
                    have k3 := RA.c 3 rfl
                    have f3 := RA.fz 3
                    have hsz := RA.lt
                    have gst := (grown_set (i := 3) (v := .int .i64 0) (grown_set (i := 2) (v := .int .i64 day) (grown_set (i := 1) (v := .string ⟨(nm k ++ Lib.itoa s).toArray⟩) (grown_set (i := 0) (v := .int .i64 (1 + 2 * (k : Int))) gz (.inl hBRA)) (.inl hBRA)) (.inl hBRA)) (.inl hBRA))
                    have RS2 := ((((RA.set 0 (.int .i64 (1 + 2 * (k : Int)))).set 1 (.string ⟨(nm k ++ Lib.itoa s).toArray⟩)).set 2 (.int .i64 day)).set 3 (.int .i64 0))
                    go_simp
                    first | (refine hK.out _ _ ?_ (fun hHeld => ?_)) | (go_wp2_with fail; refine hK.out _ _ ?_ (fun hHeld => ?_))
                    · (try dsimp only); exact gst
                    clear hK K
                    refine wpAnyH_done (by kernel_rfl) ?_ _
                    refine NoPanic.normal ?_
                    go_simp
                    go_wp2_with fail
                    go_meet
                    exact ⟨_, rfl, RS2, hBRA, gst⟩
                  exact AllReadyH.nil
                exact AllReadyH.nil
              exact AllReadyH.nil
            exact AllReadyH.nil
          refine AllReadyH.cons (o := _) rfl (fun K hK => ?_) ?_
          · clear hHeld
            go_simp
            refine (decimal_r s hs _).mono ?_
            rintro e wq1 ⟨rfl, g⟩
            replace gz := gz.trans g
            clear g
            first | (refine hK.out _ _ ?_ (fun hHeld => ?_)) | (go_wp2_with fail; refine hK.out _ _ ?_ (fun hHeld => ?_))
            · (try dsimp only); (repeat (first | assumption | exact grown_refl _ | refine grown_dr ?_ | refine grown_dn ?_ | refine grown_al ?_))
            clear hK K
            refine wpAnyH_ready (rs := [3, 12]) (by kernel_rfl) (by simp) ?_
            refine AllReadyH.cons (o := _) rfl (fun K hK => ?_) ?_
            · clear hHeld
              go_simp
              obtain ⟨wq2, ea, RS, g⟩ := row_of wq1 9 #[.string ⟨#[111, 97, 107]⟩, .string ⟨#[101, 108, 109]⟩, .string ⟨#[97, 115, 104]⟩]
              have hBRS : wa.heap.size ≤ wq1.heap.size := gz.size
              replace gz := gz.trans g
              clear g
              first | (refine hK.out _ _ ?_ (fun hHeld => ?_)) | (go_wp2_with fail; refine hK.out _ _ ?_ (fun hHeld => ?_))
              · (try dsimp only); (first | rw [← ea] | skip); exact gz
              clear hK K
              rw [← ea]
              clear ea hHeld
              have hHeld := gz
              refine wpAnyH_take (i := 5) (oi := _) (v := ?_) rfl (by kernel_rfl) (by kernel_rfl) (by kernel_rfl) (fun _ _ _ h => h) (Or.inl ⟨by rfl, ?_⟩) (by assumption) ?_
              rotate_left 1
              · (intro w hSw; (try dsimp only at hSw); go_simp; first | done | with_reducible rfl)
              try go_simp
              refine wpAnyH_ready (rs := [6, 12]) (by kernel_rfl) (by simp) ?_
              refine AllReadyH.cons (o := _) rfl (fun K hK => ?_) ?_
              · clear hHeld
                have qs := RS.c k (nm_at hlt)
                have hsl := RS.lt
                go_simp
                first | (refine hK.out _ _ ?_ (fun hHeld => ?_)) | (go_wp2_with fail; refine hK.out _ _ ?_ (fun hHeld => ?_))
                · (try dsimp only); exact gz
                clear hK K
                clear qs hsl
                refine wpAnyH_take (i := 9) (oi := _) (v := .string ⟨(nm k ++ Lib.itoa s).toArray⟩) rfl (by kernel_rfl) (by kernel_rfl) (by kernel_rfl) (fun _ _ _ h => h) (Or.inl ⟨by kernel_rfl, ?_⟩) (by assumption) ?_
                · (intro w hSw; (try dsimp only at hSw); go_simp; first | done | (rw [str_app]; first | done | with_reducible rfl) | (simp only [str_app]; first | done | with_reducible rfl))
                try go_simp
                refine wpAnyH_take (i := 11) (oi := _) (v := ?_) rfl (by kernel_rfl) (by kernel_rfl) (by kernel_rfl) (fun _ _ _ h => h) (Or.inl ⟨by rfl, ?_⟩) (by assumption) ?_
                rotate_left 1
                · (intro w hSw; (try dsimp only at hSw); go_simp; first | done | with_reducible rfl)
                try go_simp
                refine wpAnyH_ready (rs := [12]) (by kernel_rfl) (by simp) ?_
                refine AllReadyH.cons (o := _) rfl (fun K hK => ?_) ?_
                · clear hHeld
                  go_simp
                  obtain ⟨wq4, ea, RA, g⟩ := row_of wq2 28 #[.int .i64 0, .string ⟨#[]⟩, .int .i64 0, .int .i64 0]
                  have hBRA : wa.heap.size ≤ wq2.heap.size := gz.size
                  replace RS := RS.kept g
                  replace gz := gz.trans g
                  clear g
                  first | (refine hK.out _ _ ?_ (fun hHeld => ?_)) | (go_wp2_with fail; refine hK.out _ _ ?_ (fun hHeld => ?_))
                  · (try dsimp only); (first | rw [← ea] | skip); exact gz
                  clear hK K
                  rw [← ea]
                  clear ea hHeld
                  have hHeld := gz
                  refine wpAnyH_ready (rs := [13]) (by kernel_rfl) (by simp) ?_
                  refine AllReadyH.cons (o := _) rfl (fun K hK => ?_) ?_
                  · clear hHeld
                    have k0 := RA.c 0 rfl
                    have f0 := RA.fz 0
                    have k1 := RA.c 1 rfl
                    have f1 := RA.fz 1
                    have k2 := RA.c 2 rfl
                    have f2 := RA.fz 2
                    have k3 := RA.c 3 rfl
                    have f3 := RA.fz 3
                    have hsz := RA.lt
                    have gst := (grown_set (i := 3) (v := .int .i64 0) (grown_set (i := 2) (v := .int .i64 day) (grown_set (i := 1) (v := .string ⟨(nm k ++ Lib.itoa s).toArray⟩) (grown_set (i := 0) (v := .int .i64 (1 + 2 * (k : Int))) gz (.inl hBRA)) (.inl hBRA)) (.inl hBRA)) (.inl hBRA))
                    have RS2 := ((((RA.set 0 (.int .i64 (1 + 2 * (k : Int)))).set 1 (.string ⟨(nm k ++ Lib.itoa s).toArray⟩)).set 2 (.int .i64 day)).set 3 (.int .i64 0))
                    go_simp
                    first | (refine hK.out _ _ ?_ (fun hHeld => ?_)) | (go_wp2_with fail; refine hK.out _ _ ?_ (fun hHeld => ?_))
                    · (try dsimp only); exact gst
                    clear hK K
                    refine wpAnyH_done (by kernel_rfl) ?_ _
                    refine NoPanic.normal ?_
                    go_simp
                    go_wp2_with fail
                    go_meet
                    exact ⟨_, rfl, RS2, hBRA, gst⟩
                  exact AllReadyH.nil
                exact AllReadyH.nil
              refine AllReadyH.cons (o := _) rfl (fun K hK => ?_) ?_
              · clear hHeld
                go_simp
                obtain ⟨wq3, ea, RA, g⟩ := row_of wq2 28 #[.int .i64 0, .string ⟨#[]⟩, .int .i64 0, .int .i64 0]
                have hBRA : wa.heap.size ≤ wq2.heap.size := gz.size
                replace RS := RS.kept g
                replace gz := gz.trans g
                clear g
                first | (refine hK.out _ _ ?_ (fun hHeld => ?_)) | (go_wp2_with fail; refine hK.out _ _ ?_ (fun hHeld => ?_))
                · (try dsimp only); (first | rw [← ea] | skip); exact gz
                clear hK K
                rw [← ea]
                clear ea hHeld
                have hHeld := gz
                refine wpAnyH_ready (rs := [6]) (by kernel_rfl) (by simp) ?_
                refine AllReadyH.cons (o := _) rfl (fun K hK => ?_) ?_
                · clear hHeld
                  have qs := RS.c k (nm_at hlt)
                  have hsl := RS.lt
                  go_simp
                  first | (refine hK.out _ _ ?_ (fun hHeld => ?_)) | (go_wp2_with fail; refine hK.out _ _ ?_ (fun hHeld => ?_))
                  · (try dsimp only); exact gz
                  clear hK K
                  clear qs hsl
                  refine wpAnyH_take (i := 9) (oi := _) (v := .string ⟨(nm k ++ Lib.itoa s).toArray⟩) rfl (by kernel_rfl) (by kernel_rfl) (by kernel_rfl) (fun _ _ _ h => h) (Or.inl ⟨by kernel_rfl, ?_⟩) (by assumption) ?_
                  · (intro w hSw; (try dsimp only at hSw); go_simp; first | done | (rw [str_app]; first | done | with_reducible rfl) | (simp only [str_app]; first | done | with_reducible rfl))
                  try go_simp
                  refine wpAnyH_take (i := 11) (oi := _) (v := ?_) rfl (by kernel_rfl) (by kernel_rfl) (by kernel_rfl) (fun _ _ _ h => h) (Or.inl ⟨by rfl, ?_⟩) (by assumption) ?_
                  rotate_left 1
                  · (intro w hSw; (try dsimp only at hSw); go_simp; first | done | with_reducible rfl)
                  try go_simp
                  refine wpAnyH_ready (rs := [13]) (by kernel_rfl) (by simp) ?_
                  refine AllReadyH.cons (o := _) rfl (fun K hK => ?_) ?_
                  · clear hHeld
                    have k0 := RA.c 0 rfl
                    have f0 := RA.fz 0
                    have k1 := RA.c 1 rfl
                    have f1 := RA.fz 1
                    have k2 := RA.c 2 rfl
                    have f2 := RA.fz 2
                    have k3 := RA.c 3 rfl
                    have f3 := RA.fz 3
                    have hsz := RA.lt
                    have gst := (grown_set (i := 3) (v := .int .i64 0) (grown_set (i := 2) (v := .int .i64 day) (grown_set (i := 1) (v := .string ⟨(nm k ++ Lib.itoa s).toArray⟩) (grown_set (i := 0) (v := .int .i64 (1 + 2 * (k : Int))) gz (.inl hBRA)) (.inl hBRA)) (.inl hBRA)) (.inl hBRA))
                    have RS2 := ((((RA.set 0 (.int .i64 (1 + 2 * (k : Int)))).set 1 (.string ⟨(nm k ++ Lib.itoa s).toArray⟩)).set 2 (.int .i64 day)).set 3 (.int .i64 0))
                    go_simp
                    first | (refine hK.out _ _ ?_ (fun hHeld => ?_)) | (go_wp2_with fail; refine hK.out _ _ ?_ (fun hHeld => ?_))
                    · (try dsimp only); exact gst
                    clear hK K
                    refine wpAnyH_done (by kernel_rfl) ?_ _
                    refine NoPanic.normal ?_
                    go_simp
                    go_wp2_with fail
                    go_meet
                    exact ⟨_, rfl, RS2, hBRA, gst⟩
                  exact AllReadyH.nil
                exact AllReadyH.nil
              exact AllReadyH.nil
            refine AllReadyH.cons (o := _) rfl (fun K hK => ?_) ?_
            · clear hHeld
              go_simp
              obtain ⟨wq2, ea, RA, g⟩ := row_of wq1 28 #[.int .i64 0, .string ⟨#[]⟩, .int .i64 0, .int .i64 0]
              have hBRA : wa.heap.size ≤ wq1.heap.size := gz.size
              replace gz := gz.trans g
              clear g
              first | (refine hK.out _ _ ?_ (fun hHeld => ?_)) | (go_wp2_with fail; refine hK.out _ _ ?_ (fun hHeld => ?_))
              · (try dsimp only); (first | rw [← ea] | skip); exact gz
              clear hK K
              rw [← ea]
              clear ea hHeld
              have hHeld := gz
              refine wpAnyH_ready (rs := [3]) (by kernel_rfl) (by simp) ?_
              refine AllReadyH.cons (o := _) rfl (fun K hK => ?_) ?_
              · clear hHeld
                go_simp
                obtain ⟨wq3, ea, RS, g⟩ := row_of wq2 9 #[.string ⟨#[111, 97, 107]⟩, .string ⟨#[101, 108, 109]⟩, .string ⟨#[97, 115, 104]⟩]
                have hBRS : wa.heap.size ≤ wq2.heap.size := gz.size
                replace RA := RA.kept g
                replace gz := gz.trans g
                clear g
                first | (refine hK.out _ _ ?_ (fun hHeld => ?_)) | (go_wp2_with fail; refine hK.out _ _ ?_ (fun hHeld => ?_))
                · (try dsimp only); (first | rw [← ea] | skip); exact gz
                clear hK K
                rw [← ea]
                clear ea hHeld
                have hHeld := gz
                refine wpAnyH_take (i := 5) (oi := _) (v := ?_) rfl (by kernel_rfl) (by kernel_rfl) (by kernel_rfl) (fun _ _ _ h => h) (Or.inl ⟨by rfl, ?_⟩) (by assumption) ?_
                rotate_left 1
                · (intro w hSw; (try dsimp only at hSw); go_simp; first | done | with_reducible rfl)
                try go_simp
                refine wpAnyH_ready (rs := [6]) (by kernel_rfl) (by simp) ?_
                refine AllReadyH.cons (o := _) rfl (fun K hK => ?_) ?_
                · clear hHeld
                  have qs := RS.c k (nm_at hlt)
                  have hsl := RS.lt
                  go_simp
                  first | (refine hK.out _ _ ?_ (fun hHeld => ?_)) | (go_wp2_with fail; refine hK.out _ _ ?_ (fun hHeld => ?_))
                  · (try dsimp only); exact gz
                  clear hK K
                  clear qs hsl
                  refine wpAnyH_take (i := 9) (oi := _) (v := .string ⟨(nm k ++ Lib.itoa s).toArray⟩) rfl (by kernel_rfl) (by kernel_rfl) (by kernel_rfl) (fun _ _ _ h => h) (Or.inl ⟨by kernel_rfl, ?_⟩) (by assumption) ?_
                  · (intro w hSw; (try dsimp only at hSw); go_simp; first | done | (rw [str_app]; first | done | with_reducible rfl) | (simp only [str_app]; first | done | with_reducible rfl))
                  try go_simp
                  refine wpAnyH_take (i := 11) (oi := _) (v := ?_) rfl (by kernel_rfl) (by kernel_rfl) (by kernel_rfl) (fun _ _ _ h => h) (Or.inl ⟨by rfl, ?_⟩) (by assumption) ?_
                  rotate_left 1
                  · (intro w hSw; (try dsimp only at hSw); go_simp; first | done | with_reducible rfl)
                  try go_simp
                  refine wpAnyH_ready (rs := [13]) (by kernel_rfl) (by simp) ?_
                  refine AllReadyH.cons (o := _) rfl (fun K hK => ?_) ?_
                  · clear hHeld
                    have k0 := RA.c 0 rfl
                    have f0 := RA.fz 0
                    have k1 := RA.c 1 rfl
                    have f1 := RA.fz 1
                    have k2 := RA.c 2 rfl
                    have f2 := RA.fz 2
                    have k3 := RA.c 3 rfl
                    have f3 := RA.fz 3
                    have hsz := RA.lt
                    have gst := (grown_set (i := 3) (v := .int .i64 0) (grown_set (i := 2) (v := .int .i64 day) (grown_set (i := 1) (v := .string ⟨(nm k ++ Lib.itoa s).toArray⟩) (grown_set (i := 0) (v := .int .i64 (1 + 2 * (k : Int))) gz (.inl hBRA)) (.inl hBRA)) (.inl hBRA)) (.inl hBRA))
                    have RS2 := ((((RA.set 0 (.int .i64 (1 + 2 * (k : Int)))).set 1 (.string ⟨(nm k ++ Lib.itoa s).toArray⟩)).set 2 (.int .i64 day)).set 3 (.int .i64 0))
                    go_simp
                    first | (refine hK.out _ _ ?_ (fun hHeld => ?_)) | (go_wp2_with fail; refine hK.out _ _ ?_ (fun hHeld => ?_))
                    · (try dsimp only); exact gst
                    clear hK K
                    refine wpAnyH_done (by kernel_rfl) ?_ _
                    refine NoPanic.normal ?_
                    go_simp
                    go_wp2_with fail
                    go_meet
                    exact ⟨_, rfl, RS2, hBRA, gst⟩
                  exact AllReadyH.nil
                exact AllReadyH.nil
              exact AllReadyH.nil
            exact AllReadyH.nil
          refine AllReadyH.cons (o := _) rfl (fun K hK => ?_) ?_
          · clear hHeld
            go_simp
            obtain ⟨wq1, ea, RA, g⟩ := row_of wa 28 #[.int .i64 0, .string ⟨#[]⟩, .int .i64 0, .int .i64 0]
            have gb : wa.drew.grownBy wq1.drew none := ⟨g.os, g.tape, g.output, g.size, g.block⟩
            have hBRA : wa.heap.size ≤ wa.heap.size := gz.size
            replace RA := RA.kept (grown_dr (grown_refl wq1))
            clear g
            have g := gb
            clear gb
            replace gz := gz.trans g
            clear g
            first | (refine hK.out _ _ ?_ (fun hHeld => ?_)) | (go_wp2_with fail; refine hK.out _ _ ?_ (fun hHeld => ?_))
            · (try dsimp only); (first | rw [← ea] | skip); exact gz
            clear hK K
            rw [← ea]
            clear ea hHeld
            have hHeld := gz
            refine wpAnyH_ready (rs := [3, 8]) (by kernel_rfl) (by simp) ?_
            refine AllReadyH.cons (o := _) rfl (fun K hK => ?_) ?_
            · clear hHeld
              go_simp
              obtain ⟨wq2, ea, RS, g⟩ := row_of wq1 9 #[.string ⟨#[111, 97, 107]⟩, .string ⟨#[101, 108, 109]⟩, .string ⟨#[97, 115, 104]⟩]
              have gb : wq1.drew.grownBy wq2.drew none := ⟨g.os, g.tape, g.output, g.size, g.block⟩
              have hBRS : wa.heap.size ≤ wq1.heap.size := gz.size
              replace RS := RS.kept (grown_dr (grown_refl wq2))
              clear g
              have g := gb
              clear gb
              replace RA := RA.kept g
              replace gz := gz.trans g
              clear g
              first | (refine hK.out _ _ ?_ (fun hHeld => ?_)) | (go_wp2_with fail; refine hK.out _ _ ?_ (fun hHeld => ?_))
              · (try dsimp only); (first | rw [← ea] | skip); exact gz
              clear hK K
              rw [← ea]
              clear ea hHeld
              have hHeld := gz
              refine wpAnyH_take (i := 5) (oi := _) (v := ?_) rfl (by kernel_rfl) (by kernel_rfl) (by kernel_rfl) (fun _ _ _ h => h) (Or.inl ⟨by rfl, ?_⟩) (by assumption) ?_
              rotate_left 1
              · (intro w hSw; (try dsimp only at hSw); go_simp; first | done | with_reducible rfl)
              try go_simp
              refine wpAnyH_ready (rs := [6, 8]) (by kernel_rfl) (by simp) ?_
              refine AllReadyH.cons (o := _) rfl (fun K hK => ?_) ?_
              · clear hHeld
                have qs := RS.c k (nm_at hlt)
                have hsl := RS.lt
                go_simp
                first | (refine hK.out _ _ ?_ (fun hHeld => ?_)) | (go_wp2_with fail; refine hK.out _ _ ?_ (fun hHeld => ?_))
                · (try dsimp only); exact gz
                clear hK K
                clear qs hsl
                refine wpAnyH_ready (rs := [8]) (by kernel_rfl) (by simp) ?_
                refine AllReadyH.cons (o := _) rfl (fun K hK => ?_) ?_
                · clear hHeld
                  go_simp
                  refine (decimal_r s hs _).mono ?_
                  rintro e wq4 ⟨rfl, g⟩
                  replace RA := RA.kept g
                  replace RS := RS.kept g
                  replace gz := gz.trans g
                  clear g
                  first | (refine hK.out _ _ ?_ (fun hHeld => ?_)) | (go_wp2_with fail; refine hK.out _ _ ?_ (fun hHeld => ?_))
                  · (try dsimp only); (repeat (first | assumption | exact grown_refl _ | refine grown_dr ?_ | refine grown_dn ?_ | refine grown_al ?_))
                  clear hK K
                  refine wpAnyH_take (i := 9) (oi := _) (v := .string ⟨(nm k ++ Lib.itoa s).toArray⟩) rfl (by kernel_rfl) (by kernel_rfl) (by kernel_rfl) (fun _ _ _ h => h) (Or.inl ⟨by kernel_rfl, ?_⟩) (by assumption) ?_
                  · (intro w hSw; (try dsimp only at hSw); go_simp; first | done | (rw [str_app]; first | done | with_reducible rfl) | (simp only [str_app]; first | done | with_reducible rfl))
                  try go_simp
                  refine wpAnyH_take (i := 11) (oi := _) (v := ?_) rfl (by kernel_rfl) (by kernel_rfl) (by kernel_rfl) (fun _ _ _ h => h) (Or.inl ⟨by rfl, ?_⟩) (by assumption) ?_
                  rotate_left 1
                  · (intro w hSw; (try dsimp only at hSw); go_simp; first | done | with_reducible rfl)
                  try go_simp
                  refine wpAnyH_ready (rs := [13]) (by kernel_rfl) (by simp) ?_
                  refine AllReadyH.cons (o := _) rfl (fun K hK => ?_) ?_
                  · clear hHeld
                    have k0 := RA.c 0 rfl
                    have f0 := RA.fz 0
                    have k1 := RA.c 1 rfl
                    have f1 := RA.fz 1
                    have k2 := RA.c 2 rfl
                    have f2 := RA.fz 2
                    have k3 := RA.c 3 rfl
                    have f3 := RA.fz 3
                    have hsz := RA.lt
                    have gst := (grown_set (i := 3) (v := .int .i64 0) (grown_set (i := 2) (v := .int .i64 day) (grown_set (i := 1) (v := .string ⟨(nm k ++ Lib.itoa s).toArray⟩) (grown_set (i := 0) (v := .int .i64 (1 + 2 * (k : Int))) gz (.inl hBRA)) (.inl hBRA)) (.inl hBRA)) (.inl hBRA))
                    have RS2 := ((((RA.set 0 (.int .i64 (1 + 2 * (k : Int)))).set 1 (.string ⟨(nm k ++ Lib.itoa s).toArray⟩)).set 2 (.int .i64 day)).set 3 (.int .i64 0))
                    go_simp
                    first | (refine hK.out _ _ ?_ (fun hHeld => ?_)) | (go_wp2_with fail; refine hK.out _ _ ?_ (fun hHeld => ?_))
                    · (try dsimp only); exact gst
                    clear hK K
                    refine wpAnyH_done (by kernel_rfl) ?_ _
                    refine NoPanic.normal ?_
                    go_simp
                    go_wp2_with fail
                    go_meet
                    exact ⟨_, rfl, RS2, hBRA, gst⟩
                  exact AllReadyH.nil
                exact AllReadyH.nil
              refine AllReadyH.cons (o := _) rfl (fun K hK => ?_) ?_
              · clear hHeld
                go_simp
                refine (decimal_r s hs _).mono ?_
                rintro e wq3 ⟨rfl, g⟩
                replace RA := RA.kept g
                replace RS := RS.kept g
                replace gz := gz.trans g
                clear g
                first | (refine hK.out _ _ ?_ (fun hHeld => ?_)) | (go_wp2_with fail; refine hK.out _ _ ?_ (fun hHeld => ?_))
                · (try dsimp only); (repeat (first | assumption | exact grown_refl _ | refine grown_dr ?_ | refine grown_dn ?_ | refine grown_al ?_))
                clear hK K
                refine wpAnyH_ready (rs := [6]) (by kernel_rfl) (by simp) ?_
                refine AllReadyH.cons (o := _) rfl (fun K hK => ?_) ?_
                · clear hHeld
                  have qs := RS.c k (nm_at hlt)
                  have hsl := RS.lt
                  go_simp
                  first | (refine hK.out _ _ ?_ (fun hHeld => ?_)) | (go_wp2_with fail; refine hK.out _ _ ?_ (fun hHeld => ?_))
                  · (try dsimp only); exact gz
                  clear hK K
                  clear qs hsl
                  refine wpAnyH_take (i := 9) (oi := _) (v := .string ⟨(nm k ++ Lib.itoa s).toArray⟩) rfl (by kernel_rfl) (by kernel_rfl) (by kernel_rfl) (fun _ _ _ h => h) (Or.inl ⟨by kernel_rfl, ?_⟩) (by assumption) ?_
                  · (intro w hSw; (try dsimp only at hSw); go_simp; first | done | (rw [str_app]; first | done | with_reducible rfl) | (simp only [str_app]; first | done | with_reducible rfl))
                  try go_simp
                  refine wpAnyH_take (i := 11) (oi := _) (v := ?_) rfl (by kernel_rfl) (by kernel_rfl) (by kernel_rfl) (fun _ _ _ h => h) (Or.inl ⟨by rfl, ?_⟩) (by assumption) ?_
                  rotate_left 1
                  · (intro w hSw; (try dsimp only at hSw); go_simp; first | done | with_reducible rfl)
                  try go_simp
                  refine wpAnyH_ready (rs := [13]) (by kernel_rfl) (by simp) ?_
                  refine AllReadyH.cons (o := _) rfl (fun K hK => ?_) ?_
                  · clear hHeld
                    have k0 := RA.c 0 rfl
                    have f0 := RA.fz 0
                    have k1 := RA.c 1 rfl
                    have f1 := RA.fz 1
                    have k2 := RA.c 2 rfl
                    have f2 := RA.fz 2
                    have k3 := RA.c 3 rfl
                    have f3 := RA.fz 3
                    have hsz := RA.lt
                    have gst := (grown_set (i := 3) (v := .int .i64 0) (grown_set (i := 2) (v := .int .i64 day) (grown_set (i := 1) (v := .string ⟨(nm k ++ Lib.itoa s).toArray⟩) (grown_set (i := 0) (v := .int .i64 (1 + 2 * (k : Int))) gz (.inl hBRA)) (.inl hBRA)) (.inl hBRA)) (.inl hBRA))
                    have RS2 := ((((RA.set 0 (.int .i64 (1 + 2 * (k : Int)))).set 1 (.string ⟨(nm k ++ Lib.itoa s).toArray⟩)).set 2 (.int .i64 day)).set 3 (.int .i64 0))
                    go_simp
                    first | (refine hK.out _ _ ?_ (fun hHeld => ?_)) | (go_wp2_with fail; refine hK.out _ _ ?_ (fun hHeld => ?_))
                    · (try dsimp only); exact gst
                    clear hK K
                    refine wpAnyH_done (by kernel_rfl) ?_ _
                    refine NoPanic.normal ?_
                    go_simp
                    go_wp2_with fail
                    go_meet
                    exact ⟨_, rfl, RS2, hBRA, gst⟩
                  exact AllReadyH.nil
                exact AllReadyH.nil
              exact AllReadyH.nil
            refine AllReadyH.cons (o := _) rfl (fun K hK => ?_) ?_
            · clear hHeld
              go_simp
              refine (decimal_r s hs _).mono ?_
              rintro e wq2 ⟨rfl, g⟩
              replace RA := RA.kept g
              replace gz := gz.trans g
              clear g
              first | (refine hK.out _ _ ?_ (fun hHeld => ?_)) | (go_wp2_with fail; refine hK.out _ _ ?_ (fun hHeld => ?_))
              · (try dsimp only); (repeat (first | assumption | exact grown_refl _ | refine grown_dr ?_ | refine grown_dn ?_ | refine grown_al ?_))
              clear hK K
              refine wpAnyH_ready (rs := [3]) (by kernel_rfl) (by simp) ?_
              refine AllReadyH.cons (o := _) rfl (fun K hK => ?_) ?_
              · clear hHeld
                go_simp
                obtain ⟨wq3, ea, RS, g⟩ := row_of wq2 9 #[.string ⟨#[111, 97, 107]⟩, .string ⟨#[101, 108, 109]⟩, .string ⟨#[97, 115, 104]⟩]
                have hBRS : wa.heap.size ≤ wq2.heap.size := gz.size
                replace RA := RA.kept g
                replace gz := gz.trans g
                clear g
                first | (refine hK.out _ _ ?_ (fun hHeld => ?_)) | (go_wp2_with fail; refine hK.out _ _ ?_ (fun hHeld => ?_))
                · (try dsimp only); (first | rw [← ea] | skip); exact gz
                clear hK K
                rw [← ea]
                clear ea hHeld
                have hHeld := gz
                refine wpAnyH_take (i := 5) (oi := _) (v := ?_) rfl (by kernel_rfl) (by kernel_rfl) (by kernel_rfl) (fun _ _ _ h => h) (Or.inl ⟨by rfl, ?_⟩) (by assumption) ?_
                rotate_left 1
                · (intro w hSw; (try dsimp only at hSw); go_simp; first | done | with_reducible rfl)
                try go_simp
                refine wpAnyH_ready (rs := [6]) (by kernel_rfl) (by simp) ?_
                refine AllReadyH.cons (o := _) rfl (fun K hK => ?_) ?_
                · clear hHeld
                  have qs := RS.c k (nm_at hlt)
                  have hsl := RS.lt
                  go_simp
                  first | (refine hK.out _ _ ?_ (fun hHeld => ?_)) | (go_wp2_with fail; refine hK.out _ _ ?_ (fun hHeld => ?_))
                  · (try dsimp only); exact gz
                  clear hK K
                  clear qs hsl
                  refine wpAnyH_take (i := 9) (oi := _) (v := .string ⟨(nm k ++ Lib.itoa s).toArray⟩) rfl (by kernel_rfl) (by kernel_rfl) (by kernel_rfl) (fun _ _ _ h => h) (Or.inl ⟨by kernel_rfl, ?_⟩) (by assumption) ?_
                  · (intro w hSw; (try dsimp only at hSw); go_simp; first | done | (rw [str_app]; first | done | with_reducible rfl) | (simp only [str_app]; first | done | with_reducible rfl))
                  try go_simp
                  refine wpAnyH_take (i := 11) (oi := _) (v := ?_) rfl (by kernel_rfl) (by kernel_rfl) (by kernel_rfl) (fun _ _ _ h => h) (Or.inl ⟨by rfl, ?_⟩) (by assumption) ?_
                  rotate_left 1
                  · (intro w hSw; (try dsimp only at hSw); go_simp; first | done | with_reducible rfl)
                  try go_simp
                  refine wpAnyH_ready (rs := [13]) (by kernel_rfl) (by simp) ?_
                  refine AllReadyH.cons (o := _) rfl (fun K hK => ?_) ?_
                  · clear hHeld
                    have k0 := RA.c 0 rfl
                    have f0 := RA.fz 0
                    have k1 := RA.c 1 rfl
                    have f1 := RA.fz 1
                    have k2 := RA.c 2 rfl
                    have f2 := RA.fz 2
                    have k3 := RA.c 3 rfl
                    have f3 := RA.fz 3
                    have hsz := RA.lt
                    have gst := (grown_set (i := 3) (v := .int .i64 0) (grown_set (i := 2) (v := .int .i64 day) (grown_set (i := 1) (v := .string ⟨(nm k ++ Lib.itoa s).toArray⟩) (grown_set (i := 0) (v := .int .i64 (1 + 2 * (k : Int))) gz (.inl hBRA)) (.inl hBRA)) (.inl hBRA)) (.inl hBRA))
                    have RS2 := ((((RA.set 0 (.int .i64 (1 + 2 * (k : Int)))).set 1 (.string ⟨(nm k ++ Lib.itoa s).toArray⟩)).set 2 (.int .i64 day)).set 3 (.int .i64 0))
                    go_simp
                    first | (refine hK.out _ _ ?_ (fun hHeld => ?_)) | (go_wp2_with fail; refine hK.out _ _ ?_ (fun hHeld => ?_))
                    · (try dsimp only); exact gst
                    clear hK K
                    refine wpAnyH_done (by kernel_rfl) ?_ _
                    refine NoPanic.normal ?_
                    go_simp
                    go_wp2_with fail
                    go_meet
                    exact ⟨_, rfl, RS2, hBRA, gst⟩
                  exact AllReadyH.nil
                exact AllReadyH.nil
              exact AllReadyH.nil
            exact AllReadyH.nil
          exact AllReadyH.nil
        obtain ⟨X, rfl, HX, hXa, g⟩ := hcut
        have hXB : X ≠ B := by have := HB.lt; omega
        have hXR : X ≠ R := by have := HR.lt; omega
        have hXO : ∀ g, (Value.slice A0 l.length c0).ownBlock = some g → g ≠ X := fun g e => by have := (HO.lt g e).2; omega
        have hwX : w.heap.size ≤ X := Nat.le_trans gw.size hXa
        clear hXa
        replace HB := HB.kept g
        replace HR := HR.kept g
        replace HO := HO.kept0 g
        replace gw := gw.trans g
        replace hbb := Nat.le_trans hbb g.size
        clear g
        have hd2 : day ≤ 360 := by omega
        by_cases h54 : v % 5 = 4
        · have c54 : (v % 5 == 4) = true := by simpa using h54
          have m300 : (v / 5).tmod 300 = v / 5 % 300 := Int.tmod_eq_emod_of_nonneg (by omega)
          have q5 : v.tdiv 5 = v / 5 := Int.tdiv_eq_ediv_of_nonneg hv0
          have hw1 : IntKind.i64.wrap (day + 1) = day + 1 := by rw [IntKind.wrap_i64]; omega
          have hw2 : IntKind.i64.wrap (day + 1 + v / 5 % 300) = day + 1 + v / 5 % 300 := by rw [IntKind.wrap_i64]; omega
          have hst : day + 1 + v / 5 % 300 = 0 ∨ day < day + 1 + v / 5 % 300 ∧ day + 1 + v / 5 % 300 ≤ 1000 := .inr ⟨by omega, by omega⟩
          have hv5 : 0 ≤ v / 5 := by omega
          have c3 : wc.cell? ⟨X, 3, none⟩ = some (.int .i64 0) := HX.c 3 rfl
          have f3 := HX.fz 3
          have hsz := HX.lt
          have HXS : Row _ X 28 #[.int .i64 (1 + 2 * (k : Int)), .string ⟨(nm k ++ Lib.itoa s).toArray⟩, .int .i64 day, .int .i64 (day + 1 + v / 5 % 300)] := HX.set 3 (.int .i64 (day + 1 + v / 5 % 300))
          have HBS := HB.far (o := X) (i := 3) (v := .int .i64 (day + 1 + v / 5 % 300)) hXB.symm
          have HRS := HR.far (o := X) (i := 3) (v := .int .i64 (day + 1 + v / 5 % 300)) hXR.symm
          have HOS := HO.kept (grown_setCell wc X 3 (.int .i64 (day + 1 + v / 5 % 300))) (own_not hXO)
          have gS := grown_set (i := 3) (v := .int .i64 (day + 1 + v / 5 % 300)) gw (.inl hwX)
          have hbS : base ≤ (wc.setCell ⟨X, 3, none⟩ (.int .i64 (day + 1 + v / 5 % 300))).heap.size := Nat.le_trans hbb (grown_setCell wc X 3 (.int .i64 (day + 1 + v / 5 % 300))).size
          clear HX HB HR HO gw hbb hXO h54
          go_upto_region 13 with fail
          generalize wc.setCell ⟨X, 3, none⟩ (.int .i64 (day + 1 + v / 5 % 300)) = wb at *
          have HX := HXS
          have HB := HBS
          have HR := HRS
          have HO := HOS
          have gw := gS
          have hbb := hbS
          clear HXS HBS HRS HOS gS hbS c3 f3 hsz
          have hPA := made_next (s := s) (stl := day + 1 + v / 5 % 300) HPP.out HLK.out hlt hs hd0 hd1 HFR.out hst
          have hlk4 : l.length ≤ 3 := by have := HLK.out; omega
          have hlkE := HLK.out
          have hfn : ∀ y ∈ l ++ [(⟨1 + 2 * (k : Int), nm k ++ Lib.itoa s, day, day + 1 + v / 5 % 300⟩ : K)], y.frm ≤ day + 20 * (v % 7) := fun y hy => by
            rcases List.mem_append.1 hy with h | h
            · have := HFR.out y h; omega
            · rw [List.mem_singleton.1 h]; simp only; omega
          have HFN := Lib.hid hfn
          have HPA := Lib.hid hPA.1
          have HLE := Lib.hid (show (l ++ [(⟨1 + 2 * (k : Int), nm k ++ Lib.itoa s, day, day + 1 + v / 5 % 300⟩ : K)]).length = k + 1 by rw [List.length_append, hlkE]; rfl)
          have hwd : IntKind.i64.wrap (20 * (v % 7)) = 20 * (v % 7) := by rw [IntKind.wrap_i64]; omega
          have hwe : IntKind.i64.wrap (day + 20 * (v % 7)) = day + 20 * (v % 7) := by rw [IntKind.wrap_i64]; omega
          clear hlkE hfn
          have x0 : wb.cell? ⟨X, 0, none⟩ = some (.int .i64 (1 + 2 * (k : Int))) := HX.c 0 rfl
          have x1 : wb.cell? ⟨X, 1, none⟩ = some (.string ⟨(nm k ++ Lib.itoa s).toArray⟩) := HX.c 1 rfl
          have x2 : wb.cell? ⟨X, 2, none⟩ = some (.int .i64 day) := HX.c 2 rfl
          have x3 : wb.cell? ⟨X, 3, none⟩ = some (.int .i64 (day + 1 + v / 5 % 300)) := HX.c 3 rfl
          have p0 : wb.cell? ⟨B, 0, none⟩ = some (.int .i64 s) := HB.c 0 rfl
          have p1 : wb.cell? ⟨B, 1, none⟩ = some (.slice A0 l.length c0) := HB.c 1 rfl
          have gN := World.grownBy_alloc wb (.cells #[.int .i64 (1 + 2 * (k : Int)), .string ⟨(nm k ++ Lib.itoa s).toArray⟩, .int .i64 day, .int .i64 (day + 1 + v / 5 % 300)] 28) none
          have HN := Row.new wb 28 #[.int .i64 (1 + 2 * (k : Int)), .string ⟨(nm k ++ Lib.itoa s).toArray⟩, .int .i64 day, .int .i64 (day + 1 + v / 5 % 300)]
          have hvo : Hid (∀ g, (Value.slice A0 l.length c0).ownBlock = some g → base ≤ g) := Lib.hid (fun g e => (HO.lt g e).1)
          have hl10 : l.length + 1 ≤ 1000000 := by omega
          have hbN := hbb
          have hnx := hPA.2
          clear hPA
          clear HX
          go_wp2_with (at_builtin; go_loud (refine wpList_append_keys rfl _ _ rfl base _ l rfl (HO.kept0 gN) (some ⟨wb.heap.size, 0, none⟩) 1 1 [⟨1 + 2 * (k : Int), nm k ++ Lib.itoa s, day, day + 1 + v / 5 % 300⟩] rfl (Keys.one (x := ⟨1 + 2 * (k : Int), nm k ++ Lib.itoa s, day, day + 1 + v / 5 % 300⟩) HN hnx) hl10 (Nat.le_trans hbb gN.size) ?_; intro v' w7 ho hg hb hv; obtain ⟨gb, c2, rfl⟩ := own_some ho; have HB7 := (HB.kept gN).keptR hg (own_low hvo.out hBb); have HR7 := (HR.kept gN).keptR hg (own_low hvo.out hRb); have k0 : w7.cell? ⟨B, 0, none⟩ = some (.int .i64 s) := HB7.c 0 rfl; have k1 : w7.cell? ⟨B, 1, none⟩ = some (.slice A0 l.length c0) := HB7.c 1 rfl; have f1 := HB7.fz 1; have hsz := HB7.lt; have hgb := (ho.lt gb rfl).1; have g7 : w.grownBy w7 none := (gw.trans gN).andThen hg (fun r e => .inl (Nat.le_trans hwb (hvo.out r e))); have RS : Row _ B 34 #[.int .i64 s, .slice (some ⟨gb, 0, none⟩) (l.length + 1) c2] := HB7.set 1 (.slice (some ⟨gb, 0, none⟩) (l.length + 1) c2); have HRS := HR7.far (o := B) (i := 1) (v := .slice (some ⟨gb, 0, none⟩) (l.length + 1) c2) hRB; have HOS := ho.kept (grown_setCell w7 B 1 (.slice (some ⟨gb, 0, none⟩) (l.length + 1) c2)) (own_high hgb hBb); have gS := grown_set (i := 1) (v := .slice (some ⟨gb, 0, none⟩) (l.length + 1) c2) g7 (.inl hwB); have gS9 := Nat.le_trans (Nat.le_trans gN.size hg.size) (grown_setCell w7 B 1 (.slice (some ⟨gb, 0, none⟩) (l.length + 1) c2)).size; clear HB7 HR7 hv x0 x1 x2 x3 p0 p1 hb hg))
          clear HB HR gw HO hvo
          go_roundw
          case rel => exact ⟨k + 1, day + 20 * (v % 7), some ⟨gb, 0, none⟩, c2, l ++ [⟨1 + 2 * (k : Int), nm k ++ Lib.itoa s, day, day + 1 + v / 5 % 300⟩], by omega, by go_num, rfl, by simpa using RS, HRS, by simpa using HOS, HLE.out, HPA.out, by omega, by omega, HFN.out, Nat.le_trans hbN gS9, gS⟩
          case measure => simp [intOf]; omega
        · have c54 : (v % 5 == 4) = false := by simpa using h54
          have hst : (0 : Int) = 0 ∨ day < 0 ∧ (0 : Int) ≤ 1000 := .inl rfl
          clear hXO h54
          generalize wc = wb at *
          go_upto_region 13 with fail
          have hPA := made_next (s := s) (stl := 0) HPP.out HLK.out hlt hs hd0 hd1 HFR.out hst
          have hlk4 : l.length ≤ 3 := by have := HLK.out; omega
          have hlkE := HLK.out
          have hfn : ∀ y ∈ l ++ [(⟨1 + 2 * (k : Int), nm k ++ Lib.itoa s, day, 0⟩ : K)], y.frm ≤ day + 20 * (v % 7) := fun y hy => by
            rcases List.mem_append.1 hy with h | h
            · have := HFR.out y h; omega
            · rw [List.mem_singleton.1 h]; simp only; omega
          have HFN := Lib.hid hfn
          have HPA := Lib.hid hPA.1
          have HLE := Lib.hid (show (l ++ [(⟨1 + 2 * (k : Int), nm k ++ Lib.itoa s, day, 0⟩ : K)]).length = k + 1 by rw [List.length_append, hlkE]; rfl)
          have hwd : IntKind.i64.wrap (20 * (v % 7)) = 20 * (v % 7) := by rw [IntKind.wrap_i64]; omega
          have hwe : IntKind.i64.wrap (day + 20 * (v % 7)) = day + 20 * (v % 7) := by rw [IntKind.wrap_i64]; omega
          clear hlkE hfn
          have x0 : wb.cell? ⟨X, 0, none⟩ = some (.int .i64 (1 + 2 * (k : Int))) := HX.c 0 rfl
          have x1 : wb.cell? ⟨X, 1, none⟩ = some (.string ⟨(nm k ++ Lib.itoa s).toArray⟩) := HX.c 1 rfl
          have x2 : wb.cell? ⟨X, 2, none⟩ = some (.int .i64 day) := HX.c 2 rfl
          have x3 : wb.cell? ⟨X, 3, none⟩ = some (.int .i64 (0)) := HX.c 3 rfl
          have p0 : wb.cell? ⟨B, 0, none⟩ = some (.int .i64 s) := HB.c 0 rfl
          have p1 : wb.cell? ⟨B, 1, none⟩ = some (.slice A0 l.length c0) := HB.c 1 rfl
          have gN := World.grownBy_alloc wb (.cells #[.int .i64 (1 + 2 * (k : Int)), .string ⟨(nm k ++ Lib.itoa s).toArray⟩, .int .i64 day, .int .i64 (0)] 28) none
          have HN := Row.new wb 28 #[.int .i64 (1 + 2 * (k : Int)), .string ⟨(nm k ++ Lib.itoa s).toArray⟩, .int .i64 day, .int .i64 (0)]
          have hvo : Hid (∀ g, (Value.slice A0 l.length c0).ownBlock = some g → base ≤ g) := Lib.hid (fun g e => (HO.lt g e).1)
          have hl10 : l.length + 1 ≤ 1000000 := by omega
          have hbN := hbb
          have hnx := hPA.2
          clear hPA
          clear HX
          go_wp2_with (at_builtin; go_loud (refine wpList_append_keys rfl _ _ rfl base _ l rfl (HO.kept0 gN) (some ⟨wb.heap.size, 0, none⟩) 1 1 [⟨1 + 2 * (k : Int), nm k ++ Lib.itoa s, day, 0⟩] rfl (Keys.one (x := ⟨1 + 2 * (k : Int), nm k ++ Lib.itoa s, day, 0⟩) HN hnx) hl10 (Nat.le_trans hbb gN.size) ?_; intro v' w7 ho hg hb hv; obtain ⟨gb, c2, rfl⟩ := own_some ho; have HB7 := (HB.kept gN).keptR hg (own_low hvo.out hBb); have HR7 := (HR.kept gN).keptR hg (own_low hvo.out hRb); have k0 : w7.cell? ⟨B, 0, none⟩ = some (.int .i64 s) := HB7.c 0 rfl; have k1 : w7.cell? ⟨B, 1, none⟩ = some (.slice A0 l.length c0) := HB7.c 1 rfl; have f1 := HB7.fz 1; have hsz := HB7.lt; have hgb := (ho.lt gb rfl).1; have g7 : w.grownBy w7 none := (gw.trans gN).andThen hg (fun r e => .inl (Nat.le_trans hwb (hvo.out r e))); have RS : Row _ B 34 #[.int .i64 s, .slice (some ⟨gb, 0, none⟩) (l.length + 1) c2] := HB7.set 1 (.slice (some ⟨gb, 0, none⟩) (l.length + 1) c2); have HRS := HR7.far (o := B) (i := 1) (v := .slice (some ⟨gb, 0, none⟩) (l.length + 1) c2) hRB; have HOS := ho.kept (grown_setCell w7 B 1 (.slice (some ⟨gb, 0, none⟩) (l.length + 1) c2)) (own_high hgb hBb); have gS := grown_set (i := 1) (v := .slice (some ⟨gb, 0, none⟩) (l.length + 1) c2) g7 (.inl hwB); have gS9 := Nat.le_trans (Nat.le_trans gN.size hg.size) (grown_setCell w7 B 1 (.slice (some ⟨gb, 0, none⟩) (l.length + 1) c2)).size; clear HB7 HR7 hv x0 x1 x2 x3 p0 p1 hb hg))
          clear HB HR gw HO hvo
          go_roundw
          case rel => exact ⟨k + 1, day + 20 * (v % 7), some ⟨gb, 0, none⟩, c2, l ++ [⟨1 + 2 * (k : Int), nm k ++ Lib.itoa s, day, 0⟩], by omega, by go_num, rfl, by simpa using RS, HRS, by simpa using HOS, HLE.out, HPA.out, by omega, by omega, HFN.out, Nat.le_trans hbN gS9, gS⟩
          case measure => simp [intOf]; omega
        
      · generalize wr = wa at *
        by_cases hk0 : 0 < k
        · have hk1 : 1 ≤ k := hk0
          have hlk := HLK.out
          have hl0 : l ≠ [] := by intro e; have hz := hlk; rw [e, List.length_nil] at hz; omega
          obtain ⟨ga, c1, hv⟩ : ∃ ga c1, Value.slice A0 l.length c0 = .slice (some ⟨ga, 0, none⟩) l.length c1 := by
            rcases HO.slice with ⟨_, e⟩ | e
            · exact absurd e hl0
            · exact e
          rw [hv] at HO HB
          have hga := (HO.lt ga rfl).1
          have hgR : ga ≠ R := by omega
          have HP := HPP.out
          have hk8 := keys_of HO HP.ok rfl
          have b0 : wa.cell? ⟨B, 0, none⟩ = some (.int .i64 s) := HB.c 0 rfl
          have b1 : wa.cell? ⟨B, 1, none⟩ = some (.slice (some ⟨ga, 0, none⟩) l.length c1) := HB.c 1 rfl
          have k0 : wa.cell? ⟨R, 0, none⟩ = some (.int .i64 0) := HR.c 0 rfl
          have k1 : wa.cell? ⟨R, 1, none⟩ = some (.slice none 0 0) := HR.c 1 rfl
          have f0 := HR.fz 0
          have f1 := HR.fz 1
          have hsz := HR.lt
          have RS : Row _ R 34 #[.int .i64 s, .slice (some ⟨ga, 0, none⟩) l.length c1] := (HR.set 0 (.int .i64 s)).set 1 (.slice (some ⟨ga, 0, none⟩) l.length c1)
          have gs := grown_set (i := 1) (v := .slice (some ⟨ga, 0, none⟩) l.length c1) (grown_set (i := 0) (v := .int .i64 s) gw (.inl hwR)) (.inl hwR)
          have HKS := keys_far (R := R) (v0 := .int .i64 s) (v1 := .slice (some ⟨ga, 0, none⟩) l.length c1) hk8 hgR
          have HPH := Lib.hid HP
          have hk3 : l.length ≤ 3 := by omega
          have hk1' : 1 ≤ l.length := by omega
          clear hlk hl0 hv HO HB HR gw hk8 HP
          go_wp2_with fail
          exact bodyPost_ret (v := .agg #[.int .i64 s, .slice (some ⟨ga, 0, none⟩) l.length c1]) (by simp [results, Tryd.results28, go_sem, RS.c 0 rfl, RS.c 1 rfl]) rfl ⟨some ⟨ga, 0, none⟩, l.length, c1, l, rfl, HKS, HPH.out, hk1', hk3, gs⟩
        go_upto_region 9 with fail
        go_cut [8, 37] from 12 to 70 (fun nv bv wx => ∃ v : Int, nv = .int .i64 v ∧ 0 ≤ v ∧ v ≤ 9223372036854775807 ∧ bv = .bool false ∧ wa = wx)
        case first =>
          go_wp2_with fail
          go_meet
          exact ⟨0, rfl, by decide, by decide, rfl, rfl⟩
        obtain ⟨v, rfl, hv0, hv1, rfl, rfl⟩ := hcut
        have m3 : v.tmod 3 = v % 3 := Int.tmod_eq_emod_of_nonneg hv0
        have m5 : v.tmod 5 = v % 5 := Int.tmod_eq_emod_of_nonneg hv0
        have m7 : v.tmod 7 = v % 7 := Int.tmod_eq_emod_of_nonneg hv0
        have hcat : ¬ 9223372036854775807 < (nm k).length + (Lib.itoa s).length := by have := nm_len k; have := itoa_len hs; omega
        have hw2k : IntKind.i64.wrap (2 * (k : Int)) = 2 * (k : Int) := by rw [IntKind.wrap_i64]; omega
        have hw1k : IntKind.i64.wrap (1 + 2 * (k : Int)) = 1 + 2 * (k : Int) := by rw [IntKind.wrap_i64]; omega
        go_upto_region 10 with fail
        go_cut [9] from 12 to 70 (fun p wx => ∃ X, p = .pointer (some ⟨X, 0, none⟩) ∧ Row wx X 28 #[.int .i64 (1 + 2 * (k : Int)), .string ⟨(nm k ++ Lib.itoa s).toArray⟩, .int .i64 day, .int .i64 0] ∧ wa.heap.size ≤ X ∧ wa.grownBy wx none)
        case first =>
          have gz : wa.grownBy wa.drew none := grown_dr (grown_refl _)
          refine wp_region_noPanic ?_
          refine wp_region_held_drew (S := (fun w' => wa.grownBy w' none)) (by kernel_rfl) ?_ (fun hHeld => ?_)
          · (try dsimp only); (repeat (first | assumption | exact grown_refl _ | refine grown_dr ?_ | refine grown_dn ?_ | refine grown_al ?_))
          refine wpAnyH_take (i := 0) (oi := _) (v := ?_) rfl (by kernel_rfl) (by kernel_rfl) (by kernel_rfl) (fun _ _ _ h => h) (Or.inl ⟨by rfl, ?_⟩) (by assumption) ?_
          rotate_left 1
          · (intro w hSw; (try dsimp only at hSw); go_simp; first | done | with_reducible rfl)
          try go_simp
          refine wpAnyH_take (i := 1) (oi := _) (v := .int .i64 (2 * (k : Int))) rfl (by kernel_rfl) (by kernel_rfl) (by kernel_rfl) (fun _ _ _ h => h) (Or.inl ⟨by kernel_rfl, ?_⟩) (by assumption) ?_
          · (intro w hSw; (try dsimp only at hSw); go_simp; first | done | with_reducible rfl)
          try go_simp
          refine wpAnyH_take (i := 2) (oi := _) (v := .int .i64 (1 + 2 * (k : Int))) rfl (by kernel_rfl) (by kernel_rfl) (by kernel_rfl) (fun _ _ _ h => h) (Or.inl ⟨by kernel_rfl, ?_⟩) (by assumption) ?_
          · (intro w hSw; (try dsimp only at hSw); go_simp; first | done | with_reducible rfl)
          try go_simp
          refine wpAnyH_take (i := 4) (oi := _) (v := ?_) rfl (by kernel_rfl) (by kernel_rfl) (by kernel_rfl) (fun _ _ _ h => h) (Or.inl ⟨by rfl, ?_⟩) (by assumption) ?_
          rotate_left 1
          · (intro w hSw; (try dsimp only at hSw); go_simp; first | done | with_reducible rfl)
          try go_simp
          refine wpAnyH_take (i := 7) (oi := _) (v := ?_) rfl (by kernel_rfl) (by kernel_rfl) (by kernel_rfl) (fun _ _ _ h => h) (Or.inl ⟨by rfl, ?_⟩) (by assumption) ?_
          rotate_left 1
          · (intro w hSw; (try dsimp only at hSw); go_simp; first | done | with_reducible rfl)
          try go_simp
          refine wpAnyH_take (i := 10) (oi := _) (v := ?_) rfl (by kernel_rfl) (by kernel_rfl) (by kernel_rfl) (fun _ _ _ h => h) (Or.inl ⟨by rfl, ?_⟩) (by assumption) ?_
          rotate_left 1
          · (intro w hSw; (try dsimp only at hSw); go_simp; first | done | with_reducible rfl)
          try go_simp
          refine wpAnyH_ready (rs := [3, 8, 12]) (by kernel_rfl) (by simp) ?_
          refine AllReadyH.cons (o := _) rfl (fun K hK => ?_) ?_
          · clear hHeld
            go_simp
            obtain ⟨wq1, ea, RS, g⟩ := row_of wa 9 #[.string ⟨#[111, 97, 107]⟩, .string ⟨#[101, 108, 109]⟩, .string ⟨#[97, 115, 104]⟩]
            have gb : wa.drew.grownBy wq1.drew none := ⟨g.os, g.tape, g.output, g.size, g.block⟩
            have hBRS : wa.heap.size ≤ wa.heap.size := gz.size
            replace RS := RS.kept (grown_dr (grown_refl wq1))
            clear g
            have g := gb
            clear gb
            replace gz := gz.trans g
            clear g
            first | (refine hK.out _ _ ?_ (fun hHeld => ?_)) | (go_wp2_with fail; refine hK.out _ _ ?_ (fun hHeld => ?_))
            · (try dsimp only); (first | rw [← ea] | skip); exact gz
            clear hK K
            rw [← ea]
            clear ea hHeld
            have hHeld := gz
            refine wpAnyH_take (i := 5) (oi := _) (v := ?_) rfl (by kernel_rfl) (by kernel_rfl) (by kernel_rfl) (fun _ _ _ h => h) (Or.inl ⟨by rfl, ?_⟩) (by assumption) ?_
            rotate_left 1
            · (intro w hSw; (try dsimp only at hSw); go_simp; first | done | with_reducible rfl)
            try go_simp
            refine wpAnyH_ready (rs := [6, 8, 12]) (by kernel_rfl) (by simp) ?_
            refine AllReadyH.cons (o := _) rfl (fun K hK => ?_) ?_
            · clear hHeld
              have qs := RS.c k (nm_at hlt)
              have hsl := RS.lt
              go_simp
              first | (refine hK.out _ _ ?_ (fun hHeld => ?_)) | (go_wp2_with fail; refine hK.out _ _ ?_ (fun hHeld => ?_))
              · (try dsimp only); exact gz
              clear hK K
              clear qs hsl
              refine wpAnyH_ready (rs := [8, 12]) (by kernel_rfl) (by simp) ?_
              refine AllReadyH.cons (o := _) rfl (fun K hK => ?_) ?_
              · clear hHeld
                go_simp
                refine (decimal_r s hs _).mono ?_
                rintro e wq3 ⟨rfl, g⟩
                replace RS := RS.kept g
                replace gz := gz.trans g
                clear g
                first | (refine hK.out _ _ ?_ (fun hHeld => ?_)) | (go_wp2_with fail; refine hK.out _ _ ?_ (fun hHeld => ?_))
                · (try dsimp only); (repeat (first | assumption | exact grown_refl _ | refine grown_dr ?_ | refine grown_dn ?_ | refine grown_al ?_))
                clear hK K
                refine wpAnyH_take (i := 9) (oi := _) (v := .string ⟨(nm k ++ Lib.itoa s).toArray⟩) rfl (by kernel_rfl) (by kernel_rfl) (by kernel_rfl) (fun _ _ _ h => h) (Or.inl ⟨by kernel_rfl, ?_⟩) (by assumption) ?_
                · (intro w hSw; (try dsimp only at hSw); go_simp; first | done | (rw [str_app]; first | done | with_reducible rfl) | (simp only [str_app]; first | done | with_reducible rfl))
                try go_simp
                refine wpAnyH_take (i := 11) (oi := _) (v := ?_) rfl (by kernel_rfl) (by kernel_rfl) (by kernel_rfl) (fun _ _ _ h => h) (Or.inl ⟨by rfl, ?_⟩) (by assumption) ?_
                rotate_left 1
                · (intro w hSw; (try dsimp only at hSw); go_simp; first | done | with_reducible rfl)
                try go_simp
                refine wpAnyH_ready (rs := [12]) (by kernel_rfl) (by simp) ?_
                refine AllReadyH.cons (o := _) rfl (fun K hK => ?_) ?_
                · clear hHeld
                  go_simp
                  obtain ⟨wq4, ea, RA, g⟩ := row_of wq3 28 #[.int .i64 0, .string ⟨#[]⟩, .int .i64 0, .int .i64 0]
                  have hBRA : wa.heap.size ≤ wq3.heap.size := gz.size
                  replace RS := RS.kept g
                  replace gz := gz.trans g
                  clear g
                  first | (refine hK.out _ _ ?_ (fun hHeld => ?_)) | (go_wp2_with fail; refine hK.out _ _ ?_ (fun hHeld => ?_))
                  · (try dsimp only); (first | rw [← ea] | skip); exact gz
                  clear hK K
                  rw [← ea]
                  clear ea hHeld
                  have hHeld := gz
                  refine wpAnyH_ready (rs := [13]) (by kernel_rfl) (by simp) ?_
                  refine AllReadyH.cons (o := _) rfl (fun K hK => ?_) ?_
                  · clear hHeld
                    have k0 := RA.c 0 rfl
                    have f0 := RA.fz 0
                    have k1 := RA.c 1 rfl
                    have f1 := RA.fz 1
                    have k2 := RA.c 2 rfl
                    have f2 := RA.fz 2
                    have k3 := RA.c 3 rfl
                    have f3 := RA.fz 3
                    have hsz := RA.lt
                    have gst := (grown_set (i := 3) (v := .int .i64 0) (grown_set (i := 2) (v := .int .i64 day) (grown_set (i := 1) (v := .string ⟨(nm k ++ Lib.itoa s).toArray⟩) (grown_set (i := 0) (v := .int .i64 (1 + 2 * (k : Int))) gz (.inl hBRA)) (.inl hBRA)) (.inl hBRA)) (.inl hBRA))
                    have RS2 := ((((RA.set 0 (.int .i64 (1 + 2 * (k : Int)))).set 1 (.string ⟨(nm k ++ Lib.itoa s).toArray⟩)).set 2 (.int .i64 day)).set 3 (.int .i64 0))
                    go_simp
                    first | (refine hK.out _ _ ?_ (fun hHeld => ?_)) | (go_wp2_with fail; refine hK.out _ _ ?_ (fun hHeld => ?_))
                    · (try dsimp only); exact gst
                    clear hK K
                    refine wpAnyH_done (by kernel_rfl) ?_ _
                    refine NoPanic.normal ?_
                    go_simp
                    go_wp2_with fail
                    go_meet
                    exact ⟨_, rfl, RS2, hBRA, gst⟩
                  exact AllReadyH.nil
                exact AllReadyH.nil
              refine AllReadyH.cons (o := _) rfl (fun K hK => ?_) ?_
              · clear hHeld
                go_simp
                obtain ⟨wq3, ea, RA, g⟩ := row_of wq1 28 #[.int .i64 0, .string ⟨#[]⟩, .int .i64 0, .int .i64 0]
                have gb : wq1.drew.grownBy wq3.drew none := ⟨g.os, g.tape, g.output, g.size, g.block⟩
                have hBRA : wa.heap.size ≤ wq1.heap.size := gz.size
                replace RA := RA.kept (grown_dr (grown_refl wq3))
                clear g
                have g := gb
                clear gb
                replace RS := RS.kept g
                replace gz := gz.trans g
                clear g
                first | (refine hK.out _ _ ?_ (fun hHeld => ?_)) | (go_wp2_with fail; refine hK.out _ _ ?_ (fun hHeld => ?_))
                · (try dsimp only); (first | rw [← ea] | skip); exact gz
                clear hK K
                rw [← ea]
                clear ea hHeld
                have hHeld := gz
                refine wpAnyH_ready (rs := [8]) (by kernel_rfl) (by simp) ?_
                refine AllReadyH.cons (o := _) rfl (fun K hK => ?_) ?_
                · clear hHeld
                  go_simp
                  refine (decimal_r s hs _).mono ?_
                  rintro e wq4 ⟨rfl, g⟩
                  replace RS := RS.kept g
                  replace RA := RA.kept g
                  replace gz := gz.trans g
                  clear g
                  first | (refine hK.out _ _ ?_ (fun hHeld => ?_)) | (go_wp2_with fail; refine hK.out _ _ ?_ (fun hHeld => ?_))
                  · (try dsimp only); (repeat (first | assumption | exact grown_refl _ | refine grown_dr ?_ | refine grown_dn ?_ | refine grown_al ?_))
                  clear hK K
                  refine wpAnyH_take (i := 9) (oi := _) (v := .string ⟨(nm k ++ Lib.itoa s).toArray⟩) rfl (by kernel_rfl) (by kernel_rfl) (by kernel_rfl) (fun _ _ _ h => h) (Or.inl ⟨by kernel_rfl, ?_⟩) (by assumption) ?_
                  · (intro w hSw; (try dsimp only at hSw); go_simp; first | done | (rw [str_app]; first | done | with_reducible rfl) | (simp only [str_app]; first | done | with_reducible rfl))
                  try go_simp
                  refine wpAnyH_take (i := 11) (oi := _) (v := ?_) rfl (by kernel_rfl) (by kernel_rfl) (by kernel_rfl) (fun _ _ _ h => h) (Or.inl ⟨by rfl, ?_⟩) (by assumption) ?_
                  rotate_left 1
                  · (intro w hSw; (try dsimp only at hSw); go_simp; first | done | with_reducible rfl)
                  try go_simp
                  refine wpAnyH_ready (rs := [13]) (by kernel_rfl) (by simp) ?_
                  refine AllReadyH.cons (o := _) rfl (fun K hK => ?_) ?_
                  · clear hHeld
                    have k0 := RA.c 0 rfl
                    have f0 := RA.fz 0
                    have k1 := RA.c 1 rfl
                    have f1 := RA.fz 1
                    have k2 := RA.c 2 rfl
                    have f2 := RA.fz 2
                    have k3 := RA.c 3 rfl
                    have f3 := RA.fz 3
                    have hsz := RA.lt
                    have gst := (grown_set (i := 3) (v := .int .i64 0) (grown_set (i := 2) (v := .int .i64 day) (grown_set (i := 1) (v := .string ⟨(nm k ++ Lib.itoa s).toArray⟩) (grown_set (i := 0) (v := .int .i64 (1 + 2 * (k : Int))) gz (.inl hBRA)) (.inl hBRA)) (.inl hBRA)) (.inl hBRA))
                    have RS2 := ((((RA.set 0 (.int .i64 (1 + 2 * (k : Int)))).set 1 (.string ⟨(nm k ++ Lib.itoa s).toArray⟩)).set 2 (.int .i64 day)).set 3 (.int .i64 0))
                    go_simp
                    first | (refine hK.out _ _ ?_ (fun hHeld => ?_)) | (go_wp2_with fail; refine hK.out _ _ ?_ (fun hHeld => ?_))
                    · (try dsimp only); exact gst
                    clear hK K
                    refine wpAnyH_done (by kernel_rfl) ?_ _
                    refine NoPanic.normal ?_
                    go_simp
                    go_wp2_with fail
                    go_meet
                    exact ⟨_, rfl, RS2, hBRA, gst⟩
                  exact AllReadyH.nil
                exact AllReadyH.nil
              exact AllReadyH.nil
            refine AllReadyH.cons (o := _) rfl (fun K hK => ?_) ?_
            · clear hHeld
              go_simp
              refine (decimal_r s hs _).mono ?_
              rintro e wq2 ⟨rfl, g⟩
              replace RS := RS.kept g
              replace gz := gz.trans g
              clear g
              first | (refine hK.out _ _ ?_ (fun hHeld => ?_)) | (go_wp2_with fail; refine hK.out _ _ ?_ (fun hHeld => ?_))
              · (try dsimp only); (repeat (first | assumption | exact grown_refl _ | refine grown_dr ?_ | refine grown_dn ?_ | refine grown_al ?_))
              clear hK K
              refine wpAnyH_ready (rs := [6, 12]) (by kernel_rfl) (by simp) ?_
              refine AllReadyH.cons (o := _) rfl (fun K hK => ?_) ?_
              · clear hHeld
                have qs := RS.c k (nm_at hlt)
                have hsl := RS.lt
                go_simp
                first | (refine hK.out _ _ ?_ (fun hHeld => ?_)) | (go_wp2_with fail; refine hK.out _ _ ?_ (fun hHeld => ?_))
                · (try dsimp only); exact gz
                clear hK K
                clear qs hsl
                refine wpAnyH_take (i := 9) (oi := _) (v := .string ⟨(nm k ++ Lib.itoa s).toArray⟩) rfl (by kernel_rfl) (by kernel_rfl) (by kernel_rfl) (fun _ _ _ h => h) (Or.inl ⟨by kernel_rfl, ?_⟩) (by assumption) ?_
                · (intro w hSw; (try dsimp only at hSw); go_simp; first | done | (rw [str_app]; first | done | with_reducible rfl) | (simp only [str_app]; first | done | with_reducible rfl))
                try go_simp
                refine wpAnyH_take (i := 11) (oi := _) (v := ?_) rfl (by kernel_rfl) (by kernel_rfl) (by kernel_rfl) (fun _ _ _ h => h) (Or.inl ⟨by rfl, ?_⟩) (by assumption) ?_
                rotate_left 1
                · (intro w hSw; (try dsimp only at hSw); go_simp; first | done | with_reducible rfl)
                try go_simp
                refine wpAnyH_ready (rs := [12]) (by kernel_rfl) (by simp) ?_
                refine AllReadyH.cons (o := _) rfl (fun K hK => ?_) ?_
                · clear hHeld
                  go_simp
                  obtain ⟨wq4, ea, RA, g⟩ := row_of wq2 28 #[.int .i64 0, .string ⟨#[]⟩, .int .i64 0, .int .i64 0]
                  have hBRA : wa.heap.size ≤ wq2.heap.size := gz.size
                  replace RS := RS.kept g
                  replace gz := gz.trans g
                  clear g
                  first | (refine hK.out _ _ ?_ (fun hHeld => ?_)) | (go_wp2_with fail; refine hK.out _ _ ?_ (fun hHeld => ?_))
                  · (try dsimp only); (first | rw [← ea] | skip); exact gz
                  clear hK K
                  rw [← ea]
                  clear ea hHeld
                  have hHeld := gz
                  refine wpAnyH_ready (rs := [13]) (by kernel_rfl) (by simp) ?_
                  refine AllReadyH.cons (o := _) rfl (fun K hK => ?_) ?_
                  · clear hHeld
                    have k0 := RA.c 0 rfl
                    have f0 := RA.fz 0
                    have k1 := RA.c 1 rfl
                    have f1 := RA.fz 1
                    have k2 := RA.c 2 rfl
                    have f2 := RA.fz 2
                    have k3 := RA.c 3 rfl
                    have f3 := RA.fz 3
                    have hsz := RA.lt
                    have gst := (grown_set (i := 3) (v := .int .i64 0) (grown_set (i := 2) (v := .int .i64 day) (grown_set (i := 1) (v := .string ⟨(nm k ++ Lib.itoa s).toArray⟩) (grown_set (i := 0) (v := .int .i64 (1 + 2 * (k : Int))) gz (.inl hBRA)) (.inl hBRA)) (.inl hBRA)) (.inl hBRA))
                    have RS2 := ((((RA.set 0 (.int .i64 (1 + 2 * (k : Int)))).set 1 (.string ⟨(nm k ++ Lib.itoa s).toArray⟩)).set 2 (.int .i64 day)).set 3 (.int .i64 0))
                    go_simp
                    first | (refine hK.out _ _ ?_ (fun hHeld => ?_)) | (go_wp2_with fail; refine hK.out _ _ ?_ (fun hHeld => ?_))
                    · (try dsimp only); exact gst
                    clear hK K
                    refine wpAnyH_done (by kernel_rfl) ?_ _
                    refine NoPanic.normal ?_
                    go_simp
                    go_wp2_with fail
                    go_meet
                    exact ⟨_, rfl, RS2, hBRA, gst⟩
                  exact AllReadyH.nil
                exact AllReadyH.nil
              refine AllReadyH.cons (o := _) rfl (fun K hK => ?_) ?_
              · clear hHeld
                go_simp
                obtain ⟨wq3, ea, RA, g⟩ := row_of wq2 28 #[.int .i64 0, .string ⟨#[]⟩, .int .i64 0, .int .i64 0]
                have hBRA : wa.heap.size ≤ wq2.heap.size := gz.size
                replace RS := RS.kept g
                replace gz := gz.trans g
                clear g
                first | (refine hK.out _ _ ?_ (fun hHeld => ?_)) | (go_wp2_with fail; refine hK.out _ _ ?_ (fun hHeld => ?_))
                · (try dsimp only); (first | rw [← ea] | skip); exact gz
                clear hK K
                rw [← ea]
                clear ea hHeld
                have hHeld := gz
                refine wpAnyH_ready (rs := [6]) (by kernel_rfl) (by simp) ?_
                refine AllReadyH.cons (o := _) rfl (fun K hK => ?_) ?_
                · clear hHeld
                  have qs := RS.c k (nm_at hlt)
                  have hsl := RS.lt
                  go_simp
                  first | (refine hK.out _ _ ?_ (fun hHeld => ?_)) | (go_wp2_with fail; refine hK.out _ _ ?_ (fun hHeld => ?_))
                  · (try dsimp only); exact gz
                  clear hK K
                  clear qs hsl
                  refine wpAnyH_take (i := 9) (oi := _) (v := .string ⟨(nm k ++ Lib.itoa s).toArray⟩) rfl (by kernel_rfl) (by kernel_rfl) (by kernel_rfl) (fun _ _ _ h => h) (Or.inl ⟨by kernel_rfl, ?_⟩) (by assumption) ?_
                  · (intro w hSw; (try dsimp only at hSw); go_simp; first | done | (rw [str_app]; first | done | with_reducible rfl) | (simp only [str_app]; first | done | with_reducible rfl))
                  try go_simp
                  refine wpAnyH_take (i := 11) (oi := _) (v := ?_) rfl (by kernel_rfl) (by kernel_rfl) (by kernel_rfl) (fun _ _ _ h => h) (Or.inl ⟨by rfl, ?_⟩) (by assumption) ?_
                  rotate_left 1
                  · (intro w hSw; (try dsimp only at hSw); go_simp; first | done | with_reducible rfl)
                  try go_simp
                  refine wpAnyH_ready (rs := [13]) (by kernel_rfl) (by simp) ?_
                  refine AllReadyH.cons (o := _) rfl (fun K hK => ?_) ?_
                  · clear hHeld
                    have k0 := RA.c 0 rfl
                    have f0 := RA.fz 0
                    have k1 := RA.c 1 rfl
                    have f1 := RA.fz 1
                    have k2 := RA.c 2 rfl
                    have f2 := RA.fz 2
                    have k3 := RA.c 3 rfl
                    have f3 := RA.fz 3
                    have hsz := RA.lt
                    have gst := (grown_set (i := 3) (v := .int .i64 0) (grown_set (i := 2) (v := .int .i64 day) (grown_set (i := 1) (v := .string ⟨(nm k ++ Lib.itoa s).toArray⟩) (grown_set (i := 0) (v := .int .i64 (1 + 2 * (k : Int))) gz (.inl hBRA)) (.inl hBRA)) (.inl hBRA)) (.inl hBRA))
                    have RS2 := ((((RA.set 0 (.int .i64 (1 + 2 * (k : Int)))).set 1 (.string ⟨(nm k ++ Lib.itoa s).toArray⟩)).set 2 (.int .i64 day)).set 3 (.int .i64 0))
                    go_simp
                    first | (refine hK.out _ _ ?_ (fun hHeld => ?_)) | (go_wp2_with fail; refine hK.out _ _ ?_ (fun hHeld => ?_))
                    · (try dsimp only); exact gst
                    clear hK K
                    refine wpAnyH_done (by kernel_rfl) ?_ _
                    refine NoPanic.normal ?_
                    go_simp
                    go_wp2_with fail
                    go_meet
                    exact ⟨_, rfl, RS2, hBRA, gst⟩
                  exact AllReadyH.nil
                exact AllReadyH.nil
              exact AllReadyH.nil
            refine AllReadyH.cons (o := _) rfl (fun K hK => ?_) ?_
            · clear hHeld
              go_simp
              obtain ⟨wq2, ea, RA, g⟩ := row_of wq1 28 #[.int .i64 0, .string ⟨#[]⟩, .int .i64 0, .int .i64 0]
              have gb : wq1.drew.grownBy wq2.drew none := ⟨g.os, g.tape, g.output, g.size, g.block⟩
              have hBRA : wa.heap.size ≤ wq1.heap.size := gz.size
              replace RA := RA.kept (grown_dr (grown_refl wq2))
              clear g
              have g := gb
              clear gb
              replace RS := RS.kept g
              replace gz := gz.trans g
              clear g
              first | (refine hK.out _ _ ?_ (fun hHeld => ?_)) | (go_wp2_with fail; refine hK.out _ _ ?_ (fun hHeld => ?_))
              · (try dsimp only); (first | rw [← ea] | skip); exact gz
              clear hK K
              rw [← ea]
              clear ea hHeld
              have hHeld := gz
              refine wpAnyH_ready (rs := [6, 8]) (by kernel_rfl) (by simp) ?_
              refine AllReadyH.cons (o := _) rfl (fun K hK => ?_) ?_
              · clear hHeld
                have qs := RS.c k (nm_at hlt)
                have hsl := RS.lt
                go_simp
                first | (refine hK.out _ _ ?_ (fun hHeld => ?_)) | (go_wp2_with fail; refine hK.out _ _ ?_ (fun hHeld => ?_))
                · (try dsimp only); exact gz
                clear hK K
                clear qs hsl
                refine wpAnyH_ready (rs := [8]) (by kernel_rfl) (by simp) ?_
                refine AllReadyH.cons (o := _) rfl (fun K hK => ?_) ?_
                · clear hHeld
                  go_simp
                  refine (decimal_r s hs _).mono ?_
                  rintro e wq4 ⟨rfl, g⟩
                  replace RS := RS.kept g
                  replace RA := RA.kept g
                  replace gz := gz.trans g
                  clear g
                  first | (refine hK.out _ _ ?_ (fun hHeld => ?_)) | (go_wp2_with fail; refine hK.out _ _ ?_ (fun hHeld => ?_))
                  · (try dsimp only); (repeat (first | assumption | exact grown_refl _ | refine grown_dr ?_ | refine grown_dn ?_ | refine grown_al ?_))
                  clear hK K
                  refine wpAnyH_take (i := 9) (oi := _) (v := .string ⟨(nm k ++ Lib.itoa s).toArray⟩) rfl (by kernel_rfl) (by kernel_rfl) (by kernel_rfl) (fun _ _ _ h => h) (Or.inl ⟨by kernel_rfl, ?_⟩) (by assumption) ?_
                  · (intro w hSw; (try dsimp only at hSw); go_simp; first | done | (rw [str_app]; first | done | with_reducible rfl) | (simp only [str_app]; first | done | with_reducible rfl))
                  try go_simp
                  refine wpAnyH_take (i := 11) (oi := _) (v := ?_) rfl (by kernel_rfl) (by kernel_rfl) (by kernel_rfl) (fun _ _ _ h => h) (Or.inl ⟨by rfl, ?_⟩) (by assumption) ?_
                  rotate_left 1
                  · (intro w hSw; (try dsimp only at hSw); go_simp; first | done | with_reducible rfl)
                  try go_simp
                  refine wpAnyH_ready (rs := [13]) (by kernel_rfl) (by simp) ?_
                  refine AllReadyH.cons (o := _) rfl (fun K hK => ?_) ?_
                  · clear hHeld
                    have k0 := RA.c 0 rfl
                    have f0 := RA.fz 0
                    have k1 := RA.c 1 rfl
                    have f1 := RA.fz 1
                    have k2 := RA.c 2 rfl
                    have f2 := RA.fz 2
                    have k3 := RA.c 3 rfl
                    have f3 := RA.fz 3
                    have hsz := RA.lt
                    have gst := (grown_set (i := 3) (v := .int .i64 0) (grown_set (i := 2) (v := .int .i64 day) (grown_set (i := 1) (v := .string ⟨(nm k ++ Lib.itoa s).toArray⟩) (grown_set (i := 0) (v := .int .i64 (1 + 2 * (k : Int))) gz (.inl hBRA)) (.inl hBRA)) (.inl hBRA)) (.inl hBRA))
                    have RS2 := ((((RA.set 0 (.int .i64 (1 + 2 * (k : Int)))).set 1 (.string ⟨(nm k ++ Lib.itoa s).toArray⟩)).set 2 (.int .i64 day)).set 3 (.int .i64 0))
                    go_simp
                    first | (refine hK.out _ _ ?_ (fun hHeld => ?_)) | (go_wp2_with fail; refine hK.out _ _ ?_ (fun hHeld => ?_))
                    · (try dsimp only); exact gst
                    clear hK K
                    refine wpAnyH_done (by kernel_rfl) ?_ _
                    refine NoPanic.normal ?_
                    go_simp
                    go_wp2_with fail
                    go_meet
                    exact ⟨_, rfl, RS2, hBRA, gst⟩
                  exact AllReadyH.nil
                exact AllReadyH.nil
              refine AllReadyH.cons (o := _) rfl (fun K hK => ?_) ?_
              · clear hHeld
                go_simp
                refine (decimal_r s hs _).mono ?_
                rintro e wq3 ⟨rfl, g⟩
                replace RS := RS.kept g
                replace RA := RA.kept g
                replace gz := gz.trans g
                clear g
                first | (refine hK.out _ _ ?_ (fun hHeld => ?_)) | (go_wp2_with fail; refine hK.out _ _ ?_ (fun hHeld => ?_))
                · (try dsimp only); (repeat (first | assumption | exact grown_refl _ | refine grown_dr ?_ | refine grown_dn ?_ | refine grown_al ?_))
                clear hK K
                refine wpAnyH_ready (rs := [6]) (by kernel_rfl) (by simp) ?_
                refine AllReadyH.cons (o := _) rfl (fun K hK => ?_) ?_
                · clear hHeld
                  have qs := RS.c k (nm_at hlt)
                  have hsl := RS.lt
                  go_simp
                  first | (refine hK.out _ _ ?_ (fun hHeld => ?_)) | (go_wp2_with fail; refine hK.out _ _ ?_ (fun hHeld => ?_))
                  · (try dsimp only); exact gz
                  clear hK K
                  clear qs hsl
                  refine wpAnyH_take (i := 9) (oi := _) (v := .string ⟨(nm k ++ Lib.itoa s).toArray⟩) rfl (by kernel_rfl) (by kernel_rfl) (by kernel_rfl) (fun _ _ _ h => h) (Or.inl ⟨by kernel_rfl, ?_⟩) (by assumption) ?_
                  · (intro w hSw; (try dsimp only at hSw); go_simp; first | done | (rw [str_app]; first | done | with_reducible rfl) | (simp only [str_app]; first | done | with_reducible rfl))
                  try go_simp
                  refine wpAnyH_take (i := 11) (oi := _) (v := ?_) rfl (by kernel_rfl) (by kernel_rfl) (by kernel_rfl) (fun _ _ _ h => h) (Or.inl ⟨by rfl, ?_⟩) (by assumption) ?_
                  rotate_left 1
                  · (intro w hSw; (try dsimp only at hSw); go_simp; first | done | with_reducible rfl)
                  try go_simp
                  refine wpAnyH_ready (rs := [13]) (by kernel_rfl) (by simp) ?_
                  refine AllReadyH.cons (o := _) rfl (fun K hK => ?_) ?_
                  · clear hHeld
                    have k0 := RA.c 0 rfl
                    have f0 := RA.fz 0
                    have k1 := RA.c 1 rfl
                    have f1 := RA.fz 1
                    have k2 := RA.c 2 rfl
                    have f2 := RA.fz 2
                    have k3 := RA.c 3 rfl
                    have f3 := RA.fz 3
                    have hsz := RA.lt
                    have gst := (grown_set (i := 3) (v := .int .i64 0) (grown_set (i := 2) (v := .int .i64 day) (grown_set (i := 1) (v := .string ⟨(nm k ++ Lib.itoa s).toArray⟩) (grown_set (i := 0) (v := .int .i64 (1 + 2 * (k : Int))) gz (.inl hBRA)) (.inl hBRA)) (.inl hBRA)) (.inl hBRA))
                    have RS2 := ((((RA.set 0 (.int .i64 (1 + 2 * (k : Int)))).set 1 (.string ⟨(nm k ++ Lib.itoa s).toArray⟩)).set 2 (.int .i64 day)).set 3 (.int .i64 0))
                    go_simp
                    first | (refine hK.out _ _ ?_ (fun hHeld => ?_)) | (go_wp2_with fail; refine hK.out _ _ ?_ (fun hHeld => ?_))
                    · (try dsimp only); exact gst
                    clear hK K
                    refine wpAnyH_done (by kernel_rfl) ?_ _
                    refine NoPanic.normal ?_
                    go_simp
                    go_wp2_with fail
                    go_meet
                    exact ⟨_, rfl, RS2, hBRA, gst⟩
                  exact AllReadyH.nil
                exact AllReadyH.nil
              exact AllReadyH.nil
            exact AllReadyH.nil
          refine AllReadyH.cons (o := _) rfl (fun K hK => ?_) ?_
          · clear hHeld
            go_simp
            refine (decimal_r s hs _).mono ?_
            rintro e wq1 ⟨rfl, g⟩
            replace gz := gz.trans g
            clear g
            first | (refine hK.out _ _ ?_ (fun hHeld => ?_)) | (go_wp2_with fail; refine hK.out _ _ ?_ (fun hHeld => ?_))
            · (try dsimp only); (repeat (first | assumption | exact grown_refl _ | refine grown_dr ?_ | refine grown_dn ?_ | refine grown_al ?_))
            clear hK K
            refine wpAnyH_ready (rs := [3, 12]) (by kernel_rfl) (by simp) ?_
            refine AllReadyH.cons (o := _) rfl (fun K hK => ?_) ?_
            · clear hHeld
              go_simp
              obtain ⟨wq2, ea, RS, g⟩ := row_of wq1 9 #[.string ⟨#[111, 97, 107]⟩, .string ⟨#[101, 108, 109]⟩, .string ⟨#[97, 115, 104]⟩]
              have hBRS : wa.heap.size ≤ wq1.heap.size := gz.size
              replace gz := gz.trans g
              clear g
              first | (refine hK.out _ _ ?_ (fun hHeld => ?_)) | (go_wp2_with fail; refine hK.out _ _ ?_ (fun hHeld => ?_))
              · (try dsimp only); (first | rw [← ea] | skip); exact gz
              clear hK K
              rw [← ea]
              clear ea hHeld
              have hHeld := gz
              refine wpAnyH_take (i := 5) (oi := _) (v := ?_) rfl (by kernel_rfl) (by kernel_rfl) (by kernel_rfl) (fun _ _ _ h => h) (Or.inl ⟨by rfl, ?_⟩) (by assumption) ?_
              rotate_left 1
              · (intro w hSw; (try dsimp only at hSw); go_simp; first | done | with_reducible rfl)
              try go_simp
              refine wpAnyH_ready (rs := [6, 12]) (by kernel_rfl) (by simp) ?_
              refine AllReadyH.cons (o := _) rfl (fun K hK => ?_) ?_
              · clear hHeld
                have qs := RS.c k (nm_at hlt)
                have hsl := RS.lt
                go_simp
                first | (refine hK.out _ _ ?_ (fun hHeld => ?_)) | (go_wp2_with fail; refine hK.out _ _ ?_ (fun hHeld => ?_))
                · (try dsimp only); exact gz
                clear hK K
                clear qs hsl
                refine wpAnyH_take (i := 9) (oi := _) (v := .string ⟨(nm k ++ Lib.itoa s).toArray⟩) rfl (by kernel_rfl) (by kernel_rfl) (by kernel_rfl) (fun _ _ _ h => h) (Or.inl ⟨by kernel_rfl, ?_⟩) (by assumption) ?_
                · (intro w hSw; (try dsimp only at hSw); go_simp; first | done | (rw [str_app]; first | done | with_reducible rfl) | (simp only [str_app]; first | done | with_reducible rfl))
                try go_simp
                refine wpAnyH_take (i := 11) (oi := _) (v := ?_) rfl (by kernel_rfl) (by kernel_rfl) (by kernel_rfl) (fun _ _ _ h => h) (Or.inl ⟨by rfl, ?_⟩) (by assumption) ?_
                rotate_left 1
                · (intro w hSw; (try dsimp only at hSw); go_simp; first | done | with_reducible rfl)
                try go_simp
                refine wpAnyH_ready (rs := [12]) (by kernel_rfl) (by simp) ?_
                refine AllReadyH.cons (o := _) rfl (fun K hK => ?_) ?_
                · clear hHeld
                  go_simp
                  obtain ⟨wq4, ea, RA, g⟩ := row_of wq2 28 #[.int .i64 0, .string ⟨#[]⟩, .int .i64 0, .int .i64 0]
                  have hBRA : wa.heap.size ≤ wq2.heap.size := gz.size
                  replace RS := RS.kept g
                  replace gz := gz.trans g
                  clear g
                  first | (refine hK.out _ _ ?_ (fun hHeld => ?_)) | (go_wp2_with fail; refine hK.out _ _ ?_ (fun hHeld => ?_))
                  · (try dsimp only); (first | rw [← ea] | skip); exact gz
                  clear hK K
                  rw [← ea]
                  clear ea hHeld
                  have hHeld := gz
                  refine wpAnyH_ready (rs := [13]) (by kernel_rfl) (by simp) ?_
                  refine AllReadyH.cons (o := _) rfl (fun K hK => ?_) ?_
                  · clear hHeld
                    have k0 := RA.c 0 rfl
                    have f0 := RA.fz 0
                    have k1 := RA.c 1 rfl
                    have f1 := RA.fz 1
                    have k2 := RA.c 2 rfl
                    have f2 := RA.fz 2
                    have k3 := RA.c 3 rfl
                    have f3 := RA.fz 3
                    have hsz := RA.lt
                    have gst := (grown_set (i := 3) (v := .int .i64 0) (grown_set (i := 2) (v := .int .i64 day) (grown_set (i := 1) (v := .string ⟨(nm k ++ Lib.itoa s).toArray⟩) (grown_set (i := 0) (v := .int .i64 (1 + 2 * (k : Int))) gz (.inl hBRA)) (.inl hBRA)) (.inl hBRA)) (.inl hBRA))
                    have RS2 := ((((RA.set 0 (.int .i64 (1 + 2 * (k : Int)))).set 1 (.string ⟨(nm k ++ Lib.itoa s).toArray⟩)).set 2 (.int .i64 day)).set 3 (.int .i64 0))
                    go_simp
                    first | (refine hK.out _ _ ?_ (fun hHeld => ?_)) | (go_wp2_with fail; refine hK.out _ _ ?_ (fun hHeld => ?_))
                    · (try dsimp only); exact gst
                    clear hK K
                    refine wpAnyH_done (by kernel_rfl) ?_ _
                    refine NoPanic.normal ?_
                    go_simp
                    go_wp2_with fail
                    go_meet
                    exact ⟨_, rfl, RS2, hBRA, gst⟩
                  exact AllReadyH.nil
                exact AllReadyH.nil
              refine AllReadyH.cons (o := _) rfl (fun K hK => ?_) ?_
              · clear hHeld
                go_simp
                obtain ⟨wq3, ea, RA, g⟩ := row_of wq2 28 #[.int .i64 0, .string ⟨#[]⟩, .int .i64 0, .int .i64 0]
                have hBRA : wa.heap.size ≤ wq2.heap.size := gz.size
                replace RS := RS.kept g
                replace gz := gz.trans g
                clear g
                first | (refine hK.out _ _ ?_ (fun hHeld => ?_)) | (go_wp2_with fail; refine hK.out _ _ ?_ (fun hHeld => ?_))
                · (try dsimp only); (first | rw [← ea] | skip); exact gz
                clear hK K
                rw [← ea]
                clear ea hHeld
                have hHeld := gz
                refine wpAnyH_ready (rs := [6]) (by kernel_rfl) (by simp) ?_
                refine AllReadyH.cons (o := _) rfl (fun K hK => ?_) ?_
                · clear hHeld
                  have qs := RS.c k (nm_at hlt)
                  have hsl := RS.lt
                  go_simp
                  first | (refine hK.out _ _ ?_ (fun hHeld => ?_)) | (go_wp2_with fail; refine hK.out _ _ ?_ (fun hHeld => ?_))
                  · (try dsimp only); exact gz
                  clear hK K
                  clear qs hsl
                  refine wpAnyH_take (i := 9) (oi := _) (v := .string ⟨(nm k ++ Lib.itoa s).toArray⟩) rfl (by kernel_rfl) (by kernel_rfl) (by kernel_rfl) (fun _ _ _ h => h) (Or.inl ⟨by kernel_rfl, ?_⟩) (by assumption) ?_
                  · (intro w hSw; (try dsimp only at hSw); go_simp; first | done | (rw [str_app]; first | done | with_reducible rfl) | (simp only [str_app]; first | done | with_reducible rfl))
                  try go_simp
                  refine wpAnyH_take (i := 11) (oi := _) (v := ?_) rfl (by kernel_rfl) (by kernel_rfl) (by kernel_rfl) (fun _ _ _ h => h) (Or.inl ⟨by rfl, ?_⟩) (by assumption) ?_
                  rotate_left 1
                  · (intro w hSw; (try dsimp only at hSw); go_simp; first | done | with_reducible rfl)
                  try go_simp
                  refine wpAnyH_ready (rs := [13]) (by kernel_rfl) (by simp) ?_
                  refine AllReadyH.cons (o := _) rfl (fun K hK => ?_) ?_
                  · clear hHeld
                    have k0 := RA.c 0 rfl
                    have f0 := RA.fz 0
                    have k1 := RA.c 1 rfl
                    have f1 := RA.fz 1
                    have k2 := RA.c 2 rfl
                    have f2 := RA.fz 2
                    have k3 := RA.c 3 rfl
                    have f3 := RA.fz 3
                    have hsz := RA.lt
                    have gst := (grown_set (i := 3) (v := .int .i64 0) (grown_set (i := 2) (v := .int .i64 day) (grown_set (i := 1) (v := .string ⟨(nm k ++ Lib.itoa s).toArray⟩) (grown_set (i := 0) (v := .int .i64 (1 + 2 * (k : Int))) gz (.inl hBRA)) (.inl hBRA)) (.inl hBRA)) (.inl hBRA))
                    have RS2 := ((((RA.set 0 (.int .i64 (1 + 2 * (k : Int)))).set 1 (.string ⟨(nm k ++ Lib.itoa s).toArray⟩)).set 2 (.int .i64 day)).set 3 (.int .i64 0))
                    go_simp
                    first | (refine hK.out _ _ ?_ (fun hHeld => ?_)) | (go_wp2_with fail; refine hK.out _ _ ?_ (fun hHeld => ?_))
                    · (try dsimp only); exact gst
                    clear hK K
                    refine wpAnyH_done (by kernel_rfl) ?_ _
                    refine NoPanic.normal ?_
                    go_simp
                    go_wp2_with fail
                    go_meet
                    exact ⟨_, rfl, RS2, hBRA, gst⟩
                  exact AllReadyH.nil
                exact AllReadyH.nil
              exact AllReadyH.nil
            refine AllReadyH.cons (o := _) rfl (fun K hK => ?_) ?_
            · clear hHeld
              go_simp
              obtain ⟨wq2, ea, RA, g⟩ := row_of wq1 28 #[.int .i64 0, .string ⟨#[]⟩, .int .i64 0, .int .i64 0]
              have hBRA : wa.heap.size ≤ wq1.heap.size := gz.size
              replace gz := gz.trans g
              clear g
              first | (refine hK.out _ _ ?_ (fun hHeld => ?_)) | (go_wp2_with fail; refine hK.out _ _ ?_ (fun hHeld => ?_))
              · (try dsimp only); (first | rw [← ea] | skip); exact gz
              clear hK K
              rw [← ea]
              clear ea hHeld
              have hHeld := gz
              refine wpAnyH_ready (rs := [3]) (by kernel_rfl) (by simp) ?_
              refine AllReadyH.cons (o := _) rfl (fun K hK => ?_) ?_
              · clear hHeld
                go_simp
                obtain ⟨wq3, ea, RS, g⟩ := row_of wq2 9 #[.string ⟨#[111, 97, 107]⟩, .string ⟨#[101, 108, 109]⟩, .string ⟨#[97, 115, 104]⟩]
                have hBRS : wa.heap.size ≤ wq2.heap.size := gz.size
                replace RA := RA.kept g
                replace gz := gz.trans g
                clear g
                first | (refine hK.out _ _ ?_ (fun hHeld => ?_)) | (go_wp2_with fail; refine hK.out _ _ ?_ (fun hHeld => ?_))
                · (try dsimp only); (first | rw [← ea] | skip); exact gz
                clear hK K
                rw [← ea]
                clear ea hHeld
                have hHeld := gz
                refine wpAnyH_take (i := 5) (oi := _) (v := ?_) rfl (by kernel_rfl) (by kernel_rfl) (by kernel_rfl) (fun _ _ _ h => h) (Or.inl ⟨by rfl, ?_⟩) (by assumption) ?_
                rotate_left 1
                · (intro w hSw; (try dsimp only at hSw); go_simp; first | done | with_reducible rfl)
                try go_simp
                refine wpAnyH_ready (rs := [6]) (by kernel_rfl) (by simp) ?_
                refine AllReadyH.cons (o := _) rfl (fun K hK => ?_) ?_
                · clear hHeld
                  have qs := RS.c k (nm_at hlt)
                  have hsl := RS.lt
                  go_simp
                  first | (refine hK.out _ _ ?_ (fun hHeld => ?_)) | (go_wp2_with fail; refine hK.out _ _ ?_ (fun hHeld => ?_))
                  · (try dsimp only); exact gz
                  clear hK K
                  clear qs hsl
                  refine wpAnyH_take (i := 9) (oi := _) (v := .string ⟨(nm k ++ Lib.itoa s).toArray⟩) rfl (by kernel_rfl) (by kernel_rfl) (by kernel_rfl) (fun _ _ _ h => h) (Or.inl ⟨by kernel_rfl, ?_⟩) (by assumption) ?_
                  · (intro w hSw; (try dsimp only at hSw); go_simp; first | done | (rw [str_app]; first | done | with_reducible rfl) | (simp only [str_app]; first | done | with_reducible rfl))
                  try go_simp
                  refine wpAnyH_take (i := 11) (oi := _) (v := ?_) rfl (by kernel_rfl) (by kernel_rfl) (by kernel_rfl) (fun _ _ _ h => h) (Or.inl ⟨by rfl, ?_⟩) (by assumption) ?_
                  rotate_left 1
                  · (intro w hSw; (try dsimp only at hSw); go_simp; first | done | with_reducible rfl)
                  try go_simp
                  refine wpAnyH_ready (rs := [13]) (by kernel_rfl) (by simp) ?_
                  refine AllReadyH.cons (o := _) rfl (fun K hK => ?_) ?_
                  · clear hHeld
                    have k0 := RA.c 0 rfl
                    have f0 := RA.fz 0
                    have k1 := RA.c 1 rfl
                    have f1 := RA.fz 1
                    have k2 := RA.c 2 rfl
                    have f2 := RA.fz 2
                    have k3 := RA.c 3 rfl
                    have f3 := RA.fz 3
                    have hsz := RA.lt
                    have gst := (grown_set (i := 3) (v := .int .i64 0) (grown_set (i := 2) (v := .int .i64 day) (grown_set (i := 1) (v := .string ⟨(nm k ++ Lib.itoa s).toArray⟩) (grown_set (i := 0) (v := .int .i64 (1 + 2 * (k : Int))) gz (.inl hBRA)) (.inl hBRA)) (.inl hBRA)) (.inl hBRA))
                    have RS2 := ((((RA.set 0 (.int .i64 (1 + 2 * (k : Int)))).set 1 (.string ⟨(nm k ++ Lib.itoa s).toArray⟩)).set 2 (.int .i64 day)).set 3 (.int .i64 0))
                    go_simp
                    first | (refine hK.out _ _ ?_ (fun hHeld => ?_)) | (go_wp2_with fail; refine hK.out _ _ ?_ (fun hHeld => ?_))
                    · (try dsimp only); exact gst
                    clear hK K
                    refine wpAnyH_done (by kernel_rfl) ?_ _
                    refine NoPanic.normal ?_
                    go_simp
                    go_wp2_with fail
                    go_meet
                    exact ⟨_, rfl, RS2, hBRA, gst⟩
                  exact AllReadyH.nil
                exact AllReadyH.nil
              exact AllReadyH.nil
            exact AllReadyH.nil
          refine AllReadyH.cons (o := _) rfl (fun K hK => ?_) ?_
          · clear hHeld
            go_simp
            obtain ⟨wq1, ea, RA, g⟩ := row_of wa 28 #[.int .i64 0, .string ⟨#[]⟩, .int .i64 0, .int .i64 0]
            have gb : wa.drew.grownBy wq1.drew none := ⟨g.os, g.tape, g.output, g.size, g.block⟩
            have hBRA : wa.heap.size ≤ wa.heap.size := gz.size
            replace RA := RA.kept (grown_dr (grown_refl wq1))
            clear g
            have g := gb
            clear gb
            replace gz := gz.trans g
            clear g
            first | (refine hK.out _ _ ?_ (fun hHeld => ?_)) | (go_wp2_with fail; refine hK.out _ _ ?_ (fun hHeld => ?_))
            · (try dsimp only); (first | rw [← ea] | skip); exact gz
            clear hK K
            rw [← ea]
            clear ea hHeld
            have hHeld := gz
            refine wpAnyH_ready (rs := [3, 8]) (by kernel_rfl) (by simp) ?_
            refine AllReadyH.cons (o := _) rfl (fun K hK => ?_) ?_
            · clear hHeld
              go_simp
              obtain ⟨wq2, ea, RS, g⟩ := row_of wq1 9 #[.string ⟨#[111, 97, 107]⟩, .string ⟨#[101, 108, 109]⟩, .string ⟨#[97, 115, 104]⟩]
              have gb : wq1.drew.grownBy wq2.drew none := ⟨g.os, g.tape, g.output, g.size, g.block⟩
              have hBRS : wa.heap.size ≤ wq1.heap.size := gz.size
              replace RS := RS.kept (grown_dr (grown_refl wq2))
              clear g
              have g := gb
              clear gb
              replace RA := RA.kept g
              replace gz := gz.trans g
              clear g
              first | (refine hK.out _ _ ?_ (fun hHeld => ?_)) | (go_wp2_with fail; refine hK.out _ _ ?_ (fun hHeld => ?_))
              · (try dsimp only); (first | rw [← ea] | skip); exact gz
              clear hK K
              rw [← ea]
              clear ea hHeld
              have hHeld := gz
              refine wpAnyH_take (i := 5) (oi := _) (v := ?_) rfl (by kernel_rfl) (by kernel_rfl) (by kernel_rfl) (fun _ _ _ h => h) (Or.inl ⟨by rfl, ?_⟩) (by assumption) ?_
              rotate_left 1
              · (intro w hSw; (try dsimp only at hSw); go_simp; first | done | with_reducible rfl)
              try go_simp
              refine wpAnyH_ready (rs := [6, 8]) (by kernel_rfl) (by simp) ?_
              refine AllReadyH.cons (o := _) rfl (fun K hK => ?_) ?_
              · clear hHeld
                have qs := RS.c k (nm_at hlt)
                have hsl := RS.lt
                go_simp
                first | (refine hK.out _ _ ?_ (fun hHeld => ?_)) | (go_wp2_with fail; refine hK.out _ _ ?_ (fun hHeld => ?_))
                · (try dsimp only); exact gz
                clear hK K
                clear qs hsl
                refine wpAnyH_ready (rs := [8]) (by kernel_rfl) (by simp) ?_
                refine AllReadyH.cons (o := _) rfl (fun K hK => ?_) ?_
                · clear hHeld
                  go_simp
                  refine (decimal_r s hs _).mono ?_
                  rintro e wq4 ⟨rfl, g⟩
                  replace RA := RA.kept g
                  replace RS := RS.kept g
                  replace gz := gz.trans g
                  clear g
                  first | (refine hK.out _ _ ?_ (fun hHeld => ?_)) | (go_wp2_with fail; refine hK.out _ _ ?_ (fun hHeld => ?_))
                  · (try dsimp only); (repeat (first | assumption | exact grown_refl _ | refine grown_dr ?_ | refine grown_dn ?_ | refine grown_al ?_))
                  clear hK K
                  refine wpAnyH_take (i := 9) (oi := _) (v := .string ⟨(nm k ++ Lib.itoa s).toArray⟩) rfl (by kernel_rfl) (by kernel_rfl) (by kernel_rfl) (fun _ _ _ h => h) (Or.inl ⟨by kernel_rfl, ?_⟩) (by assumption) ?_
                  · (intro w hSw; (try dsimp only at hSw); go_simp; first | done | (rw [str_app]; first | done | with_reducible rfl) | (simp only [str_app]; first | done | with_reducible rfl))
                  try go_simp
                  refine wpAnyH_take (i := 11) (oi := _) (v := ?_) rfl (by kernel_rfl) (by kernel_rfl) (by kernel_rfl) (fun _ _ _ h => h) (Or.inl ⟨by rfl, ?_⟩) (by assumption) ?_
                  rotate_left 1
                  · (intro w hSw; (try dsimp only at hSw); go_simp; first | done | with_reducible rfl)
                  try go_simp
                  refine wpAnyH_ready (rs := [13]) (by kernel_rfl) (by simp) ?_
                  refine AllReadyH.cons (o := _) rfl (fun K hK => ?_) ?_
                  · clear hHeld
                    have k0 := RA.c 0 rfl
                    have f0 := RA.fz 0
                    have k1 := RA.c 1 rfl
                    have f1 := RA.fz 1
                    have k2 := RA.c 2 rfl
                    have f2 := RA.fz 2
                    have k3 := RA.c 3 rfl
                    have f3 := RA.fz 3
                    have hsz := RA.lt
                    have gst := (grown_set (i := 3) (v := .int .i64 0) (grown_set (i := 2) (v := .int .i64 day) (grown_set (i := 1) (v := .string ⟨(nm k ++ Lib.itoa s).toArray⟩) (grown_set (i := 0) (v := .int .i64 (1 + 2 * (k : Int))) gz (.inl hBRA)) (.inl hBRA)) (.inl hBRA)) (.inl hBRA))
                    have RS2 := ((((RA.set 0 (.int .i64 (1 + 2 * (k : Int)))).set 1 (.string ⟨(nm k ++ Lib.itoa s).toArray⟩)).set 2 (.int .i64 day)).set 3 (.int .i64 0))
                    go_simp
                    first | (refine hK.out _ _ ?_ (fun hHeld => ?_)) | (go_wp2_with fail; refine hK.out _ _ ?_ (fun hHeld => ?_))
                    · (try dsimp only); exact gst
                    clear hK K
                    refine wpAnyH_done (by kernel_rfl) ?_ _
                    refine NoPanic.normal ?_
                    go_simp
                    go_wp2_with fail
                    go_meet
                    exact ⟨_, rfl, RS2, hBRA, gst⟩
                  exact AllReadyH.nil
                exact AllReadyH.nil
              refine AllReadyH.cons (o := _) rfl (fun K hK => ?_) ?_
              · clear hHeld
                go_simp
                refine (decimal_r s hs _).mono ?_
                rintro e wq3 ⟨rfl, g⟩
                replace RA := RA.kept g
                replace RS := RS.kept g
                replace gz := gz.trans g
                clear g
                first | (refine hK.out _ _ ?_ (fun hHeld => ?_)) | (go_wp2_with fail; refine hK.out _ _ ?_ (fun hHeld => ?_))
                · (try dsimp only); (repeat (first | assumption | exact grown_refl _ | refine grown_dr ?_ | refine grown_dn ?_ | refine grown_al ?_))
                clear hK K
                refine wpAnyH_ready (rs := [6]) (by kernel_rfl) (by simp) ?_
                refine AllReadyH.cons (o := _) rfl (fun K hK => ?_) ?_
                · clear hHeld
                  have qs := RS.c k (nm_at hlt)
                  have hsl := RS.lt
                  go_simp
                  first | (refine hK.out _ _ ?_ (fun hHeld => ?_)) | (go_wp2_with fail; refine hK.out _ _ ?_ (fun hHeld => ?_))
                  · (try dsimp only); exact gz
                  clear hK K
                  clear qs hsl
                  refine wpAnyH_take (i := 9) (oi := _) (v := .string ⟨(nm k ++ Lib.itoa s).toArray⟩) rfl (by kernel_rfl) (by kernel_rfl) (by kernel_rfl) (fun _ _ _ h => h) (Or.inl ⟨by kernel_rfl, ?_⟩) (by assumption) ?_
                  · (intro w hSw; (try dsimp only at hSw); go_simp; first | done | (rw [str_app]; first | done | with_reducible rfl) | (simp only [str_app]; first | done | with_reducible rfl))
                  try go_simp
                  refine wpAnyH_take (i := 11) (oi := _) (v := ?_) rfl (by kernel_rfl) (by kernel_rfl) (by kernel_rfl) (fun _ _ _ h => h) (Or.inl ⟨by rfl, ?_⟩) (by assumption) ?_
                  rotate_left 1
                  · (intro w hSw; (try dsimp only at hSw); go_simp; first | done | with_reducible rfl)
                  try go_simp
                  refine wpAnyH_ready (rs := [13]) (by kernel_rfl) (by simp) ?_
                  refine AllReadyH.cons (o := _) rfl (fun K hK => ?_) ?_
                  · clear hHeld
                    have k0 := RA.c 0 rfl
                    have f0 := RA.fz 0
                    have k1 := RA.c 1 rfl
                    have f1 := RA.fz 1
                    have k2 := RA.c 2 rfl
                    have f2 := RA.fz 2
                    have k3 := RA.c 3 rfl
                    have f3 := RA.fz 3
                    have hsz := RA.lt
                    have gst := (grown_set (i := 3) (v := .int .i64 0) (grown_set (i := 2) (v := .int .i64 day) (grown_set (i := 1) (v := .string ⟨(nm k ++ Lib.itoa s).toArray⟩) (grown_set (i := 0) (v := .int .i64 (1 + 2 * (k : Int))) gz (.inl hBRA)) (.inl hBRA)) (.inl hBRA)) (.inl hBRA))
                    have RS2 := ((((RA.set 0 (.int .i64 (1 + 2 * (k : Int)))).set 1 (.string ⟨(nm k ++ Lib.itoa s).toArray⟩)).set 2 (.int .i64 day)).set 3 (.int .i64 0))
                    go_simp
                    first | (refine hK.out _ _ ?_ (fun hHeld => ?_)) | (go_wp2_with fail; refine hK.out _ _ ?_ (fun hHeld => ?_))
                    · (try dsimp only); exact gst
                    clear hK K
                    refine wpAnyH_done (by kernel_rfl) ?_ _
                    refine NoPanic.normal ?_
                    go_simp
                    go_wp2_with fail
                    go_meet
                    exact ⟨_, rfl, RS2, hBRA, gst⟩
                  exact AllReadyH.nil
                exact AllReadyH.nil
              exact AllReadyH.nil
            refine AllReadyH.cons (o := _) rfl (fun K hK => ?_) ?_
            · clear hHeld
              go_simp
              refine (decimal_r s hs _).mono ?_
              rintro e wq2 ⟨rfl, g⟩
              replace RA := RA.kept g
              replace gz := gz.trans g
              clear g
              first | (refine hK.out _ _ ?_ (fun hHeld => ?_)) | (go_wp2_with fail; refine hK.out _ _ ?_ (fun hHeld => ?_))
              · (try dsimp only); (repeat (first | assumption | exact grown_refl _ | refine grown_dr ?_ | refine grown_dn ?_ | refine grown_al ?_))
              clear hK K
              refine wpAnyH_ready (rs := [3]) (by kernel_rfl) (by simp) ?_
              refine AllReadyH.cons (o := _) rfl (fun K hK => ?_) ?_
              · clear hHeld
                go_simp
                obtain ⟨wq3, ea, RS, g⟩ := row_of wq2 9 #[.string ⟨#[111, 97, 107]⟩, .string ⟨#[101, 108, 109]⟩, .string ⟨#[97, 115, 104]⟩]
                have hBRS : wa.heap.size ≤ wq2.heap.size := gz.size
                replace RA := RA.kept g
                replace gz := gz.trans g
                clear g
                first | (refine hK.out _ _ ?_ (fun hHeld => ?_)) | (go_wp2_with fail; refine hK.out _ _ ?_ (fun hHeld => ?_))
                · (try dsimp only); (first | rw [← ea] | skip); exact gz
                clear hK K
                rw [← ea]
                clear ea hHeld
                have hHeld := gz
                refine wpAnyH_take (i := 5) (oi := _) (v := ?_) rfl (by kernel_rfl) (by kernel_rfl) (by kernel_rfl) (fun _ _ _ h => h) (Or.inl ⟨by rfl, ?_⟩) (by assumption) ?_
                rotate_left 1
                · (intro w hSw; (try dsimp only at hSw); go_simp; first | done | with_reducible rfl)
                try go_simp
                refine wpAnyH_ready (rs := [6]) (by kernel_rfl) (by simp) ?_
                refine AllReadyH.cons (o := _) rfl (fun K hK => ?_) ?_
                · clear hHeld
                  have qs := RS.c k (nm_at hlt)
                  have hsl := RS.lt
                  go_simp
                  first | (refine hK.out _ _ ?_ (fun hHeld => ?_)) | (go_wp2_with fail; refine hK.out _ _ ?_ (fun hHeld => ?_))
                  · (try dsimp only); exact gz
                  clear hK K
                  clear qs hsl
                  refine wpAnyH_take (i := 9) (oi := _) (v := .string ⟨(nm k ++ Lib.itoa s).toArray⟩) rfl (by kernel_rfl) (by kernel_rfl) (by kernel_rfl) (fun _ _ _ h => h) (Or.inl ⟨by kernel_rfl, ?_⟩) (by assumption) ?_
                  · (intro w hSw; (try dsimp only at hSw); go_simp; first | done | (rw [str_app]; first | done | with_reducible rfl) | (simp only [str_app]; first | done | with_reducible rfl))
                  try go_simp
                  refine wpAnyH_take (i := 11) (oi := _) (v := ?_) rfl (by kernel_rfl) (by kernel_rfl) (by kernel_rfl) (fun _ _ _ h => h) (Or.inl ⟨by rfl, ?_⟩) (by assumption) ?_
                  rotate_left 1
                  · (intro w hSw; (try dsimp only at hSw); go_simp; first | done | with_reducible rfl)
                  try go_simp
                  refine wpAnyH_ready (rs := [13]) (by kernel_rfl) (by simp) ?_
                  refine AllReadyH.cons (o := _) rfl (fun K hK => ?_) ?_
                  · clear hHeld
                    have k0 := RA.c 0 rfl
                    have f0 := RA.fz 0
                    have k1 := RA.c 1 rfl
                    have f1 := RA.fz 1
                    have k2 := RA.c 2 rfl
                    have f2 := RA.fz 2
                    have k3 := RA.c 3 rfl
                    have f3 := RA.fz 3
                    have hsz := RA.lt
                    have gst := (grown_set (i := 3) (v := .int .i64 0) (grown_set (i := 2) (v := .int .i64 day) (grown_set (i := 1) (v := .string ⟨(nm k ++ Lib.itoa s).toArray⟩) (grown_set (i := 0) (v := .int .i64 (1 + 2 * (k : Int))) gz (.inl hBRA)) (.inl hBRA)) (.inl hBRA)) (.inl hBRA))
                    have RS2 := ((((RA.set 0 (.int .i64 (1 + 2 * (k : Int)))).set 1 (.string ⟨(nm k ++ Lib.itoa s).toArray⟩)).set 2 (.int .i64 day)).set 3 (.int .i64 0))
                    go_simp
                    first | (refine hK.out _ _ ?_ (fun hHeld => ?_)) | (go_wp2_with fail; refine hK.out _ _ ?_ (fun hHeld => ?_))
                    · (try dsimp only); exact gst
                    clear hK K
                    refine wpAnyH_done (by kernel_rfl) ?_ _
                    refine NoPanic.normal ?_
                    go_simp
                    go_wp2_with fail
                    go_meet
                    exact ⟨_, rfl, RS2, hBRA, gst⟩
                  exact AllReadyH.nil
                exact AllReadyH.nil
              exact AllReadyH.nil
            exact AllReadyH.nil
          exact AllReadyH.nil
        obtain ⟨X, rfl, HX, hXa, g⟩ := hcut
        have hXB : X ≠ B := by have := HB.lt; omega
        have hXR : X ≠ R := by have := HR.lt; omega
        have hXO : ∀ g, (Value.slice A0 l.length c0).ownBlock = some g → g ≠ X := fun g e => by have := (HO.lt g e).2; omega
        have hwX : w.heap.size ≤ X := Nat.le_trans gw.size hXa
        clear hXa
        replace HB := HB.kept g
        replace HR := HR.kept g
        replace HO := HO.kept0 g
        replace gw := gw.trans g
        replace hbb := Nat.le_trans hbb g.size
        clear g
        have hd2 : day ≤ 360 := by omega
        by_cases h54 : v % 5 = 4
        · have c54 : (v % 5 == 4) = true := by simpa using h54
          have m300 : (v / 5).tmod 300 = v / 5 % 300 := Int.tmod_eq_emod_of_nonneg (by omega)
          have q5 : v.tdiv 5 = v / 5 := Int.tdiv_eq_ediv_of_nonneg hv0
          have hw1 : IntKind.i64.wrap (day + 1) = day + 1 := by rw [IntKind.wrap_i64]; omega
          have hw2 : IntKind.i64.wrap (day + 1 + v / 5 % 300) = day + 1 + v / 5 % 300 := by rw [IntKind.wrap_i64]; omega
          have hst : day + 1 + v / 5 % 300 = 0 ∨ day < day + 1 + v / 5 % 300 ∧ day + 1 + v / 5 % 300 ≤ 1000 := .inr ⟨by omega, by omega⟩
          have hv5 : 0 ≤ v / 5 := by omega
          have c3 : wc.cell? ⟨X, 3, none⟩ = some (.int .i64 0) := HX.c 3 rfl
          have f3 := HX.fz 3
          have hsz := HX.lt
          have HXS : Row _ X 28 #[.int .i64 (1 + 2 * (k : Int)), .string ⟨(nm k ++ Lib.itoa s).toArray⟩, .int .i64 day, .int .i64 (day + 1 + v / 5 % 300)] := HX.set 3 (.int .i64 (day + 1 + v / 5 % 300))
          have HBS := HB.far (o := X) (i := 3) (v := .int .i64 (day + 1 + v / 5 % 300)) hXB.symm
          have HRS := HR.far (o := X) (i := 3) (v := .int .i64 (day + 1 + v / 5 % 300)) hXR.symm
          have HOS := HO.kept (grown_setCell wc X 3 (.int .i64 (day + 1 + v / 5 % 300))) (own_not hXO)
          have gS := grown_set (i := 3) (v := .int .i64 (day + 1 + v / 5 % 300)) gw (.inl hwX)
          have hbS : base ≤ (wc.setCell ⟨X, 3, none⟩ (.int .i64 (day + 1 + v / 5 % 300))).heap.size := Nat.le_trans hbb (grown_setCell wc X 3 (.int .i64 (day + 1 + v / 5 % 300))).size
          clear HX HB HR HO gw hbb hXO h54
          go_upto_region 13 with fail
          generalize wc.setCell ⟨X, 3, none⟩ (.int .i64 (day + 1 + v / 5 % 300)) = wb at *
          have HX := HXS
          have HB := HBS
          have HR := HRS
          have HO := HOS
          have gw := gS
          have hbb := hbS
          clear HXS HBS HRS HOS gS hbS c3 f3 hsz
          have hPA := made_next (s := s) (stl := day + 1 + v / 5 % 300) HPP.out HLK.out hlt hs hd0 hd1 HFR.out hst
          have hlk4 : l.length ≤ 3 := by have := HLK.out; omega
          have hlkE := HLK.out
          have hfn : ∀ y ∈ l ++ [(⟨1 + 2 * (k : Int), nm k ++ Lib.itoa s, day, day + 1 + v / 5 % 300⟩ : K)], y.frm ≤ day + 20 * (v % 7) := fun y hy => by
            rcases List.mem_append.1 hy with h | h
            · have := HFR.out y h; omega
            · rw [List.mem_singleton.1 h]; simp only; omega
          have HFN := Lib.hid hfn
          have HPA := Lib.hid hPA.1
          have HLE := Lib.hid (show (l ++ [(⟨1 + 2 * (k : Int), nm k ++ Lib.itoa s, day, day + 1 + v / 5 % 300⟩ : K)]).length = k + 1 by rw [List.length_append, hlkE]; rfl)
          have hwd : IntKind.i64.wrap (20 * (v % 7)) = 20 * (v % 7) := by rw [IntKind.wrap_i64]; omega
          have hwe : IntKind.i64.wrap (day + 20 * (v % 7)) = day + 20 * (v % 7) := by rw [IntKind.wrap_i64]; omega
          clear hlkE hfn
          have x0 : wb.cell? ⟨X, 0, none⟩ = some (.int .i64 (1 + 2 * (k : Int))) := HX.c 0 rfl
          have x1 : wb.cell? ⟨X, 1, none⟩ = some (.string ⟨(nm k ++ Lib.itoa s).toArray⟩) := HX.c 1 rfl
          have x2 : wb.cell? ⟨X, 2, none⟩ = some (.int .i64 day) := HX.c 2 rfl
          have x3 : wb.cell? ⟨X, 3, none⟩ = some (.int .i64 (day + 1 + v / 5 % 300)) := HX.c 3 rfl
          have p0 : wb.cell? ⟨B, 0, none⟩ = some (.int .i64 s) := HB.c 0 rfl
          have p1 : wb.cell? ⟨B, 1, none⟩ = some (.slice A0 l.length c0) := HB.c 1 rfl
          have gN := World.grownBy_alloc wb (.cells #[.int .i64 (1 + 2 * (k : Int)), .string ⟨(nm k ++ Lib.itoa s).toArray⟩, .int .i64 day, .int .i64 (day + 1 + v / 5 % 300)] 28) none
          have HN := Row.new wb 28 #[.int .i64 (1 + 2 * (k : Int)), .string ⟨(nm k ++ Lib.itoa s).toArray⟩, .int .i64 day, .int .i64 (day + 1 + v / 5 % 300)]
          have hvo : Hid (∀ g, (Value.slice A0 l.length c0).ownBlock = some g → base ≤ g) := Lib.hid (fun g e => (HO.lt g e).1)
          have hl10 : l.length + 1 ≤ 1000000 := by omega
          have hbN := hbb
          have hnx := hPA.2
          clear hPA
          clear HX
          go_wp2_with (at_builtin; go_loud (refine wpList_append_keys rfl _ _ rfl base _ l rfl (HO.kept0 gN) (some ⟨wb.heap.size, 0, none⟩) 1 1 [⟨1 + 2 * (k : Int), nm k ++ Lib.itoa s, day, day + 1 + v / 5 % 300⟩] rfl (Keys.one (x := ⟨1 + 2 * (k : Int), nm k ++ Lib.itoa s, day, day + 1 + v / 5 % 300⟩) HN hnx) hl10 (Nat.le_trans hbb gN.size) ?_; intro v' w7 ho hg hb hv; obtain ⟨gb, c2, rfl⟩ := own_some ho; have HB7 := (HB.kept gN).keptR hg (own_low hvo.out hBb); have HR7 := (HR.kept gN).keptR hg (own_low hvo.out hRb); have k0 : w7.cell? ⟨B, 0, none⟩ = some (.int .i64 s) := HB7.c 0 rfl; have k1 : w7.cell? ⟨B, 1, none⟩ = some (.slice A0 l.length c0) := HB7.c 1 rfl; have f1 := HB7.fz 1; have hsz := HB7.lt; have hgb := (ho.lt gb rfl).1; have g7 : w.grownBy w7 none := (gw.trans gN).andThen hg (fun r e => .inl (Nat.le_trans hwb (hvo.out r e))); have RS : Row _ B 34 #[.int .i64 s, .slice (some ⟨gb, 0, none⟩) (l.length + 1) c2] := HB7.set 1 (.slice (some ⟨gb, 0, none⟩) (l.length + 1) c2); have HRS := HR7.far (o := B) (i := 1) (v := .slice (some ⟨gb, 0, none⟩) (l.length + 1) c2) hRB; have HOS := ho.kept (grown_setCell w7 B 1 (.slice (some ⟨gb, 0, none⟩) (l.length + 1) c2)) (own_high hgb hBb); have gS := grown_set (i := 1) (v := .slice (some ⟨gb, 0, none⟩) (l.length + 1) c2) g7 (.inl hwB); have gS9 := Nat.le_trans (Nat.le_trans gN.size hg.size) (grown_setCell w7 B 1 (.slice (some ⟨gb, 0, none⟩) (l.length + 1) c2)).size; clear HB7 HR7 hv x0 x1 x2 x3 p0 p1 hb hg))
          clear HB HR gw HO hvo
          go_roundw
          case rel => exact ⟨k + 1, day + 20 * (v % 7), some ⟨gb, 0, none⟩, c2, l ++ [⟨1 + 2 * (k : Int), nm k ++ Lib.itoa s, day, day + 1 + v / 5 % 300⟩], by omega, by go_num, rfl, by simpa using RS, HRS, by simpa using HOS, HLE.out, HPA.out, by omega, by omega, HFN.out, Nat.le_trans hbN gS9, gS⟩
          case measure => simp [intOf]; omega
        · have c54 : (v % 5 == 4) = false := by simpa using h54
          have hst : (0 : Int) = 0 ∨ day < 0 ∧ (0 : Int) ≤ 1000 := .inl rfl
          clear hXO h54
          generalize wc = wb at *
          go_upto_region 13 with fail
          have hPA := made_next (s := s) (stl := 0) HPP.out HLK.out hlt hs hd0 hd1 HFR.out hst
          have hlk4 : l.length ≤ 3 := by have := HLK.out; omega
          have hlkE := HLK.out
          have hfn : ∀ y ∈ l ++ [(⟨1 + 2 * (k : Int), nm k ++ Lib.itoa s, day, 0⟩ : K)], y.frm ≤ day + 20 * (v % 7) := fun y hy => by
            rcases List.mem_append.1 hy with h | h
            · have := HFR.out y h; omega
            · rw [List.mem_singleton.1 h]; simp only; omega
          have HFN := Lib.hid hfn
          have HPA := Lib.hid hPA.1
          have HLE := Lib.hid (show (l ++ [(⟨1 + 2 * (k : Int), nm k ++ Lib.itoa s, day, 0⟩ : K)]).length = k + 1 by rw [List.length_append, hlkE]; rfl)
          have hwd : IntKind.i64.wrap (20 * (v % 7)) = 20 * (v % 7) := by rw [IntKind.wrap_i64]; omega
          have hwe : IntKind.i64.wrap (day + 20 * (v % 7)) = day + 20 * (v % 7) := by rw [IntKind.wrap_i64]; omega
          clear hlkE hfn
          have x0 : wb.cell? ⟨X, 0, none⟩ = some (.int .i64 (1 + 2 * (k : Int))) := HX.c 0 rfl
          have x1 : wb.cell? ⟨X, 1, none⟩ = some (.string ⟨(nm k ++ Lib.itoa s).toArray⟩) := HX.c 1 rfl
          have x2 : wb.cell? ⟨X, 2, none⟩ = some (.int .i64 day) := HX.c 2 rfl
          have x3 : wb.cell? ⟨X, 3, none⟩ = some (.int .i64 (0)) := HX.c 3 rfl
          have p0 : wb.cell? ⟨B, 0, none⟩ = some (.int .i64 s) := HB.c 0 rfl
          have p1 : wb.cell? ⟨B, 1, none⟩ = some (.slice A0 l.length c0) := HB.c 1 rfl
          have gN := World.grownBy_alloc wb (.cells #[.int .i64 (1 + 2 * (k : Int)), .string ⟨(nm k ++ Lib.itoa s).toArray⟩, .int .i64 day, .int .i64 (0)] 28) none
          have HN := Row.new wb 28 #[.int .i64 (1 + 2 * (k : Int)), .string ⟨(nm k ++ Lib.itoa s).toArray⟩, .int .i64 day, .int .i64 (0)]
          have hvo : Hid (∀ g, (Value.slice A0 l.length c0).ownBlock = some g → base ≤ g) := Lib.hid (fun g e => (HO.lt g e).1)
          have hl10 : l.length + 1 ≤ 1000000 := by omega
          have hbN := hbb
          have hnx := hPA.2
          clear hPA
          clear HX
          go_wp2_with (at_builtin; go_loud (refine wpList_append_keys rfl _ _ rfl base _ l rfl (HO.kept0 gN) (some ⟨wb.heap.size, 0, none⟩) 1 1 [⟨1 + 2 * (k : Int), nm k ++ Lib.itoa s, day, 0⟩] rfl (Keys.one (x := ⟨1 + 2 * (k : Int), nm k ++ Lib.itoa s, day, 0⟩) HN hnx) hl10 (Nat.le_trans hbb gN.size) ?_; intro v' w7 ho hg hb hv; obtain ⟨gb, c2, rfl⟩ := own_some ho; have HB7 := (HB.kept gN).keptR hg (own_low hvo.out hBb); have HR7 := (HR.kept gN).keptR hg (own_low hvo.out hRb); have k0 : w7.cell? ⟨B, 0, none⟩ = some (.int .i64 s) := HB7.c 0 rfl; have k1 : w7.cell? ⟨B, 1, none⟩ = some (.slice A0 l.length c0) := HB7.c 1 rfl; have f1 := HB7.fz 1; have hsz := HB7.lt; have hgb := (ho.lt gb rfl).1; have g7 : w.grownBy w7 none := (gw.trans gN).andThen hg (fun r e => .inl (Nat.le_trans hwb (hvo.out r e))); have RS : Row _ B 34 #[.int .i64 s, .slice (some ⟨gb, 0, none⟩) (l.length + 1) c2] := HB7.set 1 (.slice (some ⟨gb, 0, none⟩) (l.length + 1) c2); have HRS := HR7.far (o := B) (i := 1) (v := .slice (some ⟨gb, 0, none⟩) (l.length + 1) c2) hRB; have HOS := ho.kept (grown_setCell w7 B 1 (.slice (some ⟨gb, 0, none⟩) (l.length + 1) c2)) (own_high hgb hBb); have gS := grown_set (i := 1) (v := .slice (some ⟨gb, 0, none⟩) (l.length + 1) c2) g7 (.inl hwB); have gS9 := Nat.le_trans (Nat.le_trans gN.size hg.size) (grown_setCell w7 B 1 (.slice (some ⟨gb, 0, none⟩) (l.length + 1) c2)).size; clear HB7 HR7 hv x0 x1 x2 x3 p0 p1 hb hg))
          clear HB HR gw HO hvo
          go_roundw
          case rel => exact ⟨k + 1, day + 20 * (v % 7), some ⟨gb, 0, none⟩, c2, l ++ [⟨1 + 2 * (k : Int), nm k ++ Lib.itoa s, day, 0⟩], by omega, by go_num, rfl, by simpa using RS, HRS, by simpa using HOS, HLE.out, HPA.out, by omega, by omega, HFN.out, Nat.le_trans hbN gS9, gS⟩
          case measure => simp [intOf]; omega
        
    · obtain rfl : k = 3 := by omega
      have hk1 : 1 ≤ 3 := by omega
      have hlk := HLK.out
      have hl0 : l ≠ [] := by intro e; have hz := hlk; rw [e, List.length_nil] at hz; omega
      obtain ⟨ga, c1, hv⟩ : ∃ ga c1, Value.slice A0 l.length c0 = .slice (some ⟨ga, 0, none⟩) l.length c1 := by
        rcases HO.slice with ⟨_, e⟩ | e
        · exact absurd e hl0
        · exact e
      rw [hv] at HO HB
      have hga := (HO.lt ga rfl).1
      have hgR : ga ≠ R := by omega
      have HP := HPP.out
      have hk8 := keys_of HO HP.ok rfl
      have b0 : wr.cell? ⟨B, 0, none⟩ = some (.int .i64 s) := HB.c 0 rfl
      have b1 : wr.cell? ⟨B, 1, none⟩ = some (.slice (some ⟨ga, 0, none⟩) l.length c1) := HB.c 1 rfl
      have k0 : wr.cell? ⟨R, 0, none⟩ = some (.int .i64 0) := HR.c 0 rfl
      have k1 : wr.cell? ⟨R, 1, none⟩ = some (.slice none 0 0) := HR.c 1 rfl
      have f0 := HR.fz 0
      have f1 := HR.fz 1
      have hsz := HR.lt
      have RS : Row _ R 34 #[.int .i64 s, .slice (some ⟨ga, 0, none⟩) l.length c1] := (HR.set 0 (.int .i64 s)).set 1 (.slice (some ⟨ga, 0, none⟩) l.length c1)
      have gs := grown_set (i := 1) (v := .slice (some ⟨ga, 0, none⟩) l.length c1) (grown_set (i := 0) (v := .int .i64 s) gw (.inl hwR)) (.inl hwR)
      have HKS := keys_far (R := R) (v0 := .int .i64 s) (v1 := .slice (some ⟨ga, 0, none⟩) l.length c1) hk8 hgR
      have HPH := Lib.hid HP
      have hk3 : l.length ≤ 3 := by omega
      have hk1' : 1 ≤ l.length := by omega
      clear hlk hl0 hv HO HB HR gw hk8 HP
      go_wp2_with fail
      exact bodyPost_ret (v := .agg #[.int .i64 s, .slice (some ⟨ga, 0, none⟩) l.length c1]) (by simp [results, Tryd.results28, go_sem, RS.c 0 rfl, RS.c 1 rfl]) rfl ⟨some ⟨ga, 0, none⟩, l.length, c1, l, rfl, HKS, HPH.out, hk1', hk3, gs⟩
      end Go.Proofs.YtecobgjkodmaiaaDoor
