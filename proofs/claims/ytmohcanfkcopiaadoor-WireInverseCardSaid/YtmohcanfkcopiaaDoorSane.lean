/-
  The examples that every law includes (sanity), by their contract.
-/
import Derived.Test.YtmohcanfkcopiaaDoorFacts
import Derived.Test.YtmohcanfkcopiaaDoorSame
import Derived.Deep.AppendLies
namespace Go.Proofs.YtmohcanfkcopiaaDoor
open Go.RowKit
attribute [local go_sem] get_mk extract_mk

theorem int_0 (w : World) (hb : Base w) : Calls Tryd.prog 12 #[.int .i64 0] w fun e w' => e = .returned (.string ⟨#[48, 59]⟩) ∧ w.grownBy w' none := by
  have := wInt 0 ⟨by omega, by omega⟩ w hb; rw [ser_0] at this; exact this
theorem int_m1 (w : World) (hb : Base w) : Calls Tryd.prog 12 #[.int .i64 (-1)] w fun e w' => e = .returned (.string ⟨#[45, 49, 59]⟩) ∧ w.grownBy w' none := by
  have := wInt (-1) ⟨by omega, by omega⟩ w hb; rw [ser_m1] at this; exact this
theorem int_250 (w : World) (hb : Base w) : Calls Tryd.prog 12 #[.int .i64 250] w fun e w' => e = .returned (.string ⟨#[50, 53, 48, 59]⟩) ∧ w.grownBy w' none := by
  have := wInt 250 ⟨by omega, by omega⟩ w hb; rw [ser_250] at this; exact this
theorem text_ab (w : World) (hb : Base w) : Calls Tryd.prog 14 #[.string ⟨#[97, 98]⟩] w fun e w' => e = .returned (.string ⟨#[50, 58, 97, 98]⟩) ∧ w.grownBy w' none := by
  have := wText [97, 98] (by simp) w hb; rw [ser_ab] at this; exact this
theorem text_e (w : World) (hb : Base w) : Calls Tryd.prog 14 #[.string ⟨#[]⟩] w fun e w' => e = .returned (.string ⟨#[48, 58]⟩) ∧ w.grownBy w' none := by
  have := wText [] (by simp) w hb; rw [ser_e] at this; exact this
theorem ints_n (w : World) (hb : Base w) : Calls Tryd.prog 16 #[.slice none 0 0] w fun e w' => e = .returned (.string ⟨#[91, 93]⟩) ∧ w.grownBy w' none := by
  have := wInts none 0 0 [] w hb rfl (by simp) (by simp) (Nat.le_refl _) (by simp [maxLen]) (fun h => by omega); rw [ser_n] at this; exact this
theorem ints_l (a : Nat) (w : World) (hb : Base w) (ha : a < w.heap.size) (h0 : w.cell? ⟨a, 0, none⟩ = some (.int .i64 1)) (h1 : w.cell? ⟨a, 1, none⟩ = some (.int .i64 (-2))) :
    Calls Tryd.prog 16 #[.slice (some ⟨a, 0, none⟩) 2 2] w fun e w' => e = .returned (.string ⟨#[91, 49, 59, 45, 50, 59, 93]⟩) ∧ w.grownBy w' none := by
  have := wInts (some ⟨a, 0, none⟩) 2 2 [1, -2] w hb rfl (by simp [I64]) (by decide +kernel) (Nat.le_refl _) (by simp [maxLen]) (fun _ => ⟨_, rfl, ha, fun j x hx => by
    match j with
    | 0 => simp at hx; subst hx; exact h0
    | 1 => simp at hx; subst hx; exact h1
    | j + 2 => simp at hx⟩)
  rw [ser_l] at this; exact this
theorem texts_l (a : Nat) (w : World) (hb : Base w) (ha : a < w.heap.size) (h0 : w.cell? ⟨a, 0, none⟩ = some (.string ⟨#[]⟩)) (h1 : w.cell? ⟨a, 1, none⟩ = some (.string ⟨#[97]⟩)) :
    Calls Tryd.prog 18 #[.slice (some ⟨a, 0, none⟩) 2 2] w fun e w' => e = .returned (.string ⟨#[91, 48, 58, 49, 58, 97, 93]⟩) ∧ w.grownBy w' none := by
  have := wTexts (some ⟨a, 0, none⟩) 2 2 [[], [97]] w hb rfl (by simp) (by decide +kernel) (Nat.le_refl _) (by simp [maxLen]) (fun _ => ⟨_, rfl, ha, fun j x hx => by
    match j with
    | 0 => simp at hx; subst hx; exact h0
    | 1 => simp at hx; subst hx; exact h1
    | j + 2 => simp at hx⟩)
  rw [ser_t] at this; exact this
theorem bad_k (l : List UInt8) (hl : l.length ≤ 1000000) (h : badAll l = true) (w : World) (hb : Base w) : Calls Tryd.prog 37 #[.string ⟨l.toArray⟩] w fun e w' => e = .returned (.bool true) ∧ w.grownBy w' none :=
  malformed_k l hl h w hb

theorem rd_calls (w : World) (hb : Base w) (b : Nat) (hb6 : 6 ≤ b) (h : Rd w b (some [91, 49, 59, 45, 50, 59, 93, 51, 59])) :
    Calls Tryd.prog 27 #[.pointer (some ⟨b, 0, none⟩)] w fun e w' => ∃ v, e = .returned v ∧ w'.ownsRow w.heap.size 3 1 v 2 [.int .i64 1, .int .i64 (-2)] ∧ Rd w' b (some [51, 59]) ∧ w.grownBy w' (some b) := by
  have := ints_k w hb b hb6 _ h (fun l e => by injection e with e; subst e; simp)
  rw [rd_l, rd_r] at this
  exact this
theorem rd_int3 (w : World) (hb : Base w) (b : Nat) (h : Rd w b (some [51, 59])) :
    Calls Tryd.prog 22 #[.pointer (some ⟨b, 0, none⟩)] w fun e w' => e = .returned (.int .i64 3) ∧ Rd w' b (some []) ∧ w.grownBy w' (some b) := by
  have := int_k w hb b _ h (fun l e => by injection e with e; subst e; simp)
  rw [rd_3, rd_e] at this
  exact this
theorem rd_int0 (w : World) (hb : Base w) (b : Nat) (h : Rd w b (some [])) :
    Calls Tryd.prog 22 #[.pointer (some ⟨b, 0, none⟩)] w fun e w' => e = .returned (.int .i64 0) ∧ Rd w' b none ∧ w.grownBy w' (some b) := by
  have := int_k w hb b _ h (fun l e => by injection e with e; subst e; simp)
  rw [rd_0, rd_b] at this
  exact this

theorem own_read {α : Type} {w : World} {B e n c : Nat} {A : Option Addr} {l : List α} {f : α → Value} (h : w.ownsRow B e 1 (.slice A n c) n (l.map f)) (hn : 0 < n) :
    ∃ ad, A = some ad ∧ ad.block < w.heap.size ∧ ∀ j x, l[j]? = some x → w.cell? (ad.add j) = some (f x) := by
  obtain ⟨g, cap, hv, _, hlt⟩ := h.form hn
  have hA : A = some ⟨g, 0, none⟩ := by injection hv
  subst hA
  exact ⟨_, rfl, hlt, fun j x hx => h.cells (g := g) rfl j (f x) (by rw [List.getElem?_map, hx]; rfl)⟩

theorem pair_cells (w : World) : ∀ j x, ([1, -2] : List Int)[j]? = some x → (w.alloc (.cells #[Value.int .i64 1, Value.int .i64 (-2)] 3)).cell? ((⟨w.heap.size, 0, none⟩ : Addr).add j) = some (.int .i64 x) := by
  intro j x hx
  match j with
  | 0 => simp at hx; subst hx; simp [Addr.add]
  | 1 => simp at hx; subst hx; simp [Addr.add]
  | j + 2 => simp at hx

set_option maxRecDepth 100000 in
set_option maxHeartbeats 2000000 in
theorem sane (w : World) (hb : Base w) : Calls Tryd.prog 10 #[] w fun e w' => e = .returned (.bool true) ∧ w.grownBy w' none := by
  have hb6 := hb.size
  have Hb := Lib.hid hb
  clear hb
  go_enter Tryd.func10, Tryd.ntmps10
  go_wp2_with fail
  refine (int_0 w Hb.out).mono ?_
  rintro e w1 ⟨rfl, g1⟩
  have b1 := Lib.hid (Hb.out.none_ g1)
  go_wp2_with fail
  refine (int_m1 w1 b1.out).mono ?_
  rintro e w2 ⟨rfl, g2⟩
  have b2 := Lib.hid (b1.out.none_ g2)
  go_wp2_with fail
  refine (int_250 w2 b2.out).mono ?_
  rintro e w3 ⟨rfl, g3⟩
  have b3 := Lib.hid (b2.out.none_ g3)
  go_wp2_with fail
  refine (text_ab w3 b3.out).mono ?_
  rintro e w4 ⟨rfl, g4⟩
  have b4 := Lib.hid (b3.out.none_ g4)
  go_wp2_with fail
  refine (text_e w4 b4.out).mono ?_
  rintro e w5 ⟨rfl, g5⟩
  have b5 := Lib.hid (b4.out.none_ g5)
  have g05 : w.grownBy w5 none := ((g1.trans g2).trans (g3.trans g4)).trans g5
  clear g1 g2 g3 g4 g5
  go_wp2_with fail
  have h6 := World.grownBy_alloc w5 (.cells #[Value.int IntKind.i64 1, Value.int IntKind.i64 (-2)] 3) none
  refine (ints_l w5.heap.size _ (b5.out.none_ h6) (by simp) (by simp) (by simp)).mono ?_
  rintro e w6 ⟨rfl, g6⟩
  have b6 := Lib.hid ((b5.out.none_ h6).none_ g6)
  have g06 := (g05.trans h6).trans g6
  clear g05 h6 g6
  go_wp2_with fail
  refine (ints_n w6 b6.out).mono ?_
  rintro e w7 ⟨rfl, g7⟩
  have b7 := Lib.hid (b6.out.none_ g7)
  go_wp2_with fail
  have h8 := World.grownBy_alloc w7 (.cells #[Value.string ⟨#[]⟩, Value.string ⟨#[97]⟩] 9) none
  refine (texts_l w7.heap.size _ (b7.out.none_ h8) (by simp) (by simp) (by simp)).mono ?_
  rintro e w8 ⟨rfl, g8⟩
  have b8 := Lib.hid ((b7.out.none_ h8).none_ g8)
  have g08 := ((g06.trans g7).trans h8).trans g8
  clear g06 g7 g8 h8
  go_wp2_with fail
  refine (new_k [91, 49, 59, 45, 50, 59, 93, 51, 59] w8).mono ?_
  rintro e w9 ⟨rfl, r9, g9, l9⟩
  have b9 := Lib.hid (b8.out.none_ g9)
  have h8w : w.heap.size ≤ w8.heap.size := g08.size
  have h86 : 6 ≤ w8.heap.size := by omega
  go_wp2_with fail
  refine (rd_calls w9 b9.out _ h86 r9).mono ?_
  rintro e w10 ⟨v, rfl, o10, r10, g10⟩
  have b10 := Lib.hid (b9.out.grown g10 (fun k hk => by injection hk with hk; omega))
  obtain ⟨A, c, rfl, hc1, hc2⟩ := own_slice o10
  go_wp2_with fail
  refine (Left_k w10 _ _ r10).mono ?_
  rintro e w' ⟨rfl, rfl⟩
  go_wp2_with fail
  refine (rd_int3 w10 b10.out _ r10).mono ?_
  rintro e w11 ⟨rfl, r11, g11⟩
  have b11 := Lib.hid (b10.out.grown g11 (fun k hk => by injection hk with hk; omega))
  have o11 := own_kept o10 g11 l9
  have l11 : w8.heap.size < w11.heap.size := Nat.lt_of_lt_of_le l9 (Nat.le_trans g10.size g11.size)
  go_wp2_with fail
  have h12 := World.grownBy_alloc w11 (.cells #[Value.int IntKind.i64 1, Value.int IntKind.i64 (-2)] 3) none
  refine (isame_k A (some ⟨w11.heap.size, 0, none⟩) c 2 2 2 [1, -2] [1, -2] _ rfl rfl (by omega) (by omega) (fun h => by
    obtain ⟨ad, rfl, _, hc⟩ := own_read (l := [1, -2]) (f := .int .i64) (o11.alloc (.cells #[Value.int IntKind.i64 1, Value.int IntKind.i64 (-2)] 3)) h
    exact ⟨ad, rfl, hc⟩) (fun _ => ⟨_, rfl, pair_cells w11⟩)).mono ?_
  rintro e w12 ⟨rfl, g12⟩
  have r12 := (r11.grown h12 (by simp)).grown g12 (by simp)
  have b12 := Lib.hid ((b11.out.none_ h12).none_ g12)
  have gg12 := Lib.hid ((g08.trans g9).andThen ((g10.trans g11).trans ((h12.but (some w8.heap.size)).trans (g12.but _))) (fun j hj => .inl (by injection hj with hj; have := g08.size; omega)))
  clear g08 g9 g10 g11 h12 g12 o10 o11 r9 r10 r11
  go_wp2_with fail
  refine (Left_k w12 _ _ r12).mono ?_
  rintro e w' ⟨rfl, rfl⟩
  go_wp2_with fail
  refine (Bad_k w12 _ _ r12).mono ?_
  rintro e w' ⟨rfl, rfl⟩
  go_wp2_with fail
  refine (rd_int0 w12 b12.out _ r12).mono ?_
  rintro e w13 ⟨rfl, r13, g13⟩
  have b13 := Lib.hid (b12.out.grown g13 (fun k hk => by injection hk with hk; omega))
  have gg13 := Lib.hid (gg12.out.andThen g13 (fun j hj => .inl (by injection hj with hj; omega)))
  go_wp2_with fail
  refine (Bad_k w13 _ _ r13).mono ?_
  rintro e w' ⟨rfl, rfl⟩
  go_wp2_with fail
  refine (bad_k [48, 49, 59] (by simp) bad_1 w13 b13.out).mono ?_
  rintro e w14 ⟨rfl, g14⟩
  have b14 := Lib.hid (b13.out.none_ g14)
  go_wp2_with fail
  refine (bad_k [43, 49, 59] (by simp) bad_2 w14 b14.out).mono ?_
  rintro e w15 ⟨rfl, g15⟩
  have b15 := Lib.hid (b14.out.none_ g15)
  go_wp2_with fail
  refine (bad_k [45, 48, 59] (by simp) bad_3 w15 b15.out).mono ?_
  rintro e w16 ⟨rfl, g16⟩
  have b16 := Lib.hid (b15.out.none_ g16)
  go_wp2_with fail
  refine (bad_k [49] (by simp) bad_4 w16 b16.out).mono ?_
  rintro e w17 ⟨rfl, g17⟩
  have b17 := Lib.hid (b16.out.none_ g17)
  go_wp2_with fail
  refine (bad_k [51, 58, 97, 98] (by simp) bad_5 w17 b17.out).mono ?_
  rintro e w18 ⟨rfl, g18⟩
  go_wp2_with fail
  go_ret
  exact ⟨rfl, (gg13.out.trans (g14.trans g15)).trans ((g16.trans g17).trans g18)⟩
end Go.Proofs.YtmohcanfkcopiaaDoor
