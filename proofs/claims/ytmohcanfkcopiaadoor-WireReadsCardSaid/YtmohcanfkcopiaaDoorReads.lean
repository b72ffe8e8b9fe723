/-
  WireReads: the walk.
-/
import Derived.Test.YtmohcanfkcopiaaDoorSane
import Derived.Test.YtmohcanfkcopiaaDoorSame
import Derived.Test.YtmohcanfkcopiaaDoorRefElems
namespace Go.Proofs.YtmohcanfkcopiaaDoor
open Go.RowKit
attribute [local go_sem] get_mk extract_mk

theorem rr_short {w : World} {b : Nat} {s : List UInt8} {st : Option (List UInt8)} (h : Rr w b s st) : ∀ l, st = some l → l.length ≤ s.length := by
  obtain ⟨p, d, h, hp, h1, h2⟩ := h
  intro l e
  cases d with
  | true => rw [h1 rfl] at e; cases e
  | false => rw [h2 rfl] at e; injection e with e; rw [← e, List.length_drop]; omega
theorem own_cells {α : Type} {w : World} {B e n c : Nat} {A : Option Addr} {l : List α} {f : α → Value} (h : w.ownsRow B e 1 (.slice A n c) n (l.map f)) :
    0 < n → ∃ ad, A = some ad ∧ ∀ j x, l[j]? = some x → w.cell? (ad.add j) = some (f x) := fun h0 => by
  obtain ⟨ad, e, _, hc⟩ := own_read h h0
  exact ⟨ad, e, hc⟩

set_option maxRecDepth 100000 in
set_option maxHeartbeats 4000000 in
theorem reads_walk (w : World) (hb : Base w) (l : List UInt8) (hl : l.length ≤ 9223372036854775807) (A : Option Addr) (n c : Nat) (q : List Nat) (hn : n = q.length) (_hnc : n ≤ c) (_hcm : c ≤ maxLen) (hq : ∀ x ∈ q, x ≤ 255)
    (hA : 0 < n → ∃ ad, A = some ad ∧ ad.block < w.heap.size ∧ ∀ (j x : Nat), q[j]? = some x → w.cell? (ad.add j) = some (.int .u8 (x : Int))) :
    Calls Tryd.prog 4 #[.string ⟨l.toArray⟩, .slice A n c] w fun e w' => e = .returned (.bool true) ∧ w.grownBy w' none := by
  have hb6 := hb.size
  have Hs := Lib.hid (sane w hb)
  have Hb := Lib.hid hb
  have Hq := Lib.hid hq
  unfold maxLen at _hcm
  have Hn := Lib.hid hn
  clear hb hq hn
  go_enter Tryd.func4, Tryd.ntmps4
  go_wp2_with fail
  refine Hs.out.mono ?_
  rintro e w0 ⟨rfl, g0⟩
  have hw0 : w.heap.size ≤ w0.heap.size := g0.size
  go_wp2_with fail
  have ht : (List.take (min (l.length : Int) 200).toNat l).length ≤ 200 := by rw [List.length_take]; omega
  generalize List.take (min (l.length : Int) 200).toNat l = t at ht ⊢
  refine (new_k t w0).mono ?_
  rintro e w1 ⟨rfl, r1, g1, l1⟩
  go_wp2_with fail
  refine (rNew t w1).mono ?_
  rintro e w2 ⟨rfl, q2, g2, l2⟩
  have r2 := r1.grown g2 (by simp)
  generalize hna : w0.heap.size = na at *
  generalize hnb : w1.heap.size = nb at *
  have gA : w.grownBy w2 none := (g0.trans g1).trans g2
  have hab : na < nb := l1
  have hna6 : 6 ≤ na := by omega
  have hnaw : w.heap.size ≤ na := by omega
  have HA : Hid (∀ w', w.grownBy w' none → 0 < n → ∃ ad, A = some ad ∧ ∀ (j x : Nat), q[j]? = some x → w'.cell? (ad.add j) = some (.int .u8 (x : Int))) := Lib.hid (fun w' g h0 => by
    obtain ⟨ad, e, hb, hc⟩ := hA h0
    exact ⟨ad, e, fun j x hx => ((below_of_grown g).cell (p := ad.add j) (by rw [add_block]; exact hb)).trans (hc j x hx)⟩)
  have ht6 : t.length ≤ 1000000 := by omega
  have GA := Lib.hid gA
  have R2 := Lib.hid r2
  have Q2 := Lib.hid q2
  clear r1 r2 q2 g1 g2 g0 l1 l2 gA hna hnb hA
  have hne1 : some nb ≠ some na := by intro e; injection e with e; omega
  have hne2 : some na ≠ some nb := by intro e; injection e with e; omega
  have Hne1 := Lib.hid hne1
  have Hne2 := Lib.hid hne2
  clear hne1 hne2
  go_wp2_with fail
  go_loopw [8] (fun i wr => ∃ k : Nat, k ≤ 12 ∧ i = .int .i64 k ∧ w.grownBy wr none ∧ ∃ st, Rd wr na st ∧ Rr wr nb t st) (fun i _ => 12 - (intOf i).toNat)
  case atStart => exact ⟨0, by omega, rfl, GA.out, some t, R2.out, Q2.out⟩
  case round =>
    obtain ⟨k, hk, rfl, hg, st, hr, hqr⟩ := hrel
    by_cases hlt : k < n ∧ k < 12
    · obtain ⟨hlt1, hlt2⟩ := hlt
      obtain ⟨ad, rfl, hcell⟩ := HA.out _ hg (by omega)
      obtain ⟨x, hx⟩ : ∃ x, q[k]? = some x := ⟨_, List.getElem?_eq_getElem (by have := Hn.out; omega)⟩
      have hcx := hcell k x hx
      have hx255 := Hq.out x (List.mem_of_getElem? hx)
      clear hcell hx
      have hi1 : (k : Int) < (n : Int) := by omega
      have hi2 : (k : Int) < 12 := by omega
      have hbr := Lib.hid (Hb.out.none_ hg)
      have hsh := rr_short hqr
      have hsh1 : Hid (∀ l, st = some l → l.length ≤ 4611686018427387904) := Lib.hid (fun l e => by have := hsh l e; omega)
      have hsh2 : Hid (∀ l, st = some l → l.length ≤ 1000000) := Lib.hid (fun l e => by have := hsh l e; omega)
      clear hsh
      have h4 : x % 4 = 0 ∨ x % 4 = 1 ∨ x % 4 = 2 ∨ x % 4 = 3 := by omega
      rcases h4 with h4 | h4 | h4 | h4
      · have m0 : (x : Int) % 4 = 0 := by omega
        have m1 : (x : Int).tmod 4 = 0 := by rw [Int.tmod_eq_emod_of_nonneg (by omega)]; exact m0
        clear h4
        have H1 := Lib.hid (int_k wr hbr.out na st hr hsh1.out)
        have H2 : Hid (∀ wq, Rr wq nb t st → _) := Lib.hid (fun wq hq => rint_k wq nb t ht6 st hq)
        generalize valOf intP st = V at H1 H2
        generalize restOf intP st = st' at H1 H2
        go_wp2_with (first
          | (go_at_call 22; refine H1.out.mono ?_; rintro e w3 ⟨rfl, r3, g3⟩; have q3 := Rr.grown hqr g3 Hne1.out)
          | (go_at_call 23; refine (H2.out _ q3).mono ?_; rintro e w4 ⟨rfl, q4, g4⟩; have r4 := Rd.grown r3 g4 Hne2.out)
          | (go_at_call 32; refine (Left_k _ _ _ r4).mono ?_; rintro e w' ⟨rfl, rfl⟩)
          | (go_at_call 33; refine (rLeft _ _ _ ht6 _ q4).mono ?_; rintro e w6 ⟨rfl, g6⟩; have r6 := Rd.grown r4 g6 (by simp); have q6 := Rr.grown q4 g6 (by simp))
          | (go_at_call 34; refine (Bad_k _ _ _ r6).mono ?_; rintro e w' ⟨rfl, rfl⟩)
          | (go_at_call 35; refine (rBad _ _ _ _ q6).mono ?_; rintro e w' ⟨rfl, rfl⟩))
        have gg := (((hg.andThen g3 (fun j hj => .inl (by injection hj with hj; omega))).andThen g4 (fun j hj => .inl (by injection hj with hj; omega)))).trans g6
        exact ⟨⟨k + 1, by omega, by go_num, gg, _, r6, q6⟩, by simp [intOf]; omega⟩
      · have m0 : (x : Int) % 4 = 1 := by omega
        have m1 : (x : Int).tmod 4 = 1 := by rw [Int.tmod_eq_emod_of_nonneg (by omega)]; exact m0
        clear h4
        have H1 := Lib.hid (text_k wr hbr.out na st hr hsh1.out)
        have H2 : Hid (∀ wq, Rr wq nb t st → _) := Lib.hid (fun wq hq => rtext_k wq nb t ht6 st hq)
        generalize valOf textP st = V at H1 H2
        generalize restOf textP st = st' at H1 H2
        go_wp2_with (first
          | (go_at_call 24; refine H1.out.mono ?_; rintro e w3 ⟨rfl, r3, g3⟩; have q3 := Rr.grown hqr g3 Hne1.out)
          | (go_at_call 25; refine (H2.out _ q3).mono ?_; rintro e w4 ⟨rfl, q4, g4⟩; have r4 := Rd.grown r3 g4 Hne2.out)
          | (go_at_call 32; refine (Left_k _ _ _ r4).mono ?_; rintro e w' ⟨rfl, rfl⟩)
          | (go_at_call 33; refine (rLeft _ _ _ ht6 _ q4).mono ?_; rintro e w6 ⟨rfl, g6⟩; have r6 := Rd.grown r4 g6 (by simp); have q6 := Rr.grown q4 g6 (by simp))
          | (go_at_call 34; refine (Bad_k _ _ _ r6).mono ?_; rintro e w' ⟨rfl, rfl⟩)
          | (go_at_call 35; refine (rBad _ _ _ _ q6).mono ?_; rintro e w' ⟨rfl, rfl⟩))
        have gg := (((hg.andThen g3 (fun j hj => .inl (by injection hj with hj; omega))).andThen g4 (fun j hj => .inl (by injection hj with hj; omega)))).trans g6
        exact ⟨⟨k + 1, by omega, by go_num, gg, _, r6, q6⟩, by simp [intOf]; omega⟩
      · have m0 : (x : Int) % 4 = 2 := by omega
        have m1 : (x : Int).tmod 4 = 2 := by rw [Int.tmod_eq_emod_of_nonneg (by omega)]; exact m0
        clear h4
        have H1 := Lib.hid (ints_k wr hbr.out na hna6 st hr hsh2.out)
        have H2 : Hid (∀ wq, Rr wq nb t st → _) := Lib.hid (fun wq hq => rints_k wq nb t ht6 st hq)
        generalize valOf (listP intP) st = V at H1 H2
        generalize restOf (listP intP) st = st' at H1 H2
        go_wp2_with (first
          | (go_at_call 27; refine H1.out.mono ?_; rintro e w3 ⟨v3, rfl, o3, r3, g3⟩; obtain ⟨A3, c3, rfl, n3, m3⟩ := own_slice o3; have q3 := Rr.grown hqr g3 Hne1.out)
          | (go_at_call 28; refine (H2.out _ q3).mono ?_; rintro e w4 ⟨v4, rfl, o4, q4, g4⟩; obtain ⟨A4, c4, rfl, n4, m4⟩ := own_slice o4; have r4 := Rd.grown r3 g4 Hne2.out; have o3k := own_kept o3 g4 hqr.lt; have HS := Lib.hid (isame_k A3 A4 c3 c4 _ _ V V w4 rfl rfl (by simp only [maxLen] at m3; omega) (by simp only [maxLen] at m4; omega) (own_cells o3k) (own_cells o4)))
          | (go_at_call 26; refine HS.out.mono ?_; rintro e w5 ⟨rfl, g5⟩; have r5 := Rd.grown r4 g5 (by simp); have q5 := Rr.grown q4 g5 (by simp))
          | (go_at_call 32; refine (Left_k _ _ _ r5).mono ?_; rintro e w' ⟨rfl, rfl⟩)
          | (go_at_call 33; refine (rLeft _ _ _ ht6 _ q5).mono ?_; rintro e w6 ⟨rfl, g6⟩; have r6 := Rd.grown r5 g6 (by simp); have q6 := Rr.grown q5 g6 (by simp))
          | (go_at_call 34; refine (Bad_k _ _ _ r6).mono ?_; rintro e w' ⟨rfl, rfl⟩)
          | (go_at_call 35; refine (rBad _ _ _ _ q6).mono ?_; rintro e w' ⟨rfl, rfl⟩))
        have gg := (((hg.andThen g3 (fun j hj => .inl (by injection hj with hj; omega))).andThen g4 (fun j hj => .inl (by injection hj with hj; omega))).trans g5).trans g6
        exact ⟨⟨k + 1, by omega, by go_num, gg, _, r6, q6⟩, by simp [intOf]; omega⟩
      · have m0 : (x : Int) % 4 = 3 := by omega
        have m1 : (x : Int).tmod 4 = 3 := by rw [Int.tmod_eq_emod_of_nonneg (by omega)]; exact m0
        clear h4
        have H1 := Lib.hid (texts_k wr hbr.out na hna6 st hr hsh2.out)
        have H2 : Hid (∀ wq, Rr wq nb t st → _) := Lib.hid (fun wq hq => rtexts_k wq nb t ht6 st hq)
        generalize valOf (listP textP) st = V at H1 H2
        generalize restOf (listP textP) st = st' at H1 H2
        go_wp2_with (first
          | (go_at_call 30; refine H1.out.mono ?_; rintro e w3 ⟨v3, rfl, o3, r3, g3⟩; obtain ⟨A3, c3, rfl, n3, m3⟩ := own_slice o3; have q3 := Rr.grown hqr g3 Hne1.out)
          | (go_at_call 31; refine (H2.out _ q3).mono ?_; rintro e w4 ⟨v4, rfl, o4, q4, g4⟩; obtain ⟨A4, c4, rfl, n4, m4⟩ := own_slice o4; have r4 := Rd.grown r3 g4 Hne2.out; have o3k := own_kept o3 g4 hqr.lt; have HS := Lib.hid (tsame_k A3 A4 c3 c4 _ _ V V w4 rfl rfl (by simp only [maxLen] at m3; omega) (by simp only [maxLen] at m4; omega) (own_cells o3k) (own_cells o4)))
          | (go_at_call 29; refine HS.out.mono ?_; rintro e w5 ⟨rfl, g5⟩; have r5 := Rd.grown r4 g5 (by simp); have q5 := Rr.grown q4 g5 (by simp))
          | (go_at_call 32; refine (Left_k _ _ _ r5).mono ?_; rintro e w' ⟨rfl, rfl⟩)
          | (go_at_call 33; refine (rLeft _ _ _ ht6 _ q5).mono ?_; rintro e w6 ⟨rfl, g6⟩; have r6 := Rd.grown r5 g6 (by simp); have q6 := Rr.grown q5 g6 (by simp))
          | (go_at_call 34; refine (Bad_k _ _ _ r6).mono ?_; rintro e w' ⟨rfl, rfl⟩)
          | (go_at_call 35; refine (rBad _ _ _ _ q6).mono ?_; rintro e w' ⟨rfl, rfl⟩))
        have gg := (((hg.andThen g3 (fun j hj => .inl (by injection hj with hj; omega))).andThen g4 (fun j hj => .inl (by injection hj with hj; omega))).trans g5).trans g6
        exact ⟨⟨k + 1, by omega, by go_num, gg, _, r6, q6⟩, by simp [intOf]; omega⟩
    · have hg' := Lib.hid hg
      by_cases h1 : k < n
      · have h20 : ¬ k < 12 := fun h => hlt ⟨h1, h⟩
        have hd : decide ((k : Int) < 12) = false := by simp; omega
        clear hlt
        go_wp2_with fail
        go_ret
        exact ⟨rfl, hg'.out⟩
      · have hd : decide ((k : Int) < (n : Int)) = false := by simp; omega
        clear hlt
        go_wp2_with fail
        go_ret
        exact ⟨rfl, hg'.out⟩
end Go.Proofs.YtmohcanfkcopiaaDoor
