import Derived.Test.YtmohcanfkcopiaaDoorVal
import Derived.Deep.DeepCutAuto
import Derived.Deep.QuietTactic
import Derived.BigQuiet
import Derived.OwnWalk
import Derived.Deep.AppendLies
import Derived.Deep.RegionWith
import Derived.Deep.RegionHeld3
import Derived.Test.YtmohcanfkcopiaaDoorMono
namespace Go.Proofs.YtmohcanfkcopiaaDoor
open Go.RowKit
attribute [local go_sem] get_mk extract_mk

/-- a value as the law has cut it; w0: the world before all, w: that of now -/
structure Kept (w0 : World) (o : Val) (w : World) : Prop where
  k : o.kd ≤ 255
  i : I64 o.n
  sl : o.s.length ≤ 100
  ll : o.ln = o.l.length
  l20 : o.ln ≤ 20
  lle : o.ln ≤ o.lc
  lcm : o.lc ≤ maxLen
  li : ∀ x ∈ o.l, I64 x
  lcell : 0 < o.ln → ∃ ad, o.A = some ad ∧ ad.block < w0.heap.size ∧ ∀ j x, o.l[j]? = some x → w0.cell? (ad.add j) = some (.int .i64 x)
  tl : o.tn = o.t.length
  tc : cutL o.t = o.t
  trow : w.ownsRow w0.heap.size 9 1 (.slice o.B o.tn o.tc) o.tn (o.t.map fun x => .string ⟨x.toArray⟩)

theorem Kept.grown {w0 w w' : World} {o : Val} {row : Option Nat} (h : Kept w0 o w) (hg : w.grownBy w' row) (hr : row = none ∨ ∃ g cs fr, row = some g ∧ w.heap[g]? = some (.cells cs 45 fr)) : Kept w0 o w' :=
  { h with
    trow := h.trow.kept hg (by
      rcases hr with rfl | ⟨g, cs, fr, rfl, hc⟩
      · exact Classical.em _
      · right
        intro e
        rcases h.trow.2 with ⟨hv, _⟩ | ⟨g', cap, cur, hv, _, hc', _⟩
        · rw [hv] at e; cases e
        · rw [hv] at e
          have : g' = g := by injection e
          rw [this, hc] at hc'
          cases hc') }

/-- a row of the laws' type Value at p -/
structure RowAt (w : World) (p : Addr) (v : Val) : Prop where
  c0 : w.cell? p = some (.int .u8 v.kd)
  c1 : w.cell? ⟨p.block, p.off + 1, none⟩ = some (.int .i64 v.n)
  c2 : w.cell? ⟨p.block, p.off + 2, none⟩ = some (.string ⟨v.s.toArray⟩)
  c3 : w.cell? ⟨p.block, p.off + 3, none⟩ = some (.slice v.A v.ln v.lc)
  c4 : w.cell? ⟨p.block, p.off + 4, none⟩ = some (.slice v.B v.tn v.tc)
theorem RowAt.kept {w w' : World} {p : Addr} {v : Val} (h : RowAt w p v) (hg : w.grownBy w' none) (hp : p.block < w.heap.size) : RowAt w' p v :=
  ⟨((below_of_grown hg).cell hp).trans h.c0, ((below_of_grown hg).cell (p := ⟨p.block, p.off + 1, none⟩) hp).trans h.c1, ((below_of_grown hg).cell (p := ⟨p.block, p.off + 2, none⟩) hp).trans h.c2,
   ((below_of_grown hg).cell (p := ⟨p.block, p.off + 3, none⟩) hp).trans h.c3, ((below_of_grown hg).cell (p := ⟨p.block, p.off + 4, none⟩) hp).trans h.c4⟩

theorem grow_cell (w : World) (b i : Nat) (v : Value) : w.grownBy (w.setCell ⟨b, i, none⟩ v) (some b) :=
  ⟨rfl, rfl, rfl, by simp [World.setCell], fun k _ hk => Below.heap_setCell _ _ _ _ (fun e => hk (by simp [e]))⟩
theorem info45 : (Tryd.prog.info? 45).map (fun i => (i.zero, i.size, i.bytes)) = some (some (.agg #[.int .u8 0, .int .i64 0, .string ⟨#[]⟩, .slice none 0 0, .slice none 0 0]), 5, 80) := by kernel_rfl
theorem own_base {w : World} {b b' e size n : Nat} {v : Value} {xs : List Value} (h : w.ownsRow b e size v n xs) (hb : b' ≤ b) : w.ownsRow b' e size v n xs := by
  refine ⟨h.1, ?_⟩
  rcases h.2 with h | ⟨g, cap, cur, h1, h2, h3⟩
  · exact .inl h
  · exact .inr ⟨g, cap, cur, h1, Nat.le_trans hb h2, h3⟩
theorem kept_cut {w0 w : World} {kd : Nat} {n : Int} {s : List UInt8} {A B : Option Addr} {ln lc tn tc : Nat} {l : List Int} {t : List (List UInt8)} (h : Val.ok ⟨kd, n, s, A, ln, lc, l, B, tn, tc, t⟩ w0)
    {B2 : Option Addr} {d2 : Nat} (ho : w.ownsRow w0.heap.size 9 1 (.slice B2 (cutL t).length d2) (cutL t).length ((cutL t).map fun x => .string ⟨x.toArray⟩)) :
    Kept w0 ⟨kd, n, s.take 100, A, (min (ln : Int) 20).toNat, lc, l.take 20, B2, (cutL t).length, d2, cutL t⟩ w := by
  have h1 := h.ll
  have h2 := h.lle
  simp only at h1 h2
  refine ⟨h.k, h.i, by show (s.take 100).length ≤ 100; rw [List.length_take]; omega, take_min20 l ln h1, by show (min (ln : Int) 20).toNat ≤ 20; omega, by show (min (ln : Int) 20).toNat ≤ lc; omega, h.lcm, fun x hx => h.li x (List.mem_of_mem_take hx), fun h0 => ?_, rfl, ?_, ho⟩
  · obtain ⟨ad, e, e1, e2⟩ := h.lcell (show 0 < ln by simp only at h0; omega)
    refine ⟨ad, e, e1, fun j x hx => e2 j x ?_⟩
    simp only [List.getElem?_take] at hx
    split at hx
    · exact hx
    · cases hx
  · show cutL (cutL t) = cutL t
    unfold cutL
    rw [← List.map_take, List.take_take, List.map_map]
    simp only [Nat.min_self]
    refine List.map_congr_left (fun x _ => ?_)
    simp [List.take_take]

theorem own_row45 {w : World} {b size n : Nat} {v : Value} {xs : List Value} (h : w.ownsRow b 45 size v n xs) : v.ownBlock = none ∨ ∃ g cs fr, v.ownBlock = some g ∧ w.heap[g]? = some (.cells cs 45 fr) := by
  rcases h.2 with ⟨rfl, _⟩ | ⟨g, cap, cur, rfl, _, hc, _⟩
  · exact .inl rfl
  · exact .inr ⟨g, cur, (0, 0), rfl, hc⟩
theorem kind_cases (kd : Nat) : ((kd : Int).tmod 4 = 0 ∧ (kd : Int) % 4 = 0 ∧ kd % 4 = 0) ∨ ((kd : Int).tmod 4 = 1 ∧ (kd : Int) % 4 = 1 ∧ kd % 4 = 1) ∨ ((kd : Int).tmod 4 = 2 ∧ (kd : Int) % 4 = 2 ∧ kd % 4 = 2) ∨ ((kd : Int).tmod 4 = 3 ∧ (kd : Int) % 4 = 3 ∧ kd % 4 = 3) := by
  rw [Int.tmod_eq_emod_of_nonneg (by omega)]
  omega
theorem kept_text {w0 w w' : World} {o : Val} (h : Kept w0 o w) (hb : Base w') :
    Calls Tryd.prog 14 #[.string ⟨o.s.toArray⟩] w' fun e w2 => e = .returned (.string ⟨(serT o.s).toArray⟩) ∧ w'.grownBy w2 none :=
  wText _ (Nat.le_trans h.sl (by decide)) w' hb
theorem kept_ints {w0 w : World} {o : Val} (h : Kept w0 o w) (hb : Base w) (hg : w0.grownBy w none) :
    Calls Tryd.prog 16 #[.slice o.A o.ln o.lc] w fun e w' => e = .returned (.string ⟨(serL serI o.l).toArray⟩) ∧ w.grownBy w' none := by
  have h1 := h.ll
  have h2 := h.l20
  have h20 : o.l.length ≤ 20 := by omega
  have hf := flat_bound serI 21 o.l (fun x hx => by have := itoa_len (h.li x hx); unfold serI; simp; omega)
  refine wInts o.A o.lc _ o.l w hb h1 h.li (by have := Nat.mul_le_mul_right 21 h20; omega) h.lle h.lcm (fun h0 => ?_)
  obtain ⟨ad, e, h1, h2⟩ := h.lcell h0
  exact ⟨ad, e, Nat.lt_of_lt_of_le h1 hg.size, fun j x hx => ((below_of_grown hg).cell (p := ad.add j) (by rw [add_block]; exact h1)).trans (h2 j x hx)⟩
theorem kept_texts {w0 w : World} {o : Val} (h : Kept w0 o w) (hb : Base w) :
    Calls Tryd.prog 18 #[.slice o.B o.tn o.tc] w fun e w' => e = .returned (.string ⟨(serL serT o.t).toArray⟩) ∧ w.grownBy w' none := by
  have h1 := h.trow
  rw [h.tl, ← h.tc] at h1 ⊢
  exact ser_texts o.t _ o.B o.tc w hb h1
theorem Kept.ok {w0 w : World} {o : Val} (h : Kept w0 o w) (hg : w0.grownBy w none) : o.ok w := by
  have h1 := h.ll
  have h2 := h.l20
  refine ⟨h.k, h.i, Nat.le_trans h.sl (by decide), h.ll, h.lle, h.lcm, h.li, fun h0 => ?_, h.tl, ?_, ?_, ?_, fun h0 => ?_⟩
  · obtain ⟨ad, e, h1, h2⟩ := h.lcell h0
    exact ⟨ad, e, Nat.lt_of_lt_of_le h1 hg.size, fun j x hx => ((below_of_grown hg).cell (p := ad.add j) (by rw [add_block]; exact h1)).trans (h2 j x hx)⟩
  · obtain ⟨A, c, e, h3, _⟩ := own_slice h.trow
    injection e with _ e1 e2
    omega
  · obtain ⟨A, c, e, _, h3⟩ := own_slice h.trow
    injection e with _ e1 e2
    omega
  · intro x hx
    have := (cut_len o.t).2 x (by rw [h.tc]; exact hx)
    omega
  · have := h.trow
    exact own_read this h0
theorem kept_len {w0 w : World} {os : List Val} {M : Nat} (h : ∀ o ∈ os, Kept w0 o w) (hg : w0.grownBy w none) (hl : os.length ≤ M) (hM : M ≤ 8) : (os.flatMap Val.ser).length ≤ 80000 := by
  have := flat_bound Val.ser 10000 os (fun o ho => Val.ser_len ((h o ho).ok hg))
  omega
theorem kept_ser {w0 w : World} {o : Val} (h : Kept w0 o w) : (o.kd % 4 = 0 → Val.ser o = serI o.n) ∧ (o.kd % 4 = 1 → Val.ser o = serT o.s) ∧ (o.kd % 4 = 2 → Val.ser o = serL serI o.l) ∧ (o.kd % 4 = 3 → Val.ser o = serL serT o.t) := by
  have e1 : o.s.take 100 = o.s := List.take_of_length_le h.sl
  have e2 : o.l.take 20 = o.l := List.take_of_length_le (by have := h.ll; have := h.l20; omega)
  have e3 := h.tc
  refine ⟨fun hk => ?_, fun hk => ?_, fun hk => ?_, fun hk => ?_⟩ <;> (unfold Val.ser; simp only [hk, e1, e2, e3])

def InvR (w0 : World) (m : Nat) (own s i : Value) (wr : World) : Prop :=
  ∃ os : List Val, os.length ≤ m ∧ i = .int .i64 os.length ∧ wr.ownsRow w0.heap.size 45 5 own os.length (os.flatMap fun o => o.cells.toList) ∧
    s = .string ⟨(os.flatMap Val.ser).toArray⟩ ∧ (∀ o ∈ os, Kept w0 o wr) ∧ w0.grownBy wr none

theorem inv_next {w0 w4 w9 : World} {M : Nat} {os : List Val} {o : Val} {SS X : List UInt8} {own : Value} (hlt : os.length < M) (hg9 : w4.grownBy w9 none) (hg : w0.grownBy w9 none)
    (hown : w4.ownsRow w0.heap.size 45 5 own (os.length + 1) ((os.flatMap fun o => o.cells.toList) ++ o.cells.toList)) (hSS : os.flatMap Val.ser = SS) (hser : Val.ser o = X) (hk : Kept w0 o w4) (hks : ∀ o ∈ os, Kept w0 o w4) :
    InvR w0 M own (.string ((⟨SS.toArray⟩ : ByteArray) ++ ⟨X.toArray⟩)) (.int .i64 ((os.length : Int) + 1)) w9 := by
  refine ⟨os ++ [o], by simp; omega, by simp, ?_, ?_, ?_, hg⟩
  · have := hown.kept hg9 (Classical.em _)
    simpa using this
  · rw [← hSS, ← hser]
    congr 1
    apply ByteArray.ext
    simp
  · intro x hx
    rcases List.mem_append.1 hx with hx | hx
    · exact (hks x hx).grown hg9 (.inl rfl)
    · rw [List.mem_singleton] at hx
      rw [hx]
      exact hk.grown hg9 (.inl rfl)

theorem grown_any {w w' : World} (h : w.grownBy w' none) (b : Option Nat) : w.grownBy w' b := ⟨h.os, h.tape, h.output, h.size, fun i hi _ => h.block i hi (by simp)⟩
theorem rd_kept {w w' : World} {b : Nat} {st : Option (List UInt8)} (h : Rd w b st) (hg : w.grownBy w' none) : Rd w' b st := (hg.block b (Array.getElem?_eq_some_iff.1 h).1 (by simp)).trans h
theorem rd_int {n : Int} (hi : I64 n) {w : World} {b : Nat} {rest : List UInt8} (hb : Base w) (h : Rd w b (some (serI n ++ rest))) (hl : (serI n ++ rest).length ≤ 1000000) :
    Calls Tryd.prog 22 #[.pointer (some ⟨b, 0, none⟩)] w fun e w' => e = .returned (.int .i64 n) ∧ Rd w' b (some rest) ∧ w.grownBy w' (some b) := by
  have hp : intP (serI n ++ rest) = some (n, rest) := (intP_iff _ _ _).2 ⟨hi, rfl⟩
  have := int_k w hb b _ h (fun l e => by injection e with e; subst e; omega)
  simpa [valOf, restOf, hp] using this
theorem rd_text {v : List UInt8} (hi : I64 v.length) {w : World} {b : Nat} {rest : List UInt8} (hb : Base w) (h : Rd w b (some (serT v ++ rest))) (hl : (serT v ++ rest).length ≤ 1000000) :
    Calls Tryd.prog 24 #[.pointer (some ⟨b, 0, none⟩)] w fun e w' => e = .returned (.string ⟨v.toArray⟩) ∧ Rd w' b (some rest) ∧ w.grownBy w' (some b) := by
  have hp : textP (serT v ++ rest) = some (v, rest) := (textP_iff _ _ _).2 ⟨hi, rfl⟩
  have := text_k w hb b _ h (fun l e => by injection e with e; subst e; omega)
  simpa [valOf, restOf, hp] using this
theorem rd_ints {v : List Int} (hi : ∀ x ∈ v, I64 x) {w : World} {b : Nat} (hb6 : 6 ≤ b) {rest : List UInt8} (hb : Base w) (h : Rd w b (some (serL serI v ++ rest))) (hl : (serL serI v ++ rest).length ≤ 1000000) :
    Calls Tryd.prog 27 #[.pointer (some ⟨b, 0, none⟩)] w fun e w' => ∃ A c, e = .returned (.slice A v.length c) ∧ w'.ownsRow w.heap.size 3 1 (.slice A v.length c) v.length (v.map (.int .i64)) ∧ Rd w' b (some rest) ∧ w.grownBy w' (some b) := by
  have hp : listP intP (serL serI v ++ rest) = some (v, rest) := (list_iff intD _ _ _).2 ⟨hi, rfl⟩
  have := ints_k w hb b hb6 _ h (fun l e => by injection e with e; subst e; omega)
  refine this.mono fun e w' ⟨x, he, ho, hr, hg⟩ => ?_
  simp only [valOf, restOf, hp, Option.bind_some] at ho hr
  obtain ⟨A, c, rfl, _⟩ := own_slice ho
  exact ⟨A, c, he, ho, hr, hg⟩
theorem rd_texts {v : List (List UInt8)} (hi : ∀ x ∈ v, I64 x.length) {w : World} {b : Nat} (hb6 : 6 ≤ b) {rest : List UInt8} (hb : Base w) (h : Rd w b (some (serL serT v ++ rest))) (hl : (serL serT v ++ rest).length ≤ 1000000) :
    Calls Tryd.prog 30 #[.pointer (some ⟨b, 0, none⟩)] w fun e w' => ∃ A c, e = .returned (.slice A v.length c) ∧ w'.ownsRow w.heap.size 9 1 (.slice A v.length c) v.length (v.map fun x => .string ⟨x.toArray⟩) ∧ Rd w' b (some rest) ∧ w.grownBy w' (some b) := by
  have hp : listP textP (serL serT v ++ rest) = some (v, rest) := (list_iff textD _ _ _).2 ⟨hi, rfl⟩
  have := texts_k w hb b hb6 _ h (fun l e => by injection e with e; subst e; omega)
  refine this.mono fun e w' ⟨x, he, ho, hr, hg⟩ => ?_
  simp only [valOf, restOf, hp, Option.bind_some] at ho hr
  obtain ⟨A, c, rfl, _⟩ := own_slice ho
  exact ⟨A, c, he, ho, hr, hg⟩
theorem flat_at : ∀ (os : List Val) (k : Nat) (o : Val) (q : Nat) (x : Value), os[k]? = some o → o.cells.toList[q]? = some x → (os.flatMap fun o => o.cells.toList)[k * 5 + q]? = some x
  | [], _, _, _, _, h, _ => by simp at h
  | a :: r, 0, o, q, x, h, hx => by
    have : a = o := by simpa using h
    subst this
    rw [List.flatMap_cons, Nat.zero_mul, Nat.zero_add, List.getElem?_append_left (List.getElem?_eq_some_iff.1 hx).1]
    exact hx
  | a :: r, k + 1, o, q, x, h, hx => by
    have h5 : a.cells.toList.length = 5 := rfl
    rw [List.flatMap_cons, List.getElem?_append_right (by rw [h5]; omega), h5, show (k + 1) * 5 + q - 5 = k * 5 + q by omega]
    exact flat_at r k o q x (by simpa using h) hx
/-- the rows that the program has built, as it reads them again -/
theorem own_rows {w : World} {b : Nat} {v : Value} {os : List Val} (h : w.ownsRow b 45 5 v os.length (os.flatMap fun o => o.cells.toList)) (k : Nat) (o : Val) (hk : os[k]? = some o) :
    ∃ g cap, v = .slice (some ⟨g, 0, none⟩) os.length cap ∧ b ≤ g ∧ g < w.heap.size ∧ RowAt w ⟨g, k * 5, none⟩ o := by
  have hlt := (List.getElem?_eq_some_iff.1 hk).1
  rcases h.2 with ⟨_, h0⟩ | ⟨g, cap, cur, rfl, hb, hg, h1, h2, h3, h4⟩
  · omega
  · refine ⟨g, cap, rfl, hb, (Array.getElem?_eq_some_iff.1 hg).1, ?_⟩
    have hc : ∀ q x, o.cells.toList[q]? = some x → w.cell? ⟨g, k * 5 + q, none⟩ = some x := fun q x hx => by
      have := flat_at os k o q x hk hx
      rw [← h4, List.getElem?_take] at this
      split at this
      · simpa [World.cell?, hg] using this
      · cases this
    exact ⟨hc 0 _ rfl, hc 1 _ rfl, hc 2 _ rfl, hc 3 _ rfl, hc 4 _ rfl⟩
theorem flat_drop (os : List Val) (k : Nat) (o : Val) (h : os[k]? = some o) : (os.drop k).flatMap Val.ser = Val.ser o ++ (os.drop (k + 1)).flatMap Val.ser := by
  obtain ⟨hlt, rfl⟩ := List.getElem?_eq_some_iff.1 h
  rw [List.drop_eq_getElem_cons hlt, List.flatMap_cons]

theorem slice5 {w : World} {b e size n : Nat} {v : Value} {xs : List Value} (h : w.ownsRow b e size v n xs) : ∃ A c, v = .slice A n c := by
  rcases h.2 with ⟨rfl, rfl⟩ | ⟨g, cap, cur, rfl, _⟩
  · exact ⟨none, 0, rfl⟩
  · exact ⟨_, cap, rfl⟩
/-- what lies below the reader stays, whatever the reader does -/
theorem below_reader {w w1 w' : World} {b : Nat} (h1 : w.grownBy w1 none) (h2 : w1.grownBy w' (some b)) (hb : w.heap.size ≤ b) : w.grownBy w' none :=
  h1.andThen h2 (fun j hj => .inl (by injection hj with hj; omega))
theorem grown_drr {a w : World} {row : Option Nat} (h : a.grownBy w row) : a.grownBy w.drew row := ⟨h.os, h.tape, h.output, h.size, h.block⟩
theorem w_text {w0 w : World} {o : Val} (h : Kept w0 o w) : I64 o.s.length := ⟨by omega, by have := h.sl; omega⟩
theorem w_texts {w0 w : World} {o : Val} (h : Kept w0 o w) : ∀ x ∈ o.t, I64 x.length := fun x hx => by
  have := (cut_len o.t).2 x (by rw [h.tc]; exact hx)
  exact ⟨by omega, by omega⟩
/-- the reader's list against the kept one -/
theorem same_kept {w0 w5 w1 w2 : World} {o : Val} {A2 : Option Addr} {c2 bn E : Nat} (h : Kept w0 o w5) (ho : w2.ownsRow E 3 1 (.slice A2 o.l.length c2) o.l.length (o.l.map (.int .i64))) (hbn : w5.heap.size = bn) (hg : w0.grownBy w5 none) (g1 : w5.grownBy w1 none) (g2 : w1.grownBy w2 (some bn)) :
    Calls Tryd.prog 26 #[.slice A2 o.l.length c2, .slice o.A o.ln o.lc] w2 fun e w' => e = .returned (.bool true) ∧ w2.grownBy w' none := by
  have h1 := h.ll
  have h2 := h.l20
  have gw := hg.trans (below_reader g1 g2 (by omega))
  have := isame_k A2 o.A c2 o.lc o.l.length o.ln o.l o.l w2 rfl h1 (by omega) (by omega) (fun h0 => by
    obtain ⟨ad, e, _, hc⟩ := own_read ho h0
    exact ⟨ad, e, hc⟩) (fun h0 => by
    obtain ⟨ad, e, e1, e2⟩ := h.lcell h0
    exact ⟨ad, e, fun j x hx => ((below_of_grown gw).cell (p := ad.add j) (by rw [add_block]; exact e1)).trans (e2 j x hx)⟩)
  simpa using this
theorem tsame_kept {w0 w5 w1 w2 : World} {o : Val} {A2 : Option Addr} {c2 bn E : Nat} (h : Kept w0 o w5) (ho : w2.ownsRow E 9 1 (.slice A2 o.t.length c2) o.t.length (o.t.map fun x => .string ⟨x.toArray⟩)) (hbn : w5.heap.size = bn) (_hg : w0.grownBy w5 none) (g1 : w5.grownBy w1 none) (g2 : w1.grownBy w2 (some bn)) :
    Calls Tryd.prog 29 #[.slice A2 o.t.length c2, .slice o.B o.tn o.tc] w2 fun e w' => e = .returned (.bool true) ∧ w2.grownBy w' none := by
  have h1 := h.tl
  have h2 : o.t.length ≤ 20 := by have := (cut_len o.t).1; rwa [h.tc] at this
  have gw := below_reader g1 g2 (by omega)
  have ht := h.trow.kept gw (Classical.em _)
  have := tsame_k A2 o.B c2 o.tc o.t.length o.tn o.t o.t w2 rfl h1 (by omega) (by omega) (fun h0 => by
    obtain ⟨ad, e, _, hc⟩ := own_read ho h0
    exact ⟨ad, e, hc⟩) (fun h0 => by
    obtain ⟨ad, e, _, hc⟩ := own_read ht h0
    exact ⟨ad, e, hc⟩)
  simpa using this
set_option maxRecDepth 100000 in
set_option maxHeartbeats 8000000 in
theorem inv_walk (A : Option Addr) (c n : Nat) (vs : List Val) (w : World) (hb : Base w) (hn : n = vs.length) (hm : c ≤ 9223372036854775807) (hc : n ≤ c) (hok : ∀ v ∈ vs, v.ok w)
    (hA : 0 < n → ∃ ad, A = some ad ∧ ad.block < w.heap.size ∧ ∀ j v, vs[j]? = some v → RowAt w (ad.add (j * 5)) v) :
    Calls Tryd.prog 5 #[.slice A n c] w fun e w' => e = .returned (.bool true) ∧ w.grownBy w' none := by
  have hb6 := hb.size
  have e3 : (0 : Int) ≤ min (n : Int) 8 := by omega
  have e4 : min (n : Int) 8 ≤ (c : Int) := by omega
  have e5 : max (min (n : Int) 8) 0 = ((min n 8 : Nat) : Int) := by omega
  have e6 : (min (n : Int) 8).toNat = min n 8 := by omega
  have Hn := Lib.hid hn
  have Hok := Lib.hid hok
  have HA := Lib.hid hA
  have Hb := Lib.hid hb
  have Hs := sane w hb
  clear hn hok hA hb
  go_enter Tryd.func5, Tryd.ntmps5
  go_wp2_with fail
  refine Hs.mono ?_
  rintro e w0 ⟨rfl, g1⟩
  clear Hs
  have HB : Hid (∀ w', w0.grownBy w' none → Base w') := Lib.hid (fun w' g => (Hb.out.none_ g1).none_ g)
  have HV : Hid (∀ v ∈ vs, v.ok w0) := Lib.hid (fun v hv => (Hok.out v hv).kept g1)
  have HC : Hid (0 < n → ∃ ad, A = some ad ∧ ad.block < w0.heap.size ∧ ∀ j v, vs[j]? = some v → RowAt w0 (ad.add (j * 5)) v) := Lib.hid (fun h => by
    obtain ⟨ad, h1, h2, h3⟩ := HA.out h
    exact ⟨ad, h1, Nat.lt_of_lt_of_le h2 g1.size, fun j v hv => (h3 j v hv).kept g1 (by rw [add_block]; exact h2)⟩)
  have gw0 := Lib.hid g1
  have hb6 := Nat.le_trans hb6 g1.size
  clear g1 Hok HA
  generalize hM : min n 8 = M at *
  have hMn : M ≤ n := by omega
  have hM8 : M ≤ 8 := by omega
  clear hM
  go_wp2_with fail
  go_loopw [4, 5, 19] (fun own s i wr => InvR w0 M own s i wr) (fun _ _ i _ => M - (intOf i).toNat)
  case atStart => exact ⟨[], by simp, rfl, World.ownsRow_nil _ _ _ _, rfl, fun _ h => (by cases h), World.grownBy.refl _ _⟩
  case round =>
    obtain ⟨os, hos, rfl, hown, rfl, hkept, hg⟩ := hrel
    by_cases hlt : os.length < M
    · obtain ⟨ad, rfl, hab, hcell⟩ := HC.out (by omega)
      obtain ⟨v, hv⟩ : ∃ v, vs[os.length]? = some v := ⟨_, List.getElem?_eq_getElem (by have := Hn.out; omega)⟩
      obtain ⟨c0, c1, c2, c3, c4⟩ := (hcell os.length v hv).kept hg (by rw [add_block]; exact hab)
      have hvo := HV.out v (List.mem_of_getElem? hv)
      obtain ⟨kd, vn, s, VA, ln, lc, l, VB, tn, tc, t⟩ := v
      simp only at c0 c1 c2 c3 c4
      clear hcell
      have v1 : (0 : Int) ≤ min (s.length : Int) 100 := by omega
      have v2 : min (s.length : Int) 100 ≤ (s.length : Int) := by omega
      have v3 : (0 : Int) ≤ min (ln : Int) 20 := by omega
      have v4 : min (ln : Int) 20 ≤ (lc : Int) := by have := hvo.lle; simp only at this; omega
      have v5 : s.length ≤ 9223372036854775807 := hvo.sl
      have v6 : ln ≤ lc := hvo.lle
      have v7 : lc ≤ 9223372036854775807 := hvo.lcm
      have Hvo := Lib.hid hvo
      have Hv := Lib.hid hv
      have Hown := Lib.hid hown
      have Hkept := Lib.hid hkept
      have Hg := Lib.hid hg
      clear hvo hv hown hkept hg
      go_wp2_with fail
      refine (ser_cut ⟨kd, vn, s, VA, ln, lc, l, VB, tn, tc, t⟩ _ (Hvo.out.kept (grown_al Hg.out))).mono ?_
      rintro e w2 ⟨B2, d2, rfl, o2, g2⟩
      have hbx := (g2.block wr.heap.size (by simp) (by simp)).trans (heap_alloc_new wr _)
      have lbx : wr.heap.size < w2.heap.size := Nat.lt_of_lt_of_le (by simp) g2.size
      have hg2 : wr.grownBy w2 none := (World.grownBy_alloc wr _ none).trans g2
      have hon := (Hown.out.kept (row := none) hg2 (Classical.em _))
      generalize hn1 : wr.heap.size = n1 at *
      have y0 : w2.cell? ⟨n1, 0, none⟩ = some (.int .u8 kd) := by simp [World.cell?, hbx]
      have y1 : w2.cell? ⟨n1, 1, none⟩ = some (.int .i64 vn) := by simp [World.cell?, hbx]
      have y2 : w2.cell? ⟨n1, 2, none⟩ = some (.string ⟨(List.take (min (s.length : Int) 100).toNat s).toArray⟩) := by simp [World.cell?, hbx]
      have y3 : w2.cell? ⟨n1, 3, none⟩ = some (.slice VA (min (ln : Int) 20).toNat lc) := by simp [World.cell?, hbx]
      have y4 : w2.cell? ⟨n1, 4, none⟩ = some (.slice VB tn tc) := by simp [World.cell?, hbx]
      have yf : w2.frozen? ⟨n1, 4, none⟩ = false := by simp [World.frozen?, hbx]
      go_upto_region 10 with fail
      have g23 : w2.grownBy (w2.setCell ⟨n1, 4, none⟩ (.slice B2 (cutL t).length d2)) (some n1) := grow_cell _ _ _ _
      have hb3 := Go.heap_setCell_same w2 n1 4 _ 45 (.slice B2 (cutL t).length d2) hbx
      obtain ⟨w3, hw3⟩ : ∃ w3, w2.setCell ⟨n1, 4, none⟩ (.slice B2 (cutL t).length d2) = w3 := ⟨_, rfl⟩
      rw [hw3] at g23 hb3 ⊢
      have hb3 : w3.heap[n1]? = some (.cells #[.int .u8 kd, .int .i64 vn, .string ⟨(s.take 100).toArray⟩, .slice VA (min (ln : Int) 20).toNat lc, .slice B2 (cutL t).length d2] 45 (0, 0)) := by
        rw [hb3, ← take_min' s]; rfl
      have hwn : w0.heap.size ≤ n1 := by rw [← hn1]; exact Hg.out.size
      have hg3 : wr.grownBy w3 none := hg2.andThen g23 (fun j hj => .inl (by injection hj with hj; omega))
      have hon3 := hon.kept g23 (by
        right; intro e
        have := (Hown.out.lt n1 e).2
        omega)
      have ho3 := own_base (b' := w0.heap.size) (o2.kept g23 (by
        right; intro e
        have := (o2.lt n1 e).1
        simp at this
        omega)) (by simp; omega)
      have HK : Hid (Kept w0 ⟨kd, vn, s.take 100, VA, (min (ln : Int) 20).toNat, lc, l.take 20, B2, (cutL t).length, d2, cutL t⟩ w3) := Lib.hid (kept_cut Hvo.out ho3)
      have HKs : Hid (∀ o ∈ os, Kept w0 o w3) := Lib.hid (fun o ho => (Hkept.out o ho).grown hg3 (.inl rfl))
      have Hg3 := Lib.hid (Hg.out.trans hg3)
      have lt3 : n1 < w3.heap.size := Nat.lt_of_lt_of_le lbx g23.size
      have Hne : Hid (u4.ownBlock ≠ some n1) := Lib.hid (fun e => by
        have := (Hown.out.lt n1 e).2
        omega)
      clear hw3 g23 hbx hon o2 ho3 y0 y1 y2 y3 y4 yf hg2 hg3 g2 lbx Hkept Hvo Hv c0 c1 c2 c3 c4 Hown Hg hn1
      obtain ⟨i0, hi0, hz0, hz1, hz2⟩ := info_parts info45
      have y0 : w3.cell? ⟨n1, 0, none⟩ = some (.int .u8 kd) := by simp [World.cell?, hb3]
      have y1 : w3.cell? ⟨n1, 1, none⟩ = some (.int .i64 vn) := by simp [World.cell?, hb3]
      have y2 : w3.cell? ⟨n1, 2, none⟩ = some (.string ⟨(s.take 100).toArray⟩) := by simp [World.cell?, hb3]
      have y3 : w3.cell? ⟨n1, 3, none⟩ = some (.slice VA (min (ln : Int) 20).toNat lc) := by simp [World.cell?, hb3]
      have y4 : w3.cell? ⟨n1, 4, none⟩ = some (.slice B2 (cutL t).length d2) := by simp [World.cell?, hb3]
      generalize hs1 : s.take 100 = s1 at *
      generalize hl1 : (min (ln : Int) 20).toNat = l1 at *
      generalize ht1 : (cutL t).length = t1 at *
      go_upto_region 11 with (at_builtin; refine wpList_append_lies _ rfl _ _ 43 rfl w0.heap.size 45 i0 _ 5 80 Tryd.underlying43 hi0 hz0 hz1 hz2 rfl (by omega) _ os.length _ rfl (hon3.alloc _) ⟨w3.heap.size, 0, none⟩ 1 1 [.int .u8 kd, .int .i64 vn, .string ⟨s1.toArray⟩, .slice VA l1 lc, .slice B2 t1 d2] rfl rfl (World.news_of_block (cs := #[.int .u8 kd, .int .i64 vn, .string ⟨s1.toArray⟩, .slice VA l1 lc, .slice B2 t1 d2]) (t := 45) (fr := (0, 0)) (heap_alloc_new w3 _)) (by intro u hu; simp at hu; rcases hu with rfl | rfl | rfl | rfl | rfl <;> rfl) (by omega) (by simp only [maxLen]; omega) (by omega) (by have := Hg3.out.size; simp; omega) _ rfl ?_; intro gg cap w4 hown4 hgrow hat hlt4)
      have hgrow : (w3.alloc (.cells #[.int .u8 kd, .int .i64 vn, .string ⟨s1.toArray⟩, .slice VA l1 lc, .slice B2 t1 d2] 45)).grownBy w4 u4.ownBlock := hgrow
      have ga := World.grownBy_alloc w3 (.cells #[.int .u8 kd, .int .i64 vn, .string ⟨s1.toArray⟩, .slice VA l1 lc, .slice B2 t1 d2] 45) none
      have g4 : w0.grownBy w4 none := (Hg3.out.trans ga).andThen hgrow (fun j hj => .inl (hon3.lt j hj).1)
      have hb4 := (hgrow.block n1 (Nat.lt_of_lt_of_le lt3 ga.size) (fun e => Hne.out e.symm)).trans ((ga.block n1 lt3 (by simp)).trans hb3)
      have hr := own_row45 (hon3.alloc (.cells #[.int .u8 kd, .int .i64 vn, .string ⟨s1.toArray⟩, .slice VA l1 lc, .slice B2 t1 d2] 45))
      have hk4 : Kept w0 ⟨kd, vn, s1, VA, l1, lc, l.take 20, B2, t1, d2, cutL t⟩ w4 := (HK.out.grown ga (.inl rfl)).grown hgrow hr
      have HKs4 : Hid (∀ o ∈ os, Kept w0 o w4) := Lib.hid (fun o ho => ((HKs.out o ho).grown ga (.inl rfl)).grown hgrow hr)
      have lt4 : n1 < w4.heap.size := Nat.lt_of_lt_of_le lt3 (Nat.le_trans ga.size hgrow.size)
      have HB4 : Hid (∀ w', w4.grownBy w' none → Base w') := Lib.hid (fun w' g => HB.out w' (g4.trans g))
      have HK4 : Hid (∀ w', w4.grownBy w' none → Kept w0 ⟨kd, vn, s1, VA, l1, lc, l.take 20, B2, t1, d2, cutL t⟩ w') := Lib.hid (fun w' g => hk4.grown g (.inl rfl))
      have HG4 : Hid (∀ w', w4.grownBy w' none → w0.grownBy w' none) := Lib.hid (fun w' g => g4.trans g)
      have HS4 : Hid (∀ w', w4.grownBy w' none → w'.cell? ⟨n1, 0, none⟩ = some (.int .u8 kd) ∧ w'.cell? ⟨n1, 1, none⟩ = some (.int .i64 vn) ∧ w'.cell? ⟨n1, 2, none⟩ = some (.string ⟨s1.toArray⟩) ∧ w'.cell? ⟨n1, 3, none⟩ = some (.slice VA l1 lc) ∧ w'.cell? ⟨n1, 4, none⟩ = some (.slice B2 t1 d2) ∧ w4.grownBy w' none) := by
        refine Lib.hid (fun w' g => ?_)
        have hblk := (g.block n1 lt4 (by simp)).trans hb4
        refine ⟨?_, ?_, ?_, ?_, ?_, g⟩ <;> simp [World.cell?, hblk]
      have gr4 : w4.grownBy w4 none := World.grownBy.refl _ _
      obtain ⟨y0, y1, y2, y3, y4, _⟩ := HS4.out w4 gr4
      have q1 := hk4.k
      simp only at q1
      have Hown4 := Lib.hid hown4
      have hlen0 := kept_len HKs4.out g4 (M := M) (by omega) hM8
      have hlen1 := Val.ser_len (hk4.ok g4)
      generalize hSS : os.flatMap Val.ser = SS at *
      clear hgrow ga g4 hb4 hr hk4 lt4 hown4 hat hb3 hon3 HK HKs Hg3 Hne lt3 hs1 hl1 ht1
      have hk := kind_cases kd
      rcases hk with ⟨k1, k2, hk4⟩ | ⟨k1, k2, hk4⟩ | ⟨k1, k2, hk4⟩ | ⟨k1, k2, hk4⟩
      · have hser := ((kept_ser (HK4.out w4 gr4)).1) hk4
        simp only at hser
        rw [hser] at hlen1
        have Hser := Lib.hid hser
        have Hk4 := Lib.hid hk4
        clear hk4 hser
        go_wp2_with fail
        refine wp_region_noPanic ?_
        refine wp_region_held_drew (S := (fun w' => w'.cell? ⟨n1, 0, none⟩ = some (.int .u8 kd) ∧ w'.cell? ⟨n1, 1, none⟩ = some (.int .i64 vn) ∧ w'.cell? ⟨n1, 2, none⟩ = some (.string ⟨s1.toArray⟩) ∧ w'.cell? ⟨n1, 3, none⟩ = some (.slice VA l1 lc) ∧ w'.cell? ⟨n1, 4, none⟩ = some (.slice B2 t1 d2) ∧ w4.grownBy w' none)) (by kernel_rfl) ?_ (fun hHeld => ?_)
        · (try dsimp only); (go_split_ands; (first | (exact HS4.out _ (by assumption)) | (exact HS4.out _ (grown_dr (by assumption))) | (exact HS4.out _ (grown_al (by assumption))) | (exact HS4.out _ (grown_dr (grown_al (by assumption))))))
        refine wpAnyH_take (i := 0) (oi := _) (v := ?_) rfl (by kernel_rfl) (by kernel_rfl) (by kernel_rfl) (fun _ _ _ h => h) (Or.inl ⟨by rfl, ?_⟩) (by assumption) ?_
        rotate_left 1
        · (intro w hSw; (try dsimp only at hSw); go_simp; first | done | with_reducible rfl)
        try simp only [Act.put]
        refine wpAnyH_take (i := 1) (oi := _) (v := ?_) rfl (by kernel_rfl) (by kernel_rfl) (by kernel_rfl) (fun _ _ _ h => h) (Or.inl ⟨by rfl, ?_⟩) (by assumption) ?_
        rotate_left 1
        · (intro w hSw; (try dsimp only at hSw); go_simp; first | done | with_reducible rfl)
        try simp only [Act.put]
        refine wpAnyH_take (i := 2) (oi := _) (v := ?_) rfl (by kernel_rfl) (by kernel_rfl) (by kernel_rfl) (fun _ _ _ h => h) (Or.inl ⟨by rfl, ?_⟩) (by assumption) ?_
        rotate_left 1
        · (intro w hSw; (try dsimp only at hSw); go_simp; first | done | with_reducible rfl)
        try simp only [Act.put]
        refine wpAnyH_take (i := 4) (oi := _) (v := ?_) rfl (by kernel_rfl) (by kernel_rfl) (by kernel_rfl) (fun _ _ _ h => h) (Or.inl ⟨by rfl, ?_⟩) (by assumption) ?_
        rotate_left 1
        · (intro w hSw; (try dsimp only at hSw); go_simp; first | done | with_reducible rfl)
        try simp only [Act.put]
        refine wpAnyH_take (i := 5) (oi := _) (v := ?_) rfl (by kernel_rfl) (by kernel_rfl) (by kernel_rfl) (fun _ _ _ h => h) (Or.inl ⟨by rfl, ?_⟩) (by assumption) ?_
        rotate_left 1
        · (intro w hSw; (try dsimp only at hSw); go_simp; first | done | with_reducible rfl)
        try simp only [Act.put]
        refine wpAnyH_take (i := 7) (oi := _) (v := ?_) rfl (by kernel_rfl) (by kernel_rfl) (by kernel_rfl) (fun _ _ _ h => h) (Or.inl ⟨by rfl, ?_⟩) (by assumption) ?_
        rotate_left 1
        · (intro w hSw; (try dsimp only at hSw); go_simp; first | done | with_reducible rfl)
        try simp only [Act.put]
        refine wpAnyH_take (i := 8) (oi := _) (v := ?_) rfl (by kernel_rfl) (by kernel_rfl) (by kernel_rfl) (fun _ _ _ h => h) (Or.inl ⟨by rfl, ?_⟩) (by assumption) ?_
        rotate_left 1
        · (intro w hSw; (try dsimp only at hSw); go_simp; first | done | with_reducible rfl)
        try simp only [Act.put]
        refine wpAnyH_take (i := 10) (oi := _) (v := ?_) rfl (by kernel_rfl) (by kernel_rfl) (by kernel_rfl) (fun _ _ _ h => h) (Or.inl ⟨by rfl, ?_⟩) (by assumption) ?_
        rotate_left 1
        · (intro w hSw; (try dsimp only at hSw); go_simp; first | done | with_reducible rfl)
        try simp only [Act.put]
        refine wpAnyH_take (i := 11) (oi := _) (v := ?_) rfl (by kernel_rfl) (by kernel_rfl) (by kernel_rfl) (fun _ _ _ h => h) (Or.inl ⟨by rfl, ?_⟩) (by assumption) ?_
        rotate_left 1
        · (intro w hSw; (try dsimp only at hSw); go_simp; first | done | with_reducible rfl)
        try simp only [Act.put]
        refine wpAnyH_take (i := 14) (oi := _) (v := ?_) rfl (by kernel_rfl) (by kernel_rfl) (by kernel_rfl) (fun _ _ _ h => h) (Or.inl ⟨by rfl, ?_⟩) (by assumption) ?_
        rotate_left 1
        · (intro w hSw; (try dsimp only at hSw); go_simp; first | done | with_reducible rfl)
        try simp only [Act.put]
        refine wpAnyH_take (i := 15) (oi := _) (v := ?_) rfl (by kernel_rfl) (by kernel_rfl) (by kernel_rfl) (fun _ _ _ h => h) (Or.inl ⟨by rfl, ?_⟩) (by assumption) ?_
        rotate_left 1
        · (intro w hSw; (try dsimp only at hSw); go_simp; first | done | with_reducible rfl)
        try simp only [Act.put]
        refine wpAnyH_take (i := 16) (oi := _) (v := ?_) rfl (by kernel_rfl) (by kernel_rfl) (by kernel_rfl) (fun _ _ _ h => h) (Or.inl ⟨by rfl, ?_⟩) (by assumption) ?_
        rotate_left 1
        · (intro w hSw; (try dsimp only at hSw); go_simp; first | done | with_reducible rfl)
        try simp only [Act.put]
        refine wpAnyH_ready (rs := [3]) (by kernel_rfl) (by simp) ?_
        refine AllReadyH.cons (o := _) rfl (fun K hK => ?_) AllReadyH.nil
        go_simp
        go_split_ands
        refine (wInt vn (HK4.out _ (by assumption)).i _ (HB4.out _ (by assumption))).mono ?_
        rintro e w5 ⟨rfl, g5⟩
        have g05 := World.grownBy.trans (a := w4) (by assumption) g5
        first | (refine hK.out _ _ ?_ (fun hHeld => ?_)) | (go_wp2_with fail; refine hK.out _ _ ?_ (fun hHeld => ?_))
        · (try dsimp only); (go_split_ands; (first | (exact HS4.out _ (by assumption)) | (exact HS4.out _ (grown_dr (by assumption))) | (exact HS4.out _ (grown_al (by assumption))) | (exact HS4.out _ (grown_dr (grown_al (by assumption))))))
        clear hK K
        refine wpAnyH_ready (rs := [6]) (by kernel_rfl) (by simp) ?_
        refine AllReadyH.cons (o := _) rfl (fun K hK => ?_) AllReadyH.nil
        go_simp
        go_split_ands
        refine (kept_text (HK4.out _ (by assumption)) (HB4.out _ (by assumption))).mono ?_
        rintro e w6 ⟨rfl, g6⟩
        have g06 := World.grownBy.trans (a := w4) (by assumption) g6
        first | (refine hK.out _ _ ?_ (fun hHeld => ?_)) | (go_wp2_with fail; refine hK.out _ _ ?_ (fun hHeld => ?_))
        · (try dsimp only); (go_split_ands; (first | (exact HS4.out _ (by assumption)) | (exact HS4.out _ (grown_dr (by assumption))) | (exact HS4.out _ (grown_al (by assumption))) | (exact HS4.out _ (grown_dr (grown_al (by assumption))))))
        clear hK K
        refine wpAnyH_ready (rs := [9]) (by kernel_rfl) (by simp) ?_
        refine AllReadyH.cons (o := _) rfl (fun K hK => ?_) AllReadyH.nil
        go_simp
        go_split_ands
        refine (kept_ints (HK4.out _ (by assumption)) (HB4.out _ (by assumption)) (HG4.out _ (by assumption))).mono ?_
        rintro e w7 ⟨rfl, g7⟩
        have g07 := World.grownBy.trans (a := w4) (by assumption) g7
        first | (refine hK.out _ _ ?_ (fun hHeld => ?_)) | (go_wp2_with fail; refine hK.out _ _ ?_ (fun hHeld => ?_))
        · (try dsimp only); (go_split_ands; (first | (exact HS4.out _ (by assumption)) | (exact HS4.out _ (grown_dr (by assumption))) | (exact HS4.out _ (grown_al (by assumption))) | (exact HS4.out _ (grown_dr (grown_al (by assumption))))))
        clear hK K
        refine wpAnyH_ready (rs := [12]) (by kernel_rfl) (by simp) ?_
        refine AllReadyH.cons (o := _) rfl (fun K hK => ?_) AllReadyH.nil
        go_simp
        go_split_ands
        refine (kept_texts (HK4.out _ (by assumption)) (HB4.out _ (by assumption))).mono ?_
        rintro e w8 ⟨rfl, g8⟩
        have g08 := World.grownBy.trans (a := w4) (by assumption) g8
        first | (refine hK.out _ _ ?_ (fun hHeld => ?_)) | (go_wp2_with fail; refine hK.out _ _ ?_ (fun hHeld => ?_))
        · (try dsimp only); (go_split_ands; (first | (exact HS4.out _ (by assumption)) | (exact HS4.out _ (grown_dr (by assumption))) | (exact HS4.out _ (grown_al (by assumption))) | (exact HS4.out _ (grown_dr (grown_al (by assumption))))))
        clear hK K
        refine wpAnyH_ready (rs := [13]) (by kernel_rfl) (by simp) ?_
        refine AllReadyH.cons (o := _) rfl (fun K hK => ?_) AllReadyH.nil
        go_simp
        first | (refine hK.out _ _ ?_ (fun hHeld => ?_)) | (go_wp2_with fail; refine hK.out _ _ ?_ (fun hHeld => ?_))
        · (try dsimp only); (go_split_ands; (first | (exact HS4.out _ (by assumption)) | (exact HS4.out _ (grown_dr (by assumption))) | (exact HS4.out _ (grown_al (by assumption))) | (exact HS4.out _ (grown_dr (grown_al (by assumption))))))
        clear hK K
        refine wpAnyH_take (i := 17) (oi := _) (v := ?_) rfl (by kernel_rfl) (by kernel_rfl) (by kernel_rfl) (fun _ _ _ h => h) (Or.inl ⟨by rfl, ?_⟩) (by assumption) ?_
        rotate_left 1
        · (intro w hSw; (try dsimp only at hSw); go_simp; first | done | with_reducible rfl)
        try simp only [Act.put]
        refine wpAnyH_ready (rs := [18]) (by kernel_rfl) (by simp) ?_
        refine AllReadyH.cons (o := _) rfl (fun K hK => ?_) AllReadyH.nil
        go_simp
        first | (refine hK.out _ _ ?_ (fun hHeld => ?_)) | (go_wp2_with fail; refine hK.out _ _ ?_ (fun hHeld => ?_))
        · (try dsimp only); (go_split_ands; (first | (exact HS4.out _ (by assumption)) | (exact HS4.out _ (grown_dr (by assumption))) | (exact HS4.out _ (grown_al (by assumption))) | (exact HS4.out _ (grown_dr (grown_al (by assumption))))))
        clear hK K
        refine wpAnyH_take (i := 19) (oi := _) (v := ?_) rfl (by kernel_rfl) (by kernel_rfl) (by kernel_rfl) (fun _ _ _ h => h) (Or.inl ⟨by rfl, ?_⟩) (by assumption) ?_
        rotate_left 1
        · (intro w hSw; (try dsimp only at hSw); go_simp; rw [if_neg (by omega)])
        try simp only [Act.put]
        refine wpAnyH_take (i := 20) (oi := _) (v := ?_) rfl (by kernel_rfl) (by kernel_rfl) (by kernel_rfl) (fun _ _ _ h => h) (Or.inl ⟨by rfl, ?_⟩) (by assumption) ?_
        rotate_left 1
        · (intro w hSw; (try dsimp only at hSw); go_simp; first | done | with_reducible rfl)
        try simp only [Act.put]
        refine wpAnyH_done (by kernel_rfl) ?_ _
        refine NoPanic.normal ?_
        go_wp2_with fail
        have hg8 := HG4.out _ g08
        have hg9 := grown_al (o := .cells #[.string ⟨(serI vn).toArray⟩, .string ⟨(serT s1).toArray⟩, .string ⟨(serL serI (List.take 20 l)).toArray⟩, .string ⟨(serL serT (cutL t)).toArray⟩] 9) g08
        exact ⟨inv_next (o := ⟨kd, vn, s1, VA, l1, lc, l.take 20, B2, t1, d2, cutL t⟩) hlt hg9 (HG4.out _ hg9) Hown4.out hSS Hser.out (HK4.out w4 gr4) HKs4.out, by simp [intOf]; omega⟩
      · have hser := ((kept_ser (HK4.out w4 gr4)).2.1) hk4
        simp only at hser
        rw [hser] at hlen1
        have Hser := Lib.hid hser
        have Hk4 := Lib.hid hk4
        clear hk4 hser
        go_wp2_with fail
        refine wp_region_noPanic ?_
        refine wp_region_held_drew (S := (fun w' => w'.cell? ⟨n1, 0, none⟩ = some (.int .u8 kd) ∧ w'.cell? ⟨n1, 1, none⟩ = some (.int .i64 vn) ∧ w'.cell? ⟨n1, 2, none⟩ = some (.string ⟨s1.toArray⟩) ∧ w'.cell? ⟨n1, 3, none⟩ = some (.slice VA l1 lc) ∧ w'.cell? ⟨n1, 4, none⟩ = some (.slice B2 t1 d2) ∧ w4.grownBy w' none)) (by kernel_rfl) ?_ (fun hHeld => ?_)
        · (try dsimp only); (go_split_ands; (first | (exact HS4.out _ (by assumption)) | (exact HS4.out _ (grown_dr (by assumption))) | (exact HS4.out _ (grown_al (by assumption))) | (exact HS4.out _ (grown_dr (grown_al (by assumption))))))
        refine wpAnyH_take (i := 0) (oi := _) (v := ?_) rfl (by kernel_rfl) (by kernel_rfl) (by kernel_rfl) (fun _ _ _ h => h) (Or.inl ⟨by rfl, ?_⟩) (by assumption) ?_
        rotate_left 1
        · (intro w hSw; (try dsimp only at hSw); go_simp; first | done | with_reducible rfl)
        try simp only [Act.put]
        refine wpAnyH_take (i := 1) (oi := _) (v := ?_) rfl (by kernel_rfl) (by kernel_rfl) (by kernel_rfl) (fun _ _ _ h => h) (Or.inl ⟨by rfl, ?_⟩) (by assumption) ?_
        rotate_left 1
        · (intro w hSw; (try dsimp only at hSw); go_simp; first | done | with_reducible rfl)
        try simp only [Act.put]
        refine wpAnyH_take (i := 2) (oi := _) (v := ?_) rfl (by kernel_rfl) (by kernel_rfl) (by kernel_rfl) (fun _ _ _ h => h) (Or.inl ⟨by rfl, ?_⟩) (by assumption) ?_
        rotate_left 1
        · (intro w hSw; (try dsimp only at hSw); go_simp; first | done | with_reducible rfl)
        try simp only [Act.put]
        refine wpAnyH_take (i := 4) (oi := _) (v := ?_) rfl (by kernel_rfl) (by kernel_rfl) (by kernel_rfl) (fun _ _ _ h => h) (Or.inl ⟨by rfl, ?_⟩) (by assumption) ?_
        rotate_left 1
        · (intro w hSw; (try dsimp only at hSw); go_simp; first | done | with_reducible rfl)
        try simp only [Act.put]
        refine wpAnyH_take (i := 5) (oi := _) (v := ?_) rfl (by kernel_rfl) (by kernel_rfl) (by kernel_rfl) (fun _ _ _ h => h) (Or.inl ⟨by rfl, ?_⟩) (by assumption) ?_
        rotate_left 1
        · (intro w hSw; (try dsimp only at hSw); go_simp; first | done | with_reducible rfl)
        try simp only [Act.put]
        refine wpAnyH_take (i := 7) (oi := _) (v := ?_) rfl (by kernel_rfl) (by kernel_rfl) (by kernel_rfl) (fun _ _ _ h => h) (Or.inl ⟨by rfl, ?_⟩) (by assumption) ?_
        rotate_left 1
        · (intro w hSw; (try dsimp only at hSw); go_simp; first | done | with_reducible rfl)
        try simp only [Act.put]
        refine wpAnyH_take (i := 8) (oi := _) (v := ?_) rfl (by kernel_rfl) (by kernel_rfl) (by kernel_rfl) (fun _ _ _ h => h) (Or.inl ⟨by rfl, ?_⟩) (by assumption) ?_
        rotate_left 1
        · (intro w hSw; (try dsimp only at hSw); go_simp; first | done | with_reducible rfl)
        try simp only [Act.put]
        refine wpAnyH_take (i := 10) (oi := _) (v := ?_) rfl (by kernel_rfl) (by kernel_rfl) (by kernel_rfl) (fun _ _ _ h => h) (Or.inl ⟨by rfl, ?_⟩) (by assumption) ?_
        rotate_left 1
        · (intro w hSw; (try dsimp only at hSw); go_simp; first | done | with_reducible rfl)
        try simp only [Act.put]
        refine wpAnyH_take (i := 11) (oi := _) (v := ?_) rfl (by kernel_rfl) (by kernel_rfl) (by kernel_rfl) (fun _ _ _ h => h) (Or.inl ⟨by rfl, ?_⟩) (by assumption) ?_
        rotate_left 1
        · (intro w hSw; (try dsimp only at hSw); go_simp; first | done | with_reducible rfl)
        try simp only [Act.put]
        refine wpAnyH_take (i := 14) (oi := _) (v := ?_) rfl (by kernel_rfl) (by kernel_rfl) (by kernel_rfl) (fun _ _ _ h => h) (Or.inl ⟨by rfl, ?_⟩) (by assumption) ?_
        rotate_left 1
        · (intro w hSw; (try dsimp only at hSw); go_simp; first | done | with_reducible rfl)
        try simp only [Act.put]
        refine wpAnyH_take (i := 15) (oi := _) (v := ?_) rfl (by kernel_rfl) (by kernel_rfl) (by kernel_rfl) (fun _ _ _ h => h) (Or.inl ⟨by rfl, ?_⟩) (by assumption) ?_
        rotate_left 1
        · (intro w hSw; (try dsimp only at hSw); go_simp; first | done | with_reducible rfl)
        try simp only [Act.put]
        refine wpAnyH_take (i := 16) (oi := _) (v := ?_) rfl (by kernel_rfl) (by kernel_rfl) (by kernel_rfl) (fun _ _ _ h => h) (Or.inl ⟨by rfl, ?_⟩) (by assumption) ?_
        rotate_left 1
        · (intro w hSw; (try dsimp only at hSw); go_simp; first | done | with_reducible rfl)
        try simp only [Act.put]
        refine wpAnyH_ready (rs := [3]) (by kernel_rfl) (by simp) ?_
        refine AllReadyH.cons (o := _) rfl (fun K hK => ?_) AllReadyH.nil
        go_simp
        go_split_ands
        refine (wInt vn (HK4.out _ (by assumption)).i _ (HB4.out _ (by assumption))).mono ?_
        rintro e w5 ⟨rfl, g5⟩
        have g05 := World.grownBy.trans (a := w4) (by assumption) g5
        first | (refine hK.out _ _ ?_ (fun hHeld => ?_)) | (go_wp2_with fail; refine hK.out _ _ ?_ (fun hHeld => ?_))
        · (try dsimp only); (go_split_ands; (first | (exact HS4.out _ (by assumption)) | (exact HS4.out _ (grown_dr (by assumption))) | (exact HS4.out _ (grown_al (by assumption))) | (exact HS4.out _ (grown_dr (grown_al (by assumption))))))
        clear hK K
        refine wpAnyH_ready (rs := [6]) (by kernel_rfl) (by simp) ?_
        refine AllReadyH.cons (o := _) rfl (fun K hK => ?_) AllReadyH.nil
        go_simp
        go_split_ands
        refine (kept_text (HK4.out _ (by assumption)) (HB4.out _ (by assumption))).mono ?_
        rintro e w6 ⟨rfl, g6⟩
        have g06 := World.grownBy.trans (a := w4) (by assumption) g6
        first | (refine hK.out _ _ ?_ (fun hHeld => ?_)) | (go_wp2_with fail; refine hK.out _ _ ?_ (fun hHeld => ?_))
        · (try dsimp only); (go_split_ands; (first | (exact HS4.out _ (by assumption)) | (exact HS4.out _ (grown_dr (by assumption))) | (exact HS4.out _ (grown_al (by assumption))) | (exact HS4.out _ (grown_dr (grown_al (by assumption))))))
        clear hK K
        refine wpAnyH_ready (rs := [9]) (by kernel_rfl) (by simp) ?_
        refine AllReadyH.cons (o := _) rfl (fun K hK => ?_) AllReadyH.nil
        go_simp
        go_split_ands
        refine (kept_ints (HK4.out _ (by assumption)) (HB4.out _ (by assumption)) (HG4.out _ (by assumption))).mono ?_
        rintro e w7 ⟨rfl, g7⟩
        have g07 := World.grownBy.trans (a := w4) (by assumption) g7
        first | (refine hK.out _ _ ?_ (fun hHeld => ?_)) | (go_wp2_with fail; refine hK.out _ _ ?_ (fun hHeld => ?_))
        · (try dsimp only); (go_split_ands; (first | (exact HS4.out _ (by assumption)) | (exact HS4.out _ (grown_dr (by assumption))) | (exact HS4.out _ (grown_al (by assumption))) | (exact HS4.out _ (grown_dr (grown_al (by assumption))))))
        clear hK K
        refine wpAnyH_ready (rs := [12]) (by kernel_rfl) (by simp) ?_
        refine AllReadyH.cons (o := _) rfl (fun K hK => ?_) AllReadyH.nil
        go_simp
        go_split_ands
        refine (kept_texts (HK4.out _ (by assumption)) (HB4.out _ (by assumption))).mono ?_
        rintro e w8 ⟨rfl, g8⟩
        have g08 := World.grownBy.trans (a := w4) (by assumption) g8
        first | (refine hK.out _ _ ?_ (fun hHeld => ?_)) | (go_wp2_with fail; refine hK.out _ _ ?_ (fun hHeld => ?_))
        · (try dsimp only); (go_split_ands; (first | (exact HS4.out _ (by assumption)) | (exact HS4.out _ (grown_dr (by assumption))) | (exact HS4.out _ (grown_al (by assumption))) | (exact HS4.out _ (grown_dr (grown_al (by assumption))))))
        clear hK K
        refine wpAnyH_ready (rs := [13]) (by kernel_rfl) (by simp) ?_
        refine AllReadyH.cons (o := _) rfl (fun K hK => ?_) AllReadyH.nil
        go_simp
        first | (refine hK.out _ _ ?_ (fun hHeld => ?_)) | (go_wp2_with fail; refine hK.out _ _ ?_ (fun hHeld => ?_))
        · (try dsimp only); (go_split_ands; (first | (exact HS4.out _ (by assumption)) | (exact HS4.out _ (grown_dr (by assumption))) | (exact HS4.out _ (grown_al (by assumption))) | (exact HS4.out _ (grown_dr (grown_al (by assumption))))))
        clear hK K
        refine wpAnyH_take (i := 17) (oi := _) (v := ?_) rfl (by kernel_rfl) (by kernel_rfl) (by kernel_rfl) (fun _ _ _ h => h) (Or.inl ⟨by rfl, ?_⟩) (by assumption) ?_
        rotate_left 1
        · (intro w hSw; (try dsimp only at hSw); go_simp; first | done | with_reducible rfl)
        try simp only [Act.put]
        refine wpAnyH_ready (rs := [18]) (by kernel_rfl) (by simp) ?_
        refine AllReadyH.cons (o := _) rfl (fun K hK => ?_) AllReadyH.nil
        go_simp
        first | (refine hK.out _ _ ?_ (fun hHeld => ?_)) | (go_wp2_with fail; refine hK.out _ _ ?_ (fun hHeld => ?_))
        · (try dsimp only); (go_split_ands; (first | (exact HS4.out _ (by assumption)) | (exact HS4.out _ (grown_dr (by assumption))) | (exact HS4.out _ (grown_al (by assumption))) | (exact HS4.out _ (grown_dr (grown_al (by assumption))))))
        clear hK K
        refine wpAnyH_take (i := 19) (oi := _) (v := ?_) rfl (by kernel_rfl) (by kernel_rfl) (by kernel_rfl) (fun _ _ _ h => h) (Or.inl ⟨by rfl, ?_⟩) (by assumption) ?_
        rotate_left 1
        · (intro w hSw; (try dsimp only at hSw); go_simp; rw [if_neg (by omega)])
        try simp only [Act.put]
        refine wpAnyH_take (i := 20) (oi := _) (v := ?_) rfl (by kernel_rfl) (by kernel_rfl) (by kernel_rfl) (fun _ _ _ h => h) (Or.inl ⟨by rfl, ?_⟩) (by assumption) ?_
        rotate_left 1
        · (intro w hSw; (try dsimp only at hSw); go_simp; first | done | with_reducible rfl)
        try simp only [Act.put]
        refine wpAnyH_done (by kernel_rfl) ?_ _
        refine NoPanic.normal ?_
        go_wp2_with fail
        have hg8 := HG4.out _ g08
        have hg9 := grown_al (o := .cells #[.string ⟨(serI vn).toArray⟩, .string ⟨(serT s1).toArray⟩, .string ⟨(serL serI (List.take 20 l)).toArray⟩, .string ⟨(serL serT (cutL t)).toArray⟩] 9) g08
        exact ⟨inv_next (o := ⟨kd, vn, s1, VA, l1, lc, l.take 20, B2, t1, d2, cutL t⟩) hlt hg9 (HG4.out _ hg9) Hown4.out hSS Hser.out (HK4.out w4 gr4) HKs4.out, by simp [intOf]; omega⟩
      · have hser := ((kept_ser (HK4.out w4 gr4)).2.2.1) hk4
        simp only at hser
        rw [hser] at hlen1
        have Hser := Lib.hid hser
        have Hk4 := Lib.hid hk4
        clear hk4 hser
        go_wp2_with fail
        refine wp_region_noPanic ?_
        refine wp_region_held_drew (S := (fun w' => w'.cell? ⟨n1, 0, none⟩ = some (.int .u8 kd) ∧ w'.cell? ⟨n1, 1, none⟩ = some (.int .i64 vn) ∧ w'.cell? ⟨n1, 2, none⟩ = some (.string ⟨s1.toArray⟩) ∧ w'.cell? ⟨n1, 3, none⟩ = some (.slice VA l1 lc) ∧ w'.cell? ⟨n1, 4, none⟩ = some (.slice B2 t1 d2) ∧ w4.grownBy w' none)) (by kernel_rfl) ?_ (fun hHeld => ?_)
        · (try dsimp only); (go_split_ands; (first | (exact HS4.out _ (by assumption)) | (exact HS4.out _ (grown_dr (by assumption))) | (exact HS4.out _ (grown_al (by assumption))) | (exact HS4.out _ (grown_dr (grown_al (by assumption))))))
        refine wpAnyH_take (i := 0) (oi := _) (v := ?_) rfl (by kernel_rfl) (by kernel_rfl) (by kernel_rfl) (fun _ _ _ h => h) (Or.inl ⟨by rfl, ?_⟩) (by assumption) ?_
        rotate_left 1
        · (intro w hSw; (try dsimp only at hSw); go_simp; first | done | with_reducible rfl)
        try simp only [Act.put]
        refine wpAnyH_take (i := 1) (oi := _) (v := ?_) rfl (by kernel_rfl) (by kernel_rfl) (by kernel_rfl) (fun _ _ _ h => h) (Or.inl ⟨by rfl, ?_⟩) (by assumption) ?_
        rotate_left 1
        · (intro w hSw; (try dsimp only at hSw); go_simp; first | done | with_reducible rfl)
        try simp only [Act.put]
        refine wpAnyH_take (i := 2) (oi := _) (v := ?_) rfl (by kernel_rfl) (by kernel_rfl) (by kernel_rfl) (fun _ _ _ h => h) (Or.inl ⟨by rfl, ?_⟩) (by assumption) ?_
        rotate_left 1
        · (intro w hSw; (try dsimp only at hSw); go_simp; first | done | with_reducible rfl)
        try simp only [Act.put]
        refine wpAnyH_take (i := 4) (oi := _) (v := ?_) rfl (by kernel_rfl) (by kernel_rfl) (by kernel_rfl) (fun _ _ _ h => h) (Or.inl ⟨by rfl, ?_⟩) (by assumption) ?_
        rotate_left 1
        · (intro w hSw; (try dsimp only at hSw); go_simp; first | done | with_reducible rfl)
        try simp only [Act.put]
        refine wpAnyH_take (i := 5) (oi := _) (v := ?_) rfl (by kernel_rfl) (by kernel_rfl) (by kernel_rfl) (fun _ _ _ h => h) (Or.inl ⟨by rfl, ?_⟩) (by assumption) ?_
        rotate_left 1
        · (intro w hSw; (try dsimp only at hSw); go_simp; first | done | with_reducible rfl)
        try simp only [Act.put]
        refine wpAnyH_take (i := 7) (oi := _) (v := ?_) rfl (by kernel_rfl) (by kernel_rfl) (by kernel_rfl) (fun _ _ _ h => h) (Or.inl ⟨by rfl, ?_⟩) (by assumption) ?_
        rotate_left 1
        · (intro w hSw; (try dsimp only at hSw); go_simp; first | done | with_reducible rfl)
        try simp only [Act.put]
        refine wpAnyH_take (i := 8) (oi := _) (v := ?_) rfl (by kernel_rfl) (by kernel_rfl) (by kernel_rfl) (fun _ _ _ h => h) (Or.inl ⟨by rfl, ?_⟩) (by assumption) ?_
        rotate_left 1
        · (intro w hSw; (try dsimp only at hSw); go_simp; first | done | with_reducible rfl)
        try simp only [Act.put]
        refine wpAnyH_take (i := 10) (oi := _) (v := ?_) rfl (by kernel_rfl) (by kernel_rfl) (by kernel_rfl) (fun _ _ _ h => h) (Or.inl ⟨by rfl, ?_⟩) (by assumption) ?_
        rotate_left 1
        · (intro w hSw; (try dsimp only at hSw); go_simp; first | done | with_reducible rfl)
        try simp only [Act.put]
        refine wpAnyH_take (i := 11) (oi := _) (v := ?_) rfl (by kernel_rfl) (by kernel_rfl) (by kernel_rfl) (fun _ _ _ h => h) (Or.inl ⟨by rfl, ?_⟩) (by assumption) ?_
        rotate_left 1
        · (intro w hSw; (try dsimp only at hSw); go_simp; first | done | with_reducible rfl)
        try simp only [Act.put]
        refine wpAnyH_take (i := 14) (oi := _) (v := ?_) rfl (by kernel_rfl) (by kernel_rfl) (by kernel_rfl) (fun _ _ _ h => h) (Or.inl ⟨by rfl, ?_⟩) (by assumption) ?_
        rotate_left 1
        · (intro w hSw; (try dsimp only at hSw); go_simp; first | done | with_reducible rfl)
        try simp only [Act.put]
        refine wpAnyH_take (i := 15) (oi := _) (v := ?_) rfl (by kernel_rfl) (by kernel_rfl) (by kernel_rfl) (fun _ _ _ h => h) (Or.inl ⟨by rfl, ?_⟩) (by assumption) ?_
        rotate_left 1
        · (intro w hSw; (try dsimp only at hSw); go_simp; first | done | with_reducible rfl)
        try simp only [Act.put]
        refine wpAnyH_take (i := 16) (oi := _) (v := ?_) rfl (by kernel_rfl) (by kernel_rfl) (by kernel_rfl) (fun _ _ _ h => h) (Or.inl ⟨by rfl, ?_⟩) (by assumption) ?_
        rotate_left 1
        · (intro w hSw; (try dsimp only at hSw); go_simp; first | done | with_reducible rfl)
        try simp only [Act.put]
        refine wpAnyH_ready (rs := [3]) (by kernel_rfl) (by simp) ?_
        refine AllReadyH.cons (o := _) rfl (fun K hK => ?_) AllReadyH.nil
        go_simp
        go_split_ands
        refine (wInt vn (HK4.out _ (by assumption)).i _ (HB4.out _ (by assumption))).mono ?_
        rintro e w5 ⟨rfl, g5⟩
        have g05 := World.grownBy.trans (a := w4) (by assumption) g5
        first | (refine hK.out _ _ ?_ (fun hHeld => ?_)) | (go_wp2_with fail; refine hK.out _ _ ?_ (fun hHeld => ?_))
        · (try dsimp only); (go_split_ands; (first | (exact HS4.out _ (by assumption)) | (exact HS4.out _ (grown_dr (by assumption))) | (exact HS4.out _ (grown_al (by assumption))) | (exact HS4.out _ (grown_dr (grown_al (by assumption))))))
        clear hK K
        refine wpAnyH_ready (rs := [6]) (by kernel_rfl) (by simp) ?_
        refine AllReadyH.cons (o := _) rfl (fun K hK => ?_) AllReadyH.nil
        go_simp
        go_split_ands
        refine (kept_text (HK4.out _ (by assumption)) (HB4.out _ (by assumption))).mono ?_
        rintro e w6 ⟨rfl, g6⟩
        have g06 := World.grownBy.trans (a := w4) (by assumption) g6
        first | (refine hK.out _ _ ?_ (fun hHeld => ?_)) | (go_wp2_with fail; refine hK.out _ _ ?_ (fun hHeld => ?_))
        · (try dsimp only); (go_split_ands; (first | (exact HS4.out _ (by assumption)) | (exact HS4.out _ (grown_dr (by assumption))) | (exact HS4.out _ (grown_al (by assumption))) | (exact HS4.out _ (grown_dr (grown_al (by assumption))))))
        clear hK K
        refine wpAnyH_ready (rs := [9]) (by kernel_rfl) (by simp) ?_
        refine AllReadyH.cons (o := _) rfl (fun K hK => ?_) AllReadyH.nil
        go_simp
        go_split_ands
        refine (kept_ints (HK4.out _ (by assumption)) (HB4.out _ (by assumption)) (HG4.out _ (by assumption))).mono ?_
        rintro e w7 ⟨rfl, g7⟩
        have g07 := World.grownBy.trans (a := w4) (by assumption) g7
        first | (refine hK.out _ _ ?_ (fun hHeld => ?_)) | (go_wp2_with fail; refine hK.out _ _ ?_ (fun hHeld => ?_))
        · (try dsimp only); (go_split_ands; (first | (exact HS4.out _ (by assumption)) | (exact HS4.out _ (grown_dr (by assumption))) | (exact HS4.out _ (grown_al (by assumption))) | (exact HS4.out _ (grown_dr (grown_al (by assumption))))))
        clear hK K
        refine wpAnyH_ready (rs := [12]) (by kernel_rfl) (by simp) ?_
        refine AllReadyH.cons (o := _) rfl (fun K hK => ?_) AllReadyH.nil
        go_simp
        go_split_ands
        refine (kept_texts (HK4.out _ (by assumption)) (HB4.out _ (by assumption))).mono ?_
        rintro e w8 ⟨rfl, g8⟩
        have g08 := World.grownBy.trans (a := w4) (by assumption) g8
        first | (refine hK.out _ _ ?_ (fun hHeld => ?_)) | (go_wp2_with fail; refine hK.out _ _ ?_ (fun hHeld => ?_))
        · (try dsimp only); (go_split_ands; (first | (exact HS4.out _ (by assumption)) | (exact HS4.out _ (grown_dr (by assumption))) | (exact HS4.out _ (grown_al (by assumption))) | (exact HS4.out _ (grown_dr (grown_al (by assumption))))))
        clear hK K
        refine wpAnyH_ready (rs := [13]) (by kernel_rfl) (by simp) ?_
        refine AllReadyH.cons (o := _) rfl (fun K hK => ?_) AllReadyH.nil
        go_simp
        first | (refine hK.out _ _ ?_ (fun hHeld => ?_)) | (go_wp2_with fail; refine hK.out _ _ ?_ (fun hHeld => ?_))
        · (try dsimp only); (go_split_ands; (first | (exact HS4.out _ (by assumption)) | (exact HS4.out _ (grown_dr (by assumption))) | (exact HS4.out _ (grown_al (by assumption))) | (exact HS4.out _ (grown_dr (grown_al (by assumption))))))
        clear hK K
        refine wpAnyH_take (i := 17) (oi := _) (v := ?_) rfl (by kernel_rfl) (by kernel_rfl) (by kernel_rfl) (fun _ _ _ h => h) (Or.inl ⟨by rfl, ?_⟩) (by assumption) ?_
        rotate_left 1
        · (intro w hSw; (try dsimp only at hSw); go_simp; first | done | with_reducible rfl)
        try simp only [Act.put]
        refine wpAnyH_ready (rs := [18]) (by kernel_rfl) (by simp) ?_
        refine AllReadyH.cons (o := _) rfl (fun K hK => ?_) AllReadyH.nil
        go_simp
        first | (refine hK.out _ _ ?_ (fun hHeld => ?_)) | (go_wp2_with fail; refine hK.out _ _ ?_ (fun hHeld => ?_))
        · (try dsimp only); (go_split_ands; (first | (exact HS4.out _ (by assumption)) | (exact HS4.out _ (grown_dr (by assumption))) | (exact HS4.out _ (grown_al (by assumption))) | (exact HS4.out _ (grown_dr (grown_al (by assumption))))))
        clear hK K
        refine wpAnyH_take (i := 19) (oi := _) (v := ?_) rfl (by kernel_rfl) (by kernel_rfl) (by kernel_rfl) (fun _ _ _ h => h) (Or.inl ⟨by rfl, ?_⟩) (by assumption) ?_
        rotate_left 1
        · (intro w hSw; (try dsimp only at hSw); go_simp; rw [if_neg (by omega)])
        try simp only [Act.put]
        refine wpAnyH_take (i := 20) (oi := _) (v := ?_) rfl (by kernel_rfl) (by kernel_rfl) (by kernel_rfl) (fun _ _ _ h => h) (Or.inl ⟨by rfl, ?_⟩) (by assumption) ?_
        rotate_left 1
        · (intro w hSw; (try dsimp only at hSw); go_simp; first | done | with_reducible rfl)
        try simp only [Act.put]
        refine wpAnyH_done (by kernel_rfl) ?_ _
        refine NoPanic.normal ?_
        go_wp2_with fail
        have hg8 := HG4.out _ g08
        have hg9 := grown_al (o := .cells #[.string ⟨(serI vn).toArray⟩, .string ⟨(serT s1).toArray⟩, .string ⟨(serL serI (List.take 20 l)).toArray⟩, .string ⟨(serL serT (cutL t)).toArray⟩] 9) g08
        exact ⟨inv_next (o := ⟨kd, vn, s1, VA, l1, lc, l.take 20, B2, t1, d2, cutL t⟩) hlt hg9 (HG4.out _ hg9) Hown4.out hSS Hser.out (HK4.out w4 gr4) HKs4.out, by simp [intOf]; omega⟩
      · have hser := ((kept_ser (HK4.out w4 gr4)).2.2.2) hk4
        simp only at hser
        rw [hser] at hlen1
        have Hser := Lib.hid hser
        have Hk4 := Lib.hid hk4
        clear hk4 hser
        go_wp2_with fail
        refine wp_region_noPanic ?_
        refine wp_region_held_drew (S := (fun w' => w'.cell? ⟨n1, 0, none⟩ = some (.int .u8 kd) ∧ w'.cell? ⟨n1, 1, none⟩ = some (.int .i64 vn) ∧ w'.cell? ⟨n1, 2, none⟩ = some (.string ⟨s1.toArray⟩) ∧ w'.cell? ⟨n1, 3, none⟩ = some (.slice VA l1 lc) ∧ w'.cell? ⟨n1, 4, none⟩ = some (.slice B2 t1 d2) ∧ w4.grownBy w' none)) (by kernel_rfl) ?_ (fun hHeld => ?_)
        · (try dsimp only); (go_split_ands; (first | (exact HS4.out _ (by assumption)) | (exact HS4.out _ (grown_dr (by assumption))) | (exact HS4.out _ (grown_al (by assumption))) | (exact HS4.out _ (grown_dr (grown_al (by assumption))))))
        refine wpAnyH_take (i := 0) (oi := _) (v := ?_) rfl (by kernel_rfl) (by kernel_rfl) (by kernel_rfl) (fun _ _ _ h => h) (Or.inl ⟨by rfl, ?_⟩) (by assumption) ?_
        rotate_left 1
        · (intro w hSw; (try dsimp only at hSw); go_simp; first | done | with_reducible rfl)
        try simp only [Act.put]
        refine wpAnyH_take (i := 1) (oi := _) (v := ?_) rfl (by kernel_rfl) (by kernel_rfl) (by kernel_rfl) (fun _ _ _ h => h) (Or.inl ⟨by rfl, ?_⟩) (by assumption) ?_
        rotate_left 1
        · (intro w hSw; (try dsimp only at hSw); go_simp; first | done | with_reducible rfl)
        try simp only [Act.put]
        refine wpAnyH_take (i := 2) (oi := _) (v := ?_) rfl (by kernel_rfl) (by kernel_rfl) (by kernel_rfl) (fun _ _ _ h => h) (Or.inl ⟨by rfl, ?_⟩) (by assumption) ?_
        rotate_left 1
        · (intro w hSw; (try dsimp only at hSw); go_simp; first | done | with_reducible rfl)
        try simp only [Act.put]
        refine wpAnyH_take (i := 4) (oi := _) (v := ?_) rfl (by kernel_rfl) (by kernel_rfl) (by kernel_rfl) (fun _ _ _ h => h) (Or.inl ⟨by rfl, ?_⟩) (by assumption) ?_
        rotate_left 1
        · (intro w hSw; (try dsimp only at hSw); go_simp; first | done | with_reducible rfl)
        try simp only [Act.put]
        refine wpAnyH_take (i := 5) (oi := _) (v := ?_) rfl (by kernel_rfl) (by kernel_rfl) (by kernel_rfl) (fun _ _ _ h => h) (Or.inl ⟨by rfl, ?_⟩) (by assumption) ?_
        rotate_left 1
        · (intro w hSw; (try dsimp only at hSw); go_simp; first | done | with_reducible rfl)
        try simp only [Act.put]
        refine wpAnyH_take (i := 7) (oi := _) (v := ?_) rfl (by kernel_rfl) (by kernel_rfl) (by kernel_rfl) (fun _ _ _ h => h) (Or.inl ⟨by rfl, ?_⟩) (by assumption) ?_
        rotate_left 1
        · (intro w hSw; (try dsimp only at hSw); go_simp; first | done | with_reducible rfl)
        try simp only [Act.put]
        refine wpAnyH_take (i := 8) (oi := _) (v := ?_) rfl (by kernel_rfl) (by kernel_rfl) (by kernel_rfl) (fun _ _ _ h => h) (Or.inl ⟨by rfl, ?_⟩) (by assumption) ?_
        rotate_left 1
        · (intro w hSw; (try dsimp only at hSw); go_simp; first | done | with_reducible rfl)
        try simp only [Act.put]
        refine wpAnyH_take (i := 10) (oi := _) (v := ?_) rfl (by kernel_rfl) (by kernel_rfl) (by kernel_rfl) (fun _ _ _ h => h) (Or.inl ⟨by rfl, ?_⟩) (by assumption) ?_
        rotate_left 1
        · (intro w hSw; (try dsimp only at hSw); go_simp; first | done | with_reducible rfl)
        try simp only [Act.put]
        refine wpAnyH_take (i := 11) (oi := _) (v := ?_) rfl (by kernel_rfl) (by kernel_rfl) (by kernel_rfl) (fun _ _ _ h => h) (Or.inl ⟨by rfl, ?_⟩) (by assumption) ?_
        rotate_left 1
        · (intro w hSw; (try dsimp only at hSw); go_simp; first | done | with_reducible rfl)
        try simp only [Act.put]
        refine wpAnyH_take (i := 14) (oi := _) (v := ?_) rfl (by kernel_rfl) (by kernel_rfl) (by kernel_rfl) (fun _ _ _ h => h) (Or.inl ⟨by rfl, ?_⟩) (by assumption) ?_
        rotate_left 1
        · (intro w hSw; (try dsimp only at hSw); go_simp; first | done | with_reducible rfl)
        try simp only [Act.put]
        refine wpAnyH_take (i := 15) (oi := _) (v := ?_) rfl (by kernel_rfl) (by kernel_rfl) (by kernel_rfl) (fun _ _ _ h => h) (Or.inl ⟨by rfl, ?_⟩) (by assumption) ?_
        rotate_left 1
        · (intro w hSw; (try dsimp only at hSw); go_simp; first | done | with_reducible rfl)
        try simp only [Act.put]
        refine wpAnyH_take (i := 16) (oi := _) (v := ?_) rfl (by kernel_rfl) (by kernel_rfl) (by kernel_rfl) (fun _ _ _ h => h) (Or.inl ⟨by rfl, ?_⟩) (by assumption) ?_
        rotate_left 1
        · (intro w hSw; (try dsimp only at hSw); go_simp; first | done | with_reducible rfl)
        try simp only [Act.put]
        refine wpAnyH_ready (rs := [3]) (by kernel_rfl) (by simp) ?_
        refine AllReadyH.cons (o := _) rfl (fun K hK => ?_) AllReadyH.nil
        go_simp
        go_split_ands
        refine (wInt vn (HK4.out _ (by assumption)).i _ (HB4.out _ (by assumption))).mono ?_
        rintro e w5 ⟨rfl, g5⟩
        have g05 := World.grownBy.trans (a := w4) (by assumption) g5
        first | (refine hK.out _ _ ?_ (fun hHeld => ?_)) | (go_wp2_with fail; refine hK.out _ _ ?_ (fun hHeld => ?_))
        · (try dsimp only); (go_split_ands; (first | (exact HS4.out _ (by assumption)) | (exact HS4.out _ (grown_dr (by assumption))) | (exact HS4.out _ (grown_al (by assumption))) | (exact HS4.out _ (grown_dr (grown_al (by assumption))))))
        clear hK K
        refine wpAnyH_ready (rs := [6]) (by kernel_rfl) (by simp) ?_
        refine AllReadyH.cons (o := _) rfl (fun K hK => ?_) AllReadyH.nil
        go_simp
        go_split_ands
        refine (kept_text (HK4.out _ (by assumption)) (HB4.out _ (by assumption))).mono ?_
        rintro e w6 ⟨rfl, g6⟩
        have g06 := World.grownBy.trans (a := w4) (by assumption) g6
        first | (refine hK.out _ _ ?_ (fun hHeld => ?_)) | (go_wp2_with fail; refine hK.out _ _ ?_ (fun hHeld => ?_))
        · (try dsimp only); (go_split_ands; (first | (exact HS4.out _ (by assumption)) | (exact HS4.out _ (grown_dr (by assumption))) | (exact HS4.out _ (grown_al (by assumption))) | (exact HS4.out _ (grown_dr (grown_al (by assumption))))))
        clear hK K
        refine wpAnyH_ready (rs := [9]) (by kernel_rfl) (by simp) ?_
        refine AllReadyH.cons (o := _) rfl (fun K hK => ?_) AllReadyH.nil
        go_simp
        go_split_ands
        refine (kept_ints (HK4.out _ (by assumption)) (HB4.out _ (by assumption)) (HG4.out _ (by assumption))).mono ?_
        rintro e w7 ⟨rfl, g7⟩
        have g07 := World.grownBy.trans (a := w4) (by assumption) g7
        first | (refine hK.out _ _ ?_ (fun hHeld => ?_)) | (go_wp2_with fail; refine hK.out _ _ ?_ (fun hHeld => ?_))
        · (try dsimp only); (go_split_ands; (first | (exact HS4.out _ (by assumption)) | (exact HS4.out _ (grown_dr (by assumption))) | (exact HS4.out _ (grown_al (by assumption))) | (exact HS4.out _ (grown_dr (grown_al (by assumption))))))
        clear hK K
        refine wpAnyH_ready (rs := [12]) (by kernel_rfl) (by simp) ?_
        refine AllReadyH.cons (o := _) rfl (fun K hK => ?_) AllReadyH.nil
        go_simp
        go_split_ands
        refine (kept_texts (HK4.out _ (by assumption)) (HB4.out _ (by assumption))).mono ?_
        rintro e w8 ⟨rfl, g8⟩
        have g08 := World.grownBy.trans (a := w4) (by assumption) g8
        first | (refine hK.out _ _ ?_ (fun hHeld => ?_)) | (go_wp2_with fail; refine hK.out _ _ ?_ (fun hHeld => ?_))
        · (try dsimp only); (go_split_ands; (first | (exact HS4.out _ (by assumption)) | (exact HS4.out _ (grown_dr (by assumption))) | (exact HS4.out _ (grown_al (by assumption))) | (exact HS4.out _ (grown_dr (grown_al (by assumption))))))
        clear hK K
        refine wpAnyH_ready (rs := [13]) (by kernel_rfl) (by simp) ?_
        refine AllReadyH.cons (o := _) rfl (fun K hK => ?_) AllReadyH.nil
        go_simp
        first | (refine hK.out _ _ ?_ (fun hHeld => ?_)) | (go_wp2_with fail; refine hK.out _ _ ?_ (fun hHeld => ?_))
        · (try dsimp only); (go_split_ands; (first | (exact HS4.out _ (by assumption)) | (exact HS4.out _ (grown_dr (by assumption))) | (exact HS4.out _ (grown_al (by assumption))) | (exact HS4.out _ (grown_dr (grown_al (by assumption))))))
        clear hK K
        refine wpAnyH_take (i := 17) (oi := _) (v := ?_) rfl (by kernel_rfl) (by kernel_rfl) (by kernel_rfl) (fun _ _ _ h => h) (Or.inl ⟨by rfl, ?_⟩) (by assumption) ?_
        rotate_left 1
        · (intro w hSw; (try dsimp only at hSw); go_simp; first | done | with_reducible rfl)
        try simp only [Act.put]
        refine wpAnyH_ready (rs := [18]) (by kernel_rfl) (by simp) ?_
        refine AllReadyH.cons (o := _) rfl (fun K hK => ?_) AllReadyH.nil
        go_simp
        first | (refine hK.out _ _ ?_ (fun hHeld => ?_)) | (go_wp2_with fail; refine hK.out _ _ ?_ (fun hHeld => ?_))
        · (try dsimp only); (go_split_ands; (first | (exact HS4.out _ (by assumption)) | (exact HS4.out _ (grown_dr (by assumption))) | (exact HS4.out _ (grown_al (by assumption))) | (exact HS4.out _ (grown_dr (grown_al (by assumption))))))
        clear hK K
        refine wpAnyH_take (i := 19) (oi := _) (v := ?_) rfl (by kernel_rfl) (by kernel_rfl) (by kernel_rfl) (fun _ _ _ h => h) (Or.inl ⟨by rfl, ?_⟩) (by assumption) ?_
        rotate_left 1
        · (intro w hSw; (try dsimp only at hSw); go_simp; rw [if_neg (by omega)])
        try simp only [Act.put]
        refine wpAnyH_take (i := 20) (oi := _) (v := ?_) rfl (by kernel_rfl) (by kernel_rfl) (by kernel_rfl) (fun _ _ _ h => h) (Or.inl ⟨by rfl, ?_⟩) (by assumption) ?_
        rotate_left 1
        · (intro w hSw; (try dsimp only at hSw); go_simp; first | done | with_reducible rfl)
        try simp only [Act.put]
        refine wpAnyH_done (by kernel_rfl) ?_ _
        refine NoPanic.normal ?_
        go_wp2_with fail
        have hg8 := HG4.out _ g08
        have hg9 := grown_al (o := .cells #[.string ⟨(serI vn).toArray⟩, .string ⟨(serT s1).toArray⟩, .string ⟨(serL serI (List.take 20 l)).toArray⟩, .string ⟨(serL serT (cutL t)).toArray⟩] 9) g08
        exact ⟨inv_next (o := ⟨kd, vn, s1, VA, l1, lc, l.take 20, B2, t1, d2, cutL t⟩) hlt hg9 (HG4.out _ hg9) Hown4.out hSS Hser.out (HK4.out w4 gr4) HKs4.out, by simp [intOf]; omega⟩
    · have hlen0 := kept_len hkept hg hos hM8
      obtain ⟨A5, c5, rfl⟩ := slice5 hown
      have Hos := Lib.hid hos
      have Hown := Lib.hid hown
      have Hkept := Lib.hid hkept
      have Hg := Lib.hid hg
      have b8 : os.length ≤ 8 := by omega
      clear hos hown hkept hg
      go_wp2_with fail
      refine (new_k _ _).mono ?_
      rintro e w1 ⟨rfl, r1, g1, l1⟩
      go_wp2_with fail
      refine (Left_k _ _ _ r1).mono ?_
      rintro e w' ⟨rfl, rfl⟩
      go_wp2_with fail
      have hwn : w0.heap.size ≤ wr.heap.size := Hg.out.size
      generalize hbn : wr.heap.size = bn at *
      have hb6' : 6 ≤ bn := by omega
      have Hgn := Lib.hid (fun (w' : World) (g : w1.grownBy w' (some bn)) => (Hg.out.trans g1).andThen g (fun j hj => .inl (by injection hj with hj; omega)))
      have HBn := Lib.hid (fun (w' : World) (g : w1.grownBy w' (some bn)) => HB.out w' (Hgn.out w' g))
      have HR : Hid (∀ w', w1.grownBy w' (some bn) → ∀ k o, os[k]? = some o → ∃ g, A5 = some ⟨g, 0, none⟩ ∧ RowAt w' ⟨g, k * 5, none⟩ o) := Lib.hid (fun w' g k o hk => by
        obtain ⟨g5, cap, e, h1, h2, h3⟩ := own_rows Hown.out k o hk
        injection e with e1 e2 e3
        have gw := below_reader g1 g (by omega)
        exact ⟨g5, e1, h3.kept gw h2⟩)
      go_loopw [81] (fun i wq => ∃ k : Nat, k ≤ os.length ∧ i = .int .i64 k ∧ Rd wq bn (some ((os.drop k).flatMap Val.ser)) ∧ w1.grownBy wq (some bn)) (fun i _ => os.length - (intOf i).toNat)
      case atStart => exact ⟨0, Nat.zero_le _, rfl, by simpa using r1, World.grownBy.refl _ _⟩
      case round =>
        obtain ⟨k, hk, rfl, hr, hg⟩ := hrel
        by_cases hlt : k < os.length
        · obtain ⟨o, ho⟩ : ∃ o, os[k]? = some o := ⟨_, List.getElem?_eq_getElem hlt⟩
          obtain ⟨g5, rfl, hrow⟩ := HR.out _ hg k o ho
          have hko := Hkept.out o (List.mem_of_getElem? ho)
          have hdr := flat_drop os k o ho
          have hlD := kept_len (os := os.drop k) (fun o ho => Hkept.out o (List.mem_of_mem_drop ho)) Hg.out (M := M) (by have := Hos.out; simp; omega) hM8
          rw [hdr] at hr hlD
          clear hdr ho
          generalize hR : (os.drop (k + 1)).flatMap Val.ser = R at *
          have HRd := Lib.hid hR
          clear hR
          obtain ⟨kd, vn, s, VA, ln, lc, l, VB, tn, tc, t⟩ := o
          obtain ⟨c0, c1, c2, c3, c4⟩ := hrow
          simp only at c0 c1 c2 c3 c4
          have q1 := hko.k
          simp only at q1
          have hsr := kept_ser hko
          simp only at hsr
          have Hko := Lib.hid hko
          have Hgw := Lib.hid hg
          have Hr := Lib.hid hr
          have hkc := kind_cases kd
          clear hko hg hr
          rcases hkc with ⟨k1, k2, hk4⟩ | ⟨k1, k2, hk4⟩ | ⟨k1, k2, hk4⟩ | ⟨k1, k2, hk4⟩
          · have hser := hsr.1 hk4
            clear hsr hk4
            have Hr := Hr.out
            rw [hser] at Hr hlD
            have Hr := Lib.hid Hr
            go_wp2_with fail
            obtain ⟨wx, hwx⟩ : ∃ wx, wr.alloc (.cells #[.int .u8 kd, .int .i64 vn, .string ⟨s.toArray⟩, .slice VA ln lc, .slice VB tn tc] 45) = wx := ⟨_, rfl⟩
            have gx : wr.grownBy wx none := by rw [← hwx]; exact World.grownBy_alloc _ _ _
            have hb3 : wx.heap[wr.heap.size]? = some (.cells #[.int .u8 kd, .int .i64 vn, .string ⟨s.toArray⟩, .slice VA ln lc, .slice VB tn tc] 45 (0, 0)) := by rw [← hwx]; exact heap_alloc_new _ _
            rw [hwx]
            have lx := (Array.getElem?_eq_some_iff.1 hb3).1
            have lb : bn < wr.heap.size := Nat.lt_of_lt_of_le l1 Hgw.out.size
            clear hwx c0 c1 c2 c3 c4
            generalize wr.heap.size = nb at *
            have HRx := Lib.hid (fun w' (g : wx.grownBy w' none) => rd_kept Hr.out (gx.trans g))
            have HGx := Lib.hid (fun w' (g : wx.grownBy w' (some bn)) => Hgw.out.trans ((grown_any gx (some bn)).trans g))
            have HBx := Lib.hid (fun w' (g : wx.grownBy w' (some bn)) => HBn.out w' (HGx.out w' g))
            have HS : Hid (∀ w', wx.grownBy w' (some bn) → w'.cell? ⟨nb, 1, none⟩ = some (.int .i64 vn) ∧ wx.grownBy w' (some bn)) := by
              refine Lib.hid (fun w' g => ⟨?_, g⟩)
              have hblk := (g.block nb lx (by intro e; injection e with e; omega)).trans hb3
              simp [World.cell?, hblk]
            have g0 : wx.grownBy wx none := World.grownBy.refl _ _
            have gb : wx.grownBy wx (some bn) := World.grownBy.refl _ _
            clear hb3 gx
            refine wp_region_noPanic ?_
            refine wp_region_held_drew (S := (fun w' => w'.cell? ⟨nb, 1, none⟩ = some (.int .i64 vn) ∧ wx.grownBy w' (some bn))) (by kernel_rfl) ?_ (fun hHeld => ?_)
            · (try dsimp only); (go_split_ands; (first | (exact HS.out _ (by assumption)) | (exact HS.out _ (grown_drr (by assumption)))))
            refine wpAnyH_take (i := 0) (oi := _) (v := ?_) rfl (by kernel_rfl) (by kernel_rfl) (by kernel_rfl) (fun _ _ _ h => h) (Or.inl ⟨by rfl, ?_⟩) (by assumption) ?_
            rotate_left 1
            · (intro w hSw; (try dsimp only at hSw); go_simp; first | done | with_reducible rfl)
            try simp only [Act.put]
            refine wpAnyH_take (i := 2) (oi := _) (v := ?_) rfl (by kernel_rfl) (by kernel_rfl) (by kernel_rfl) (fun _ _ _ h => h) (Or.inl ⟨by rfl, ?_⟩) (by assumption) ?_
            rotate_left 1
            · (intro w hSw; (try dsimp only at hSw); go_simp; first | done | with_reducible rfl)
            try simp only [Act.put]
            refine wpAnyH_take (i := 3) (oi := _) (v := ?_) rfl (by kernel_rfl) (by kernel_rfl) (by kernel_rfl) (fun _ _ _ h => h) (Or.inl ⟨by rfl, ?_⟩) (by assumption) ?_
            rotate_left 1
            · (intro w hSw; (try dsimp only at hSw); go_simp; first | done | with_reducible rfl)
            try simp only [Act.put]
            refine wpAnyH_ready (rs := [1]) (by kernel_rfl) (by simp) ?_
            refine AllReadyH.cons (o := _) rfl (fun K hK => ?_) AllReadyH.nil
            go_simp
            go_split_ands
            refine (rd_int Hko.out.i (HBx.out _ (grown_any (by first | exact g0 | exact grown_dr g0) _)) (HRx.out _ (by first | exact g0 | exact grown_dr g0)) (Nat.le_trans hlD (by decide))).mono ?_
            rintro e w2 ⟨rfl, r2, g2⟩
            have gg2 : wx.grownBy w2 (some bn) := (grown_any (by first | exact g0 | exact grown_dr g0) _).trans g2
            first | (refine hK.out _ _ ?_ (fun hHeld => ?_)) | (go_wp2_with fail; refine hK.out _ _ ?_ (fun hHeld => ?_))
            · (try dsimp only); (go_split_ands; (first | (exact HS.out _ (by assumption)) | (exact HS.out _ (grown_drr (by assumption)))))
            clear hK K
            refine wpAnyH_take (i := 4) (oi := _) (v := ?_) rfl (by kernel_rfl) (by kernel_rfl) (by kernel_rfl) (fun _ _ _ h => h) (Or.inl ⟨by rfl, ?_⟩) (by assumption) ?_
            rotate_left 1
            · (intro w hSw; (try dsimp only at hSw); go_simp; first | done | with_reducible rfl)
            try simp only [Act.put]
            refine wpAnyH_take (i := 5) (oi := _) (v := ?_) rfl (by kernel_rfl) (by kernel_rfl) (by kernel_rfl) (fun _ _ _ h => h) (Or.inl ⟨by rfl, ?_⟩) (by assumption) ?_
            rotate_left 1
            · (intro w hSw; (try dsimp only at hSw); go_simp; first | done | with_reducible rfl)
            try simp only [Act.put]
            refine wpAnyH_done (by kernel_rfl) ?_ _
            refine NoPanic.normal ?_
            go_wp2_with fail
            refine (Bad_k _ _ _ r2).mono ?_
            rintro e w' ⟨rfl, rfl⟩
            go_wp2_with fail
            exact ⟨⟨k + 1, by omega, by go_num, by rw [HRd.out]; exact r2, HGx.out _ (by assumption)⟩, by simp [intOf]; omega⟩
          · have hser := hsr.2.1 hk4
            clear hsr hk4
            have Hr := Hr.out
            rw [hser] at Hr hlD
            have Hr := Lib.hid Hr
            go_wp2_with fail
            obtain ⟨wx, hwx⟩ : ∃ wx, wr.alloc (.cells #[.int .u8 kd, .int .i64 vn, .string ⟨s.toArray⟩, .slice VA ln lc, .slice VB tn tc] 45) = wx := ⟨_, rfl⟩
            have gx : wr.grownBy wx none := by rw [← hwx]; exact World.grownBy_alloc _ _ _
            have hb3 : wx.heap[wr.heap.size]? = some (.cells #[.int .u8 kd, .int .i64 vn, .string ⟨s.toArray⟩, .slice VA ln lc, .slice VB tn tc] 45 (0, 0)) := by rw [← hwx]; exact heap_alloc_new _ _
            rw [hwx]
            have lx := (Array.getElem?_eq_some_iff.1 hb3).1
            have lb : bn < wr.heap.size := Nat.lt_of_lt_of_le l1 Hgw.out.size
            clear hwx c0 c1 c2 c3 c4
            generalize wr.heap.size = nb at *
            have HRx := Lib.hid (fun w' (g : wx.grownBy w' none) => rd_kept Hr.out (gx.trans g))
            have HGx := Lib.hid (fun w' (g : wx.grownBy w' (some bn)) => Hgw.out.trans ((grown_any gx (some bn)).trans g))
            have HBx := Lib.hid (fun w' (g : wx.grownBy w' (some bn)) => HBn.out w' (HGx.out w' g))
            have HS : Hid (∀ w', wx.grownBy w' (some bn) → w'.cell? ⟨nb, 2, none⟩ = some (.string ⟨s.toArray⟩) ∧ wx.grownBy w' (some bn)) := by
              refine Lib.hid (fun w' g => ⟨?_, g⟩)
              have hblk := (g.block nb lx (by intro e; injection e with e; omega)).trans hb3
              simp [World.cell?, hblk]
            have g0 : wx.grownBy wx none := World.grownBy.refl _ _
            have gb : wx.grownBy wx (some bn) := World.grownBy.refl _ _
            clear hb3 gx
            refine wp_region_noPanic ?_
            refine wp_region_held_drew (S := (fun w' => w'.cell? ⟨nb, 2, none⟩ = some (.string ⟨s.toArray⟩) ∧ wx.grownBy w' (some bn))) (by kernel_rfl) ?_ (fun hHeld => ?_)
            · (try dsimp only); (go_split_ands; (first | (exact HS.out _ (by assumption)) | (exact HS.out _ (grown_drr (by assumption)))))
            refine wpAnyH_take (i := 0) (oi := _) (v := ?_) rfl (by kernel_rfl) (by kernel_rfl) (by kernel_rfl) (fun _ _ _ h => h) (Or.inl ⟨by rfl, ?_⟩) (by assumption) ?_
            rotate_left 1
            · (intro w hSw; (try dsimp only at hSw); go_simp; first | done | with_reducible rfl)
            try simp only [Act.put]
            refine wpAnyH_take (i := 2) (oi := _) (v := ?_) rfl (by kernel_rfl) (by kernel_rfl) (by kernel_rfl) (fun _ _ _ h => h) (Or.inl ⟨by rfl, ?_⟩) (by assumption) ?_
            rotate_left 1
            · (intro w hSw; (try dsimp only at hSw); go_simp; first | done | with_reducible rfl)
            try simp only [Act.put]
            refine wpAnyH_take (i := 3) (oi := _) (v := ?_) rfl (by kernel_rfl) (by kernel_rfl) (by kernel_rfl) (fun _ _ _ h => h) (Or.inl ⟨by rfl, ?_⟩) (by assumption) ?_
            rotate_left 1
            · (intro w hSw; (try dsimp only at hSw); go_simp; first | done | with_reducible rfl)
            try simp only [Act.put]
            refine wpAnyH_ready (rs := [1]) (by kernel_rfl) (by simp) ?_
            refine AllReadyH.cons (o := _) rfl (fun K hK => ?_) AllReadyH.nil
            go_simp
            go_split_ands
            refine (rd_text (w_text Hko.out) (HBx.out _ (grown_any (by first | exact g0 | exact grown_dr g0) _)) (HRx.out _ (by first | exact g0 | exact grown_dr g0)) (Nat.le_trans hlD (by decide))).mono ?_
            rintro e w2 ⟨rfl, r2, g2⟩
            have gg2 : wx.grownBy w2 (some bn) := (grown_any (by first | exact g0 | exact grown_dr g0) _).trans g2
            first | (refine hK.out _ _ ?_ (fun hHeld => ?_)) | (go_wp2_with fail; refine hK.out _ _ ?_ (fun hHeld => ?_))
            · (try dsimp only); (go_split_ands; (first | (exact HS.out _ (by assumption)) | (exact HS.out _ (grown_drr (by assumption)))))
            clear hK K
            refine wpAnyH_take (i := 4) (oi := _) (v := ?_) rfl (by kernel_rfl) (by kernel_rfl) (by kernel_rfl) (fun _ _ _ h => h) (Or.inl ⟨by rfl, ?_⟩) (by assumption) ?_
            rotate_left 1
            · (intro w hSw; (try dsimp only at hSw); go_simp; first | done | with_reducible rfl)
            try simp only [Act.put]
            refine wpAnyH_take (i := 5) (oi := _) (v := ?_) rfl (by kernel_rfl) (by kernel_rfl) (by kernel_rfl) (fun _ _ _ h => h) (Or.inl ⟨by rfl, ?_⟩) (by assumption) ?_
            rotate_left 1
            · (intro w hSw; (try dsimp only at hSw); go_simp; first | done | with_reducible rfl)
            try simp only [Act.put]
            refine wpAnyH_done (by kernel_rfl) ?_ _
            refine NoPanic.normal ?_
            go_wp2_with fail
            refine (Bad_k _ _ _ r2).mono ?_
            rintro e w' ⟨rfl, rfl⟩
            go_wp2_with fail
            exact ⟨⟨k + 1, by omega, by go_num, by rw [HRd.out]; exact r2, HGx.out _ (by assumption)⟩, by simp [intOf]; omega⟩
          · have hser := hsr.2.2.1 hk4
            clear hsr hk4
            have Hr := Hr.out
            rw [hser] at Hr hlD
            have Hr := Lib.hid Hr
            go_wp2_with fail
            obtain ⟨wx, hwx⟩ : ∃ wx, wr.alloc (.cells #[.int .u8 kd, .int .i64 vn, .string ⟨s.toArray⟩, .slice VA ln lc, .slice VB tn tc] 45) = wx := ⟨_, rfl⟩
            have gx : wr.grownBy wx none := by rw [← hwx]; exact World.grownBy_alloc _ _ _
            have hb3 : wx.heap[wr.heap.size]? = some (.cells #[.int .u8 kd, .int .i64 vn, .string ⟨s.toArray⟩, .slice VA ln lc, .slice VB tn tc] 45 (0, 0)) := by rw [← hwx]; exact heap_alloc_new _ _
            rw [hwx]
            have lx := (Array.getElem?_eq_some_iff.1 hb3).1
            have lb : bn < wr.heap.size := Nat.lt_of_lt_of_le l1 Hgw.out.size
            clear hwx c0 c1 c2 c3 c4
            generalize wr.heap.size = nb at *
            have HRx := Lib.hid (fun w' (g : wx.grownBy w' none) => rd_kept Hr.out (gx.trans g))
            have HGx := Lib.hid (fun w' (g : wx.grownBy w' (some bn)) => Hgw.out.trans ((grown_any gx (some bn)).trans g))
            have HBx := Lib.hid (fun w' (g : wx.grownBy w' (some bn)) => HBn.out w' (HGx.out w' g))
            have HS : Hid (∀ w', wx.grownBy w' (some bn) → w'.cell? ⟨nb, 3, none⟩ = some (.slice VA ln lc) ∧ wx.grownBy w' (some bn)) := by
              refine Lib.hid (fun w' g => ⟨?_, g⟩)
              have hblk := (g.block nb lx (by intro e; injection e with e; omega)).trans hb3
              simp [World.cell?, hblk]
            have g0 : wx.grownBy wx none := World.grownBy.refl _ _
            have gb : wx.grownBy wx (some bn) := World.grownBy.refl _ _
            clear hb3 gx
            refine wp_region_noPanic ?_
            refine wp_region_held_drew (S := (fun w' => w'.cell? ⟨nb, 3, none⟩ = some (.slice VA ln lc) ∧ wx.grownBy w' (some bn))) (by kernel_rfl) ?_ (fun hHeld => ?_)
            · (try dsimp only); (go_split_ands; (first | (exact HS.out _ (by assumption)) | (exact HS.out _ (grown_drr (by assumption)))))
            refine wpAnyH_take (i := 0) (oi := _) (v := ?_) rfl (by kernel_rfl) (by kernel_rfl) (by kernel_rfl) (fun _ _ _ h => h) (Or.inl ⟨by rfl, ?_⟩) (by assumption) ?_
            rotate_left 1
            · (intro w hSw; (try dsimp only at hSw); go_simp; first | done | with_reducible rfl)
            try simp only [Act.put]
            refine wpAnyH_take (i := 2) (oi := _) (v := ?_) rfl (by kernel_rfl) (by kernel_rfl) (by kernel_rfl) (fun _ _ _ h => h) (Or.inl ⟨by rfl, ?_⟩) (by assumption) ?_
            rotate_left 1
            · (intro w hSw; (try dsimp only at hSw); go_simp; first | done | with_reducible rfl)
            try simp only [Act.put]
            refine wpAnyH_take (i := 3) (oi := _) (v := ?_) rfl (by kernel_rfl) (by kernel_rfl) (by kernel_rfl) (fun _ _ _ h => h) (Or.inl ⟨by rfl, ?_⟩) (by assumption) ?_
            rotate_left 1
            · (intro w hSw; (try dsimp only at hSw); go_simp; first | done | with_reducible rfl)
            try simp only [Act.put]
            refine wpAnyH_ready (rs := [1]) (by kernel_rfl) (by simp) ?_
            refine AllReadyH.cons (o := _) rfl (fun K hK => ?_) AllReadyH.nil
            go_simp
            go_split_ands
            refine (rd_ints Hko.out.li hb6' (HBx.out _ (grown_any (by first | exact g0 | exact grown_dr g0) _)) (HRx.out _ (by first | exact g0 | exact grown_dr g0)) (Nat.le_trans hlD (by decide))).mono ?_
            rintro e w2 ⟨A2, c2, rfl, o2, r2, g2⟩
            have gg2 : wx.grownBy w2 (some bn) := (grown_any (by first | exact g0 | exact grown_dr g0) _).trans g2
            first | (refine hK.out _ _ ?_ (fun hHeld => ?_)) | (go_wp2_with fail; refine hK.out _ _ ?_ (fun hHeld => ?_))
            · (try dsimp only); (go_split_ands; (first | (exact HS.out _ (by assumption)) | (exact HS.out _ (grown_drr (by assumption)))))
            clear hK K
            refine wpAnyH_ready (rs := [4]) (by kernel_rfl) (by simp) ?_
            refine AllReadyH.cons (o := _) rfl (fun K hK => ?_) AllReadyH.nil
            go_simp
            go_split_ands
            refine (same_kept Hko.out o2 hbn Hg.out g1 (HGx.out _ gg2)).mono ?_
            rintro e w3 ⟨rfl, g3⟩
            have r3 := rd_kept r2 g3
            have gg3 : wx.grownBy w3 (some bn) := gg2.trans (grown_any g3 _)
            first | (refine hK.out _ _ ?_ (fun hHeld => ?_)) | (go_wp2_with fail; refine hK.out _ _ ?_ (fun hHeld => ?_))
            · (try dsimp only); (go_split_ands; (first | (exact HS.out _ (by assumption)) | (exact HS.out _ (grown_drr (by assumption)))))
            clear hK K
            refine wpAnyH_take (i := 5) (oi := _) (v := ?_) rfl (by kernel_rfl) (by kernel_rfl) (by kernel_rfl) (fun _ _ _ h => h) (Or.inl ⟨by rfl, ?_⟩) (by assumption) ?_
            rotate_left 1
            · (intro w hSw; (try dsimp only at hSw); go_simp; first | done | with_reducible rfl)
            try simp only [Act.put]
            refine wpAnyH_done (by kernel_rfl) ?_ _
            refine NoPanic.normal ?_
            go_wp2_with fail
            refine (Bad_k _ _ _ r3).mono ?_
            rintro e w' ⟨rfl, rfl⟩
            go_wp2_with fail
            exact ⟨⟨k + 1, by omega, by go_num, by rw [HRd.out]; exact r3, HGx.out _ (by assumption)⟩, by simp [intOf]; omega⟩
          · have hser := hsr.2.2.2 hk4
            clear hsr hk4
            have Hr := Hr.out
            rw [hser] at Hr hlD
            have Hr := Lib.hid Hr
            go_wp2_with fail
            obtain ⟨wx, hwx⟩ : ∃ wx, wr.alloc (.cells #[.int .u8 kd, .int .i64 vn, .string ⟨s.toArray⟩, .slice VA ln lc, .slice VB tn tc] 45) = wx := ⟨_, rfl⟩
            have gx : wr.grownBy wx none := by rw [← hwx]; exact World.grownBy_alloc _ _ _
            have hb3 : wx.heap[wr.heap.size]? = some (.cells #[.int .u8 kd, .int .i64 vn, .string ⟨s.toArray⟩, .slice VA ln lc, .slice VB tn tc] 45 (0, 0)) := by rw [← hwx]; exact heap_alloc_new _ _
            rw [hwx]
            have lx := (Array.getElem?_eq_some_iff.1 hb3).1
            have lb : bn < wr.heap.size := Nat.lt_of_lt_of_le l1 Hgw.out.size
            clear hwx c0 c1 c2 c3 c4
            generalize wr.heap.size = nb at *
            have HRx := Lib.hid (fun w' (g : wx.grownBy w' none) => rd_kept Hr.out (gx.trans g))
            have HGx := Lib.hid (fun w' (g : wx.grownBy w' (some bn)) => Hgw.out.trans ((grown_any gx (some bn)).trans g))
            have HBx := Lib.hid (fun w' (g : wx.grownBy w' (some bn)) => HBn.out w' (HGx.out w' g))
            have HS : Hid (∀ w', wx.grownBy w' (some bn) → w'.cell? ⟨nb, 4, none⟩ = some (.slice VB tn tc) ∧ wx.grownBy w' (some bn)) := by
              refine Lib.hid (fun w' g => ⟨?_, g⟩)
              have hblk := (g.block nb lx (by intro e; injection e with e; omega)).trans hb3
              simp [World.cell?, hblk]
            have g0 : wx.grownBy wx none := World.grownBy.refl _ _
            have gb : wx.grownBy wx (some bn) := World.grownBy.refl _ _
            clear hb3 gx
            refine wp_region_noPanic ?_
            refine wp_region_held_drew (S := (fun w' => w'.cell? ⟨nb, 4, none⟩ = some (.slice VB tn tc) ∧ wx.grownBy w' (some bn))) (by kernel_rfl) ?_ (fun hHeld => ?_)
            · (try dsimp only); (go_split_ands; (first | (exact HS.out _ (by assumption)) | (exact HS.out _ (grown_drr (by assumption)))))
            refine wpAnyH_take (i := 0) (oi := _) (v := ?_) rfl (by kernel_rfl) (by kernel_rfl) (by kernel_rfl) (fun _ _ _ h => h) (Or.inl ⟨by rfl, ?_⟩) (by assumption) ?_
            rotate_left 1
            · (intro w hSw; (try dsimp only at hSw); go_simp; first | done | with_reducible rfl)
            try simp only [Act.put]
            refine wpAnyH_take (i := 2) (oi := _) (v := ?_) rfl (by kernel_rfl) (by kernel_rfl) (by kernel_rfl) (fun _ _ _ h => h) (Or.inl ⟨by rfl, ?_⟩) (by assumption) ?_
            rotate_left 1
            · (intro w hSw; (try dsimp only at hSw); go_simp; first | done | with_reducible rfl)
            try simp only [Act.put]
            refine wpAnyH_take (i := 3) (oi := _) (v := ?_) rfl (by kernel_rfl) (by kernel_rfl) (by kernel_rfl) (fun _ _ _ h => h) (Or.inl ⟨by rfl, ?_⟩) (by assumption) ?_
            rotate_left 1
            · (intro w hSw; (try dsimp only at hSw); go_simp; first | done | with_reducible rfl)
            try simp only [Act.put]
            refine wpAnyH_ready (rs := [1]) (by kernel_rfl) (by simp) ?_
            refine AllReadyH.cons (o := _) rfl (fun K hK => ?_) AllReadyH.nil
            go_simp
            go_split_ands
            refine (rd_texts (w_texts Hko.out) hb6' (HBx.out _ (grown_any (by first | exact g0 | exact grown_dr g0) _)) (HRx.out _ (by first | exact g0 | exact grown_dr g0)) (Nat.le_trans hlD (by decide))).mono ?_
            rintro e w2 ⟨A2, c2, rfl, o2, r2, g2⟩
            have gg2 : wx.grownBy w2 (some bn) := (grown_any (by first | exact g0 | exact grown_dr g0) _).trans g2
            first | (refine hK.out _ _ ?_ (fun hHeld => ?_)) | (go_wp2_with fail; refine hK.out _ _ ?_ (fun hHeld => ?_))
            · (try dsimp only); (go_split_ands; (first | (exact HS.out _ (by assumption)) | (exact HS.out _ (grown_drr (by assumption)))))
            clear hK K
            refine wpAnyH_ready (rs := [4]) (by kernel_rfl) (by simp) ?_
            refine AllReadyH.cons (o := _) rfl (fun K hK => ?_) AllReadyH.nil
            go_simp
            go_split_ands
            refine (tsame_kept Hko.out o2 hbn Hg.out g1 (HGx.out _ gg2)).mono ?_
            rintro e w3 ⟨rfl, g3⟩
            have r3 := rd_kept r2 g3
            have gg3 : wx.grownBy w3 (some bn) := gg2.trans (grown_any g3 _)
            first | (refine hK.out _ _ ?_ (fun hHeld => ?_)) | (go_wp2_with fail; refine hK.out _ _ ?_ (fun hHeld => ?_))
            · (try dsimp only); (go_split_ands; (first | (exact HS.out _ (by assumption)) | (exact HS.out _ (grown_drr (by assumption)))))
            clear hK K
            refine wpAnyH_take (i := 5) (oi := _) (v := ?_) rfl (by kernel_rfl) (by kernel_rfl) (by kernel_rfl) (fun _ _ _ h => h) (Or.inl ⟨by rfl, ?_⟩) (by assumption) ?_
            rotate_left 1
            · (intro w hSw; (try dsimp only at hSw); go_simp; first | done | with_reducible rfl)
            try simp only [Act.put]
            refine wpAnyH_done (by kernel_rfl) ?_ _
            refine NoPanic.normal ?_
            go_wp2_with fail
            refine (Bad_k _ _ _ r3).mono ?_
            rintro e w' ⟨rfl, rfl⟩
            go_wp2_with fail
            exact ⟨⟨k + 1, by omega, by go_num, by rw [HRd.out]; exact r3, HGx.out _ (by assumption)⟩, by simp [intOf]; omega⟩
        · obtain rfl : k = os.length := by omega
          rw [List.drop_length] at hr
          go_wp2_with fail
          refine (Left_k _ _ _ hr).mono ?_
          rintro e w' ⟨rfl, rfl⟩
          go_wp2_with fail
          go_ret
          exact ⟨rfl, gw0.out.trans (Hgn.out _ hg)⟩
end Go.Proofs.YtmohcanfkcopiaaDoor
