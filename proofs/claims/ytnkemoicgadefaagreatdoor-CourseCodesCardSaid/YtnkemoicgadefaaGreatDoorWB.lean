/-
  The reference's decimal, Int, Text, by their contracts.
  The reference's Ints and Texts, by their contracts.
  What the reference's number computes.
  The reference's reader: its cells; New, Left, Bad, fail and byte, by their contracts.
  The reference's number, by its contract.
  The reference's readers of an integer and of a string, by their contracts.
  The reference's readers of lists, by their contracts.
-/
import Derived.Test.YtnkemoicgadefaaGreatDoorWA
import Derived.Deep.LoopGhost
import Derived.Deep.QuietTactic
import Derived.BigQuiet
namespace Go.Proofs.YtnkemoicgadefaaGreatDoor.Wire
open Go.RowKit
attribute [local go_sem] get_mk extract_mk

def DecSaid (n : Int) : Prop := ∀ w, Calls Tryz.prog 71 #[.int .i64 n] w fun e w' => e = .returned (.string ⟨(Lib.itoa n).toArray⟩) ∧ w.grownBy w' none

theorem dig_conv (n : Int) (w : World) : (convert 56 9 (.slice (some ⟨w.heap.size, 0, none⟩) 1 1)).run Tryz.prog (w.alloc (.cells #[.int .u8 (48 + n)] 5)) = .ok (.string (strOfNums [48 + n])) (w.alloc (.cells #[.int .u8 (48 + n)] 5)) := by
  refine run_convert_bytes_arg _ 56 5 Tryz.underlying56 Tryz.underlying5 w.heap.size 0 1 1 [48 + n] rfl ?_ 9 Tryz.underlying9
  intro i hi
  obtain rfl : i = 0 := by omega
  simp
set_option maxHeartbeats 400000 in
theorem dec_one (n : Int) (h0 : 0 ≤ n) (h1 : n < 10) : DecSaid n := by
  intro w
  have hc := dig_conv n w
  have hs : strOfNums [48 + n] = ⟨(Lib.itoa n).toArray⟩ := by
    obtain ⟨u, rfl⟩ : ∃ u : Nat, n = u := ⟨n.toNat, by omega⟩
    rw [itoa_pos' (by omega), dec_small (by omega)]
    simp only [strOfNums, List.map]
    congr 3
  go_enter Tryz.func71, Tryz.ntmps71
  go_wp2_with fail
  go_ret
  exact ⟨rfl, ⟨rfl, rfl, rfl, Nat.le_of_lt (by rw [World.size_alloc]; omega), fun i hi _ => by rw [World.alloc, Array.getElem?_push]; simp only [Nat.ne_of_lt hi, if_false]⟩⟩
set_option maxHeartbeats 400000 in
theorem dec_pos (n : Int) (h0 : 10 ≤ n) (h1 : I64 n) (hr : DecSaid (n / 10)) (hl : DecSaid (n % 10)) : DecSaid n := by
  intro w
  have he : Lib.itoa n = Lib.itoa (n / 10) ++ Lib.itoa (n % 10) := by
    rw [itoa_pos' (by omega), itoa_pos' (by omega), itoa_pos' (by omega), dec_big (by omega), dec_small (u := (n % 10).toNat) (by omega)]
    congr 2
    · congr 1; omega
    · congr 2; omega
  have l1 : (Lib.itoa (n / 10)).length ≤ 20 := itoa_len ⟨by omega, by have := h1.2; omega⟩
  have l2 : (Lib.itoa (n % 10)).length ≤ 20 := itoa_len ⟨by omega, by omega⟩
  have He := Lib.hid he
  have Hr := Lib.hid hr
  have Hl := Lib.hid hl
  have hi1 : (0 : Int) ≤ n := by omega
  have hi2 := h1.2
  have d1 : ¬ n < 10 := by omega
  have d2 : ¬ n < 0 := by omega
  clear hr hl he
  go_enter Tryz.func71, Tryz.ntmps71
  go_wp2_with fail
  refine (Hr.out w).mono ?_
  rintro e w1 ⟨rfl, g1⟩
  go_wp2_with fail
  refine (Hl.out w1).mono ?_
  rintro e w2 ⟨rfl, g2⟩
  go_wp2_with fail
  go_ret
  exact ⟨ret_str (by rw [He.out, str_app]), g1.trans g2⟩
set_option maxHeartbeats 400000 in
theorem dec_neg (n a b : Int) (h0 : n < 0) (ha : wrap64 (n.tdiv 10) = a) (hb : wrap64 (-n.tmod 10) = b) (hne : (a == 0) = false) (l1 : (Lib.itoa a).length ≤ 20) (l2 : (Lib.itoa b).length ≤ 20)
    (he : Lib.itoa n = Lib.itoa a ++ Lib.itoa b) (hr : DecSaid a) (hl : DecSaid b) : DecSaid n := by
  intro w
  have He := Lib.hid he
  have Hr := Lib.hid hr
  have Hl := Lib.hid hl
  have d1 : ¬ 0 ≤ n := by omega
  clear hr hl he
  go_enter Tryz.func71, Tryz.ntmps71
  go_wp2_with fail
  refine (Hr.out w).mono ?_
  rintro e w1 ⟨rfl, g1⟩
  go_wp2_with fail
  refine (Hl.out w1).mono ?_
  rintro e w2 ⟨rfl, g2⟩
  go_wp2_with fail
  go_ret
  exact ⟨ret_str (by rw [He.out, str_app]), g1.trans g2⟩
set_option maxHeartbeats 400000 in
theorem dec_mone (n b : Int) (h0 : n < 0) (ha : wrap64 (n.tdiv 10) = 0) (hb : wrap64 (-n.tmod 10) = b) (l2 : (Lib.itoa b).length ≤ 20)
    (he : Lib.itoa n = 45 :: Lib.itoa b) (hl : DecSaid b) : DecSaid n := by
  intro w
  have He := Lib.hid he
  have Hl := Lib.hid hl
  have d1 : ¬ 0 ≤ n := by omega
  clear hl he
  go_enter Tryz.func71, Tryz.ntmps71
  go_wp2_with fail
  refine (Hl.out w).mono ?_
  rintro e w2 ⟨rfl, g2⟩
  go_wp2_with fail
  go_ret
  exact ⟨ret_str (by rw [He.out]; exact str_app [45] _), g2⟩

theorem dec_all : ∀ (m : Nat) (n : Int), n.natAbs ≤ m → I64 n → DecSaid n := by
  intro m
  induction m with
  | zero => intro n h _; exact dec_one n (by omega) (by omega)
  | succ m ih =>
    intro n h h64
    obtain ⟨lo, hi⟩ := h64
    by_cases h0 : 0 ≤ n
    · by_cases h1 : n < 10
      · exact dec_one n h0 h1
      · exact dec_pos n (by omega) ⟨lo, hi⟩ (ih _ (by omega) ⟨by omega, by omega⟩) (ih _ (by omega) ⟨by omega, by omega⟩)
    · obtain ⟨u, hu⟩ : ∃ u : Nat, n = -(u : Int) := ⟨n.natAbs, by omega⟩
      have e1 : n.tdiv 10 = -((u / 10 : Nat) : Int) := by rw [hu, Int.neg_tdiv]; rfl
      have e2 : n.tmod 10 = -((u % 10 : Nat) : Int) := by rw [hu, Int.neg_tmod]; rfl
      have hb : wrap64 (-n.tmod 10) = ((u % 10 : Nat) : Int) := by rw [e2]; unfold wrap64; omega
      have db : DecSaid ((u % 10 : Nat) : Int) := dec_one _ (by omega) (by omega)
      have lb : (Lib.itoa ((u % 10 : Nat) : Int)).length ≤ 20 := itoa_len ⟨by omega, by omega⟩
      have ib : Lib.itoa ((u % 10 : Nat) : Int) = [UInt8.ofNat (48 + u % 10)] := by rw [itoa_pos' (by omega), dec_small (by omega)]; rfl
      have inn : Lib.itoa n = 45 :: Lib.decDigits u := by rw [itoa_neg' (by omega)]; congr 2; omega
      by_cases h1 : u < 10
      · refine dec_mone n _ (by omega) (by rw [e1]; unfold wrap64; omega) hb lb ?_ db
        rw [inn, ib, dec_small h1]
        congr 3
        omega
      · refine dec_neg n (-((u / 10 : Nat) : Int)) _ (by omega) (by rw [e1]; unfold wrap64; omega) hb (by rw [beq_eq_false_iff_ne]; omega) (itoa_len ⟨by omega, by omega⟩) lb ?_ (ih _ (by omega) ⟨by omega, by omega⟩) db
        rw [inn, ib, itoa_neg' (by omega), dec_big h1, List.cons_append]
        congr 3
        omega
theorem dec_k (n : Int) (h : I64 n) : DecSaid n := dec_all n.natAbs n (Nat.le_refl _) h

set_option maxHeartbeats 400000 in
/-- quadriviumref01.Int -/
theorem rInt (n : Int) (h : I64 n) (w : World) :
    Calls Tryz.prog 35 #[.int .i64 n] w fun e w' => e = .returned (.string ⟨(serI n).toArray⟩) ∧ w.grownBy w' none := by
  have hl := itoa_len h
  have hl' : ¬ 9223372036854775807 < (Lib.itoa n).length + 1 := by omega
  go_enter Tryz.func35, Tryz.ntmps35
  go_wp2_with (go_at_call 71; refine (dec_k n h w).mono ?_; rintro e w' ⟨rfl, hg⟩)
  go_ret
  exact ⟨ret_str (str_app _ [59]), hg⟩
set_option maxHeartbeats 400000 in
/-- quadriviumref01.Text -/
theorem rText (l : List UInt8) (hl : l.length ≤ 4611686018427387904) (w : World) :
    Calls Tryz.prog 36 #[.string ⟨l.toArray⟩] w fun e w' => e = .returned (.string ⟨(serT l).toArray⟩) ∧ w.grownBy w' none := by
  have hi : I64 (l.length : Int) := ⟨by omega, by omega⟩
  have hk := itoa_len hi
  go_enter Tryz.func36, Tryz.ntmps36
  go_wp2_with (go_at_call 71; refine (dec_k _ hi w).mono ?_; rintro e w' ⟨rfl, hg⟩)
  go_ret
  exact ⟨ret_str (by rw [str_app _ [58], str_app, serT, List.append_assoc]; rfl), hg⟩
end Go.Proofs.YtnkemoicgadefaaGreatDoor.Wire
namespace Go.Proofs.YtnkemoicgadefaaGreatDoor.Wire
open Go.RowKit
attribute [local go_sem] get_mk extract_mk

def RILoop (w : World) (l : List Int) (s i : Value) (wr : World) : Prop :=
  ∃ k : Nat, k ≤ l.length ∧ i = .int .i64 k ∧ s = .string ⟨(91 :: (l.take k).flatMap serI).toArray⟩ ∧ w.grownBy wr none

set_option maxRecDepth 100000 in
set_option maxHeartbeats 1000000 in
theorem rInts (A : Option Addr) (c n : Nat) (l : List Int) (w : World) (hn : n = l.length) (hi : ∀ x ∈ l, I64 x) (hs : (l.flatMap serI).length < 1000000) (hm : n ≤ 1000000)
    (hA : 0 < n → ∃ ad, A = some ad ∧ ad.block < w.heap.size ∧ ∀ j x, l[j]? = some x → w.cell? (ad.add j) = some (.int .i64 x)) :
    Calls Tryz.prog 37 #[.slice A n c] w fun e w' => e = .returned (.string ⟨(serL serI l).toArray⟩) ∧ w.grownBy w' none := by
  have hn' := Lib.hid hn
  have hle : n ≤ l.length := by omega
  have hge : l.length ≤ n := by omega
  clear hn
  go_enter Tryz.func37, Tryz.ntmps37
  go_wp2_with fail
  go_loopg [3, 4] (n + 1) (fun g s i wr => (∃ k : Nat, i = .int .i64 k ∧ g = n + 1 - k) ∧ RILoop w l s i wr)
  case atStart => exact ⟨⟨0, rfl, rfl⟩, 0, by omega, rfl, rfl, World.grownBy.refl _ _⟩
  case round =>
    obtain ⟨⟨k0, hk0, hgk⟩, k, hk, rfl, rfl, hg⟩ := hrel
    obtain rfl : k0 = k := by injection hk0 with _ e; omega
    have Hgk := Lib.hid hgk
    clear hgk hk0
    have hfl := flat_take_le serI l k0
    obtain ⟨p, hp⟩ : ∃ p, (l.take k0).flatMap serI = p := ⟨_, rfl⟩
    rw [hp] at hfl ⊢
    have Hp := Lib.hid hp
    clear hp
    by_cases hlt : k0 < n
    · obtain ⟨ad, rfl, hab, hcell⟩ := hA (by omega)
      obtain ⟨x, hx⟩ : ∃ x, l[k0]? = some x := ⟨_, List.getElem?_eq_getElem (by omega)⟩
      have hcx := ((below_of_grown hg).cell (p := ad.add k0) (by rw [add_block]; exact hab)).trans (hcell k0 x hx)
      have hix := hi x (List.mem_of_getElem? hx)
      have hxm := List.mem_of_getElem? hx
      have hx' := Lib.hid hx
      have hsl : (serI x).length ≤ (l.flatMap serI).length := by
        have h1 := take_one l k0 x hx
        have h2 := flat_take_le serI l (k0 + 1)
        rw [h1, List.flatMap_append, List.length_append] at h2
        simp only [List.flatMap_cons, List.flatMap_nil, List.append_nil] at h2
        omega
      clear hcell hx
      have hi1 : (k0 : Int) < (n : Int) := by omega
      have hno : ¬ 9223372036854775807 < p.length + 1 + (serI x).length := by omega
      clear hA hs hfl hi hxm
      have H := Lib.hid (rInt x hix wr)
      clear hix
      go_wp2_with (go_at_call 35; refine H.out.mono ?_; rintro e w1 ⟨rfl, hg1⟩)
      go_roundg (n - k0)
      case measure => have := Hgk.out; omega
      case rel =>
        refine ⟨⟨k0 + 1, by go_num, by omega⟩, k0 + 1, by omega, by go_num, ?_, hg.trans hg1⟩
        rw [take_one l k0 x hx'.out, List.flatMap_append, Hp.out, str_app]
        simp
    · have he : p = l.flatMap serI := by
        have := Hp.out
        rw [List.take_of_length_le (by omega)] at this
        exact this.symm
      have He := Lib.hid he
      clear he hA hi Hp
      have hno : ¬ 9223372036854775807 < p.length + 1 + 1 := by omega
      go_wp2_with fail
      go_ret
      exact ⟨ret_str (by rw [He.out, show ByteArray.mk #[93] = ⟨[93].toArray⟩ from rfl, str_app]; rfl), hg⟩

def RTLoop (w : World) (l : List (List UInt8)) (s i : Value) (wr : World) : Prop :=
  ∃ k : Nat, k ≤ l.length ∧ i = .int .i64 k ∧ s = .string ⟨(91 :: (l.take k).flatMap serT).toArray⟩ ∧ w.grownBy wr none

set_option maxRecDepth 100000 in
set_option maxHeartbeats 1000000 in
theorem rTexts (A : Option Addr) (c n : Nat) (l : List (List UInt8)) (w : World) (hn : n = l.length) (hi : ∀ x ∈ l, x.length ≤ 1000000) (hs : (l.flatMap serT).length < 1000000) (hm : n ≤ 1000000)
    (hA : 0 < n → ∃ ad, A = some ad ∧ ad.block < w.heap.size ∧ ∀ j x, l[j]? = some x → w.cell? (ad.add j) = some (.string ⟨x.toArray⟩)) :
    Calls Tryz.prog 38 #[.slice A n c] w fun e w' => e = .returned (.string ⟨(serL serT l).toArray⟩) ∧ w.grownBy w' none := by
  have hn' := Lib.hid hn
  have hle : n ≤ l.length := by omega
  have hge : l.length ≤ n := by omega
  clear hn
  go_enter Tryz.func38, Tryz.ntmps38
  go_wp2_with fail
  go_loopg [3, 4] (n + 1) (fun g s i wr => (∃ k : Nat, i = .int .i64 k ∧ g = n + 1 - k) ∧ RTLoop w l s i wr)
  case atStart => exact ⟨⟨0, rfl, rfl⟩, 0, by omega, rfl, rfl, World.grownBy.refl _ _⟩
  case round =>
    obtain ⟨⟨k0, hk0, hgk⟩, k, hk, rfl, rfl, hg⟩ := hrel
    obtain rfl : k0 = k := by injection hk0 with _ e; omega
    have Hgk := Lib.hid hgk
    clear hgk hk0
    have hfl := flat_take_le serT l k0
    obtain ⟨p, hp⟩ : ∃ p, (l.take k0).flatMap serT = p := ⟨_, rfl⟩
    rw [hp] at hfl ⊢
    have Hp := Lib.hid hp
    clear hp
    by_cases hlt : k0 < n
    · obtain ⟨ad, rfl, hab, hcell⟩ := hA (by omega)
      obtain ⟨x, hx⟩ : ∃ x, l[k0]? = some x := ⟨_, List.getElem?_eq_getElem (by omega)⟩
      have hcx := ((below_of_grown hg).cell (p := ad.add k0) (by rw [add_block]; exact hab)).trans (hcell k0 x hx)
      have hix := hi x (List.mem_of_getElem? hx)
      have hxm := List.mem_of_getElem? hx
      have hx' := Lib.hid hx
      have hsl : (serT x).length ≤ (l.flatMap serT).length := by
        have h1 := take_one l k0 x hx
        have h2 := flat_take_le serT l (k0 + 1)
        rw [h1, List.flatMap_append, List.length_append] at h2
        simp only [List.flatMap_cons, List.flatMap_nil, List.append_nil] at h2
        omega
      clear hcell hx
      have hi1 : (k0 : Int) < (n : Int) := by omega
      have hno : ¬ 9223372036854775807 < p.length + 1 + (serT x).length := by omega
      clear hA hs hfl hi hxm
      have H := Lib.hid (rText x (Nat.le_trans hix (by decide)) wr)
      clear hix
      go_wp2_with (go_at_call 36; refine H.out.mono ?_; rintro e w1 ⟨rfl, hg1⟩)
      go_roundg (n - k0)
      case measure => have := Hgk.out; omega
      case rel =>
        refine ⟨⟨k0 + 1, by go_num, by omega⟩, k0 + 1, by omega, by go_num, ?_, hg.trans hg1⟩
        rw [take_one l k0 x hx'.out, List.flatMap_append, Hp.out, str_app]
        simp
    · have he : p = l.flatMap serT := by
        have := Hp.out
        rw [List.take_of_length_le (by omega)] at this
        exact this.symm
      have He := Lib.hid he
      clear he hA hi Hp
      have hno : ¬ 9223372036854775807 < p.length + 1 + 1 := by omega
      go_wp2_with fail
      go_ret
      exact ⟨ret_str (by rw [He.out, show ByteArray.mk #[93] = ⟨[93].toArray⟩ from rfl, str_app]; rfl), hg⟩
end Go.Proofs.YtnkemoicgadefaaGreatDoor.Wire
namespace Go.Proofs.YtnkemoicgadefaaGreatDoor.Wire
open Go.Lib

def dval (l : List UInt8) : Nat := l.foldl (fun a c => 10 * a + (c.toNat - 48)) 0
theorem dval_snoc (l : List UInt8) (c : UInt8) : dval (l ++ [c]) = 10 * dval l + (c.toNat - 48) := by
  unfold dval; rw [List.foldl_append]; rfl
theorem fold_le : ∀ (l : List UInt8) (a : Nat), a ≤ l.foldl (fun a c => 10 * a + (c.toNat - 48)) a := by
  intro l
  induction l with
  | nil => intro a; exact Nat.le_refl _
  | cons c l ih => intro a; exact Nat.le_trans (show a ≤ 10 * a + (c.toNat - 48) by omega) (ih _)
theorem dval_le (l m : List UInt8) : dval l ≤ dval (l ++ m) := by
  unfold dval; rw [List.foldl_append]; exact fold_le _ _
theorem dval_take_le (l : List UInt8) (k : Nat) : dval (l.take k) ≤ dval l := by
  have h := dval_le (l.take k) (l.drop k)
  rwa [List.take_append_drop] at h
theorem dval_dec (u : Nat) : dval (decDigits u) = u := by
  induction u using Nat.strongRecOn with
  | _ u ih =>
    by_cases h : u < 10
    · rw [dec_small h]
      show 10 * 0 + ((UInt8.ofNat (48 + u)).toNat - 48) = u
      rw [ofNat_digit h]; omega
    · rw [dec_big h, dval_snoc, ih _ (by omega), ofNat_digit (by omega)]; omega

/-- what a form is: its sign and its digits -/
theorem form_pos {m : Int} {f : List UInt8} (h : itoa m = f) (h45 : f.head? ≠ some 45) : 0 ≤ m ∧ f = decDigits m.toNat := by
  by_cases hm : m < 0
  · rw [itoa_neg' hm] at h; subst h; simp at h45
  · rw [itoa_pos' hm] at h; exact ⟨by omega, h.symm⟩
theorem form_neg {m : Int} {d : List UInt8} (h : itoa m = 45 :: d) : m < 0 ∧ d = decDigits m.natAbs := by
  by_cases hm : m < 0
  · rw [itoa_neg' hm] at h; injection h with _ h; exact ⟨hm, h.symm⟩
  · rw [itoa_pos' hm] at h
    obtain ⟨c, r, hc, h1, h2⟩ := dec_head m.toNat
    rw [hc] at h
    injection h with h _
    subst h
    exact absurd h1 (by decide)

/-- sign and digits, at once -/
structure Form (f ds : List UInt8) (ng : Bool) : Prop where
  parts : f = (if ng then [45] else []) ++ ds
  head : ng = false → ds.head? ≠ some 45
theorem form_of (f : List UInt8) : ∃ ds ng, Form f ds ng := by
  match f with
  | [] => exact ⟨[], false, rfl, by simp⟩
  | c :: r =>
    by_cases h : c = 45
    · subst h; exact ⟨r, true, rfl, by simp⟩
    · exact ⟨c :: r, false, rfl, by simpa using h⟩
theorem form_itoa {f ds : List UInt8} {ng : Bool} (hf : Form f ds ng) {m : Int} (h : itoa m = f) : ds = decDigits m.natAbs ∧ m = (if ng then -(m.natAbs : Int) else m.natAbs) := by
  obtain ⟨hp, hh⟩ := hf
  cases ng with
  | true =>
    rw [hp] at h
    obtain ⟨h1, h2⟩ := form_neg (d := ds) h
    exact ⟨h2, by simp; omega⟩
  | false =>
    obtain rfl : f = ds := by simpa using hp
    obtain ⟨h1, h2⟩ := form_pos h (hh rfl)
    exact ⟨by rw [h2]; congr 1; omega, by simp; omega⟩

/-- the number is no form, if a byte is no digit -/
theorem no_digit {f ds : List UInt8} {ng : Bool} (hf : Form f ds ng) {k : Nat} {c : UInt8} (hk : ds[k]? = some c) (hc : ¬ (48 ≤ c.toNat ∧ c.toNat ≤ 57)) (m : Int) : itoa m ≠ f := by
  intro h
  have h1 := (form_itoa hf h).1
  exact hc (dec_digits m.natAbs c (by rw [← h1]; exact List.mem_of_getElem? hk))
/-- .. or if it is too large -/
theorem no_large {f ds : List UInt8} {ng : Bool} (hf : Form f ds ng) {k : Nat} (hk : 9223372036854775808 < dval (ds.take k)) (m : Int) (hm : I64 m) : itoa m ≠ f := by
  intro h
  have h1 := (form_itoa hf h).1
  have h2 := dval_take_le ds k
  have h3 := dval_dec m.natAbs
  rw [← h1] at h3
  have := hm.1
  have := hm.2
  omega
theorem form_val {f ds : List UInt8} {ng : Bool} (hf : Form f ds ng) {m : Int} (h : itoa m = f) : m = (if ng then -(dval ds : Int) else dval ds) := by
  obtain ⟨h1, h2⟩ := form_itoa hf h
  have h3 := dval_dec m.natAbs
  rw [← h1] at h3
  rw [h3]
  exact h2

/-- the number of a cut input -/
theorem numP_cut {c : UInt8} (hc : 58 ≤ c.toNat) {f t : List UInt8} (_ : c ∉ f) (n : Int) (h64 : I64 n) (h : itoa n = f) : numP c (f ++ c :: t) = some (n, t) :=
  (numP_iff hc _ _ _).2 ⟨h64, by rw [h]⟩
theorem numP_not {c : UInt8} (hc : 58 ≤ c.toNat) {f t : List UInt8} (hf : c ∉ f) (h : ∀ n, I64 n → itoa n ≠ f) : numP c (f ++ c :: t) = none := by
  cases hn : numP c (f ++ c :: t) with
  | none => rfl
  | some r =>
    obtain ⟨n, t'⟩ := r
    obtain ⟨h1, h2⟩ := (numP_iff hc _ _ _).1 hn
    have e1 := (cutAt_iff c _ f t).2 ⟨rfl, hf⟩
    have e2 := (cutAt_iff c _ (itoa n) t').2 ⟨h2, itoa_no hc⟩
    rw [e1] at e2
    injection e2 with e2
    injection e2 with e2 _
    exact absurd e2.symm (h n h1)
theorem numP_far {c : UInt8} (hc : 58 ≤ c.toNat) {l : List UInt8} (h : c ∉ l.take 21) : numP c l = none := by
  cases hn : numP c l with
  | none => rfl
  | some r =>
    obtain ⟨n, t'⟩ := r
    obtain ⟨h1, h2⟩ := (numP_iff hc _ _ _).1 hn
    have := itoa_len h1
    exfalso
    apply h
    rw [h2, List.take_append]
    apply List.mem_append_right
    obtain ⟨k, hk⟩ : ∃ k, 21 - (itoa n).length = k + 1 := ⟨20 - (itoa n).length, by omega⟩
    rw [hk]
    simp
end Go.Proofs.YtnkemoicgadefaaGreatDoor.Wire
namespace Go.Proofs.YtnkemoicgadefaaGreatDoor.Wire
open Go.RowKit
attribute [local go_sem] get_mk extract_mk

theorem grown_any {w w' : World} (g : w.grownBy w' none) (row : Option Nat) : w.grownBy w' row := ⟨g.os, g.tape, g.output, g.size, fun i hi _ => g.block i hi (by simp)⟩

/-- what the reference's reader of s holds -/
def Rf (w : World) (b : Nat) (s : List UInt8) (p : Nat) (bad : Bool) : Prop :=
  w.heap[b]? = some (.cells #[.string ⟨s.toArray⟩, .int .i64 p, .bool bad] 101 (0, 0))

theorem Rf.c0 {w : World} {b p : Nat} {s : List UInt8} {d : Bool} (h : Rf w b s p d) : w.cell? ⟨b, 0, none⟩ = some (.string ⟨s.toArray⟩) := by
  unfold Rf at h; simp [World.cell?, h]
theorem Rf.c1 {w : World} {b p : Nat} {s : List UInt8} {d : Bool} (h : Rf w b s p d) : w.cell? ⟨b, 1, none⟩ = some (.int .i64 p) := by
  unfold Rf at h; simp [World.cell?, h]
theorem Rf.c2 {w : World} {b p : Nat} {s : List UInt8} {d : Bool} (h : Rf w b s p d) : w.cell? ⟨b, 2, none⟩ = some (.bool d) := by
  unfold Rf at h; simp [World.cell?, h]
theorem Rf.fz {w : World} {b p : Nat} {s : List UInt8} {d : Bool} (h : Rf w b s p d) (i : Nat) : w.frozen? ⟨b, i, none⟩ = false := by
  unfold Rf at h; simp [World.frozen?, h]
theorem Rf.lt {w : World} {b p : Nat} {s : List UInt8} {d : Bool} (h : Rf w b s p d) : b < w.heap.size := by
  rcases Nat.lt_or_ge b w.heap.size with hlt | hge
  · exact hlt
  · unfold Rf at h; rw [Array.getElem?_eq_none hge] at h; cases h
theorem Rf.grown {w w' : World} {b p : Nat} {s : List UInt8} {d : Bool} {row : Option Nat} (h : Rf w b s p d) (hg : w.grownBy w' row) (hne : some b ≠ row) : Rf w' b s p d :=
  (hg.block b h.lt hne).trans h
theorem Rf.set1 {w : World} {b p : Nat} {s : List UInt8} {d : Bool} (h : Rf w b s p d) (q : Nat) : Rf (w.setCell ⟨b, 1, none⟩ (.int .i64 q)) b s q d := by
  unfold Rf at h ⊢
  simp [World.setCell, Array.getElem?_modify, h]
theorem Rf.set2 {w : World} {b p : Nat} {s : List UInt8} {d : Bool} (h : Rf w b s p d) : Rf (w.setCell ⟨b, 2, none⟩ (.bool true)) b s p true := by
  unfold Rf at h ⊢
  simp [World.setCell, Array.getElem?_modify, h]

/-- the same, as what is left -/
def Rr (w : World) (b : Nat) (s : List UInt8) (st : Option (List UInt8)) : Prop :=
  ∃ p d, Rf w b s p d ∧ p ≤ s.length ∧ (d = true → st = none) ∧ (d = false → st = some (s.drop p))

theorem Rr.grown {w w' : World} {b : Nat} {s : List UInt8} {st : Option (List UInt8)} {row : Option Nat} (h : Rr w b s st) (hg : w.grownBy w' row) (hne : some b ≠ row) : Rr w' b s st := by
  obtain ⟨p, d, h, h2⟩ := h
  exact ⟨p, d, h.grown hg hne, h2⟩
theorem Rr.lt {w : World} {b : Nat} {s : List UInt8} {st : Option (List UInt8)} (h : Rr w b s st) : b < w.heap.size := by
  obtain ⟨p, d, h, h2⟩ := h
  exact h.lt

set_option maxHeartbeats 400000 in
theorem rNew (l : List UInt8) (w : World) : Calls Tryz.prog 40 #[.string ⟨l.toArray⟩] w fun e w' => e = .returned (.pointer (some ⟨w.heap.size, 0, none⟩)) ∧ Rr w' w.heap.size l (some l) ∧ w.grownBy w' none ∧ w.heap.size < w'.heap.size := by
  go_enter Tryz.func40, Tryz.ntmps40
  go_wp2
  go_ret
  exact ⟨rfl, ⟨0, false, heap_alloc_new w _, by omega, by simp, by simp⟩, World.grownBy_alloc w _ none, by simp⟩
set_option maxHeartbeats 400000 in
theorem rBad (w : World) (b : Nat) (s : List UInt8) (st : Option (List UInt8)) (h : Rr w b s st) : Calls Tryz.prog 45 #[.pointer (some ⟨b, 0, none⟩)] w fun e w' => e = .returned (.bool st.isNone) ∧ w = w' := by
  obtain ⟨p, d, h, hp, h1, h2⟩ := h
  have c2 := h.c2
  cases d with
  | true =>
    obtain rfl := h1 rfl
    go_enter Tryz.func45, Tryz.ntmps45
    go_wp2
    go_ret
    exact ⟨rfl, rfl⟩
  | false =>
    obtain rfl := h2 rfl
    go_enter Tryz.func45, Tryz.ntmps45
    go_wp2
    go_ret
    exact ⟨rfl, rfl⟩
set_option maxHeartbeats 400000 in
theorem rLeft (w : World) (b : Nat) (s : List UInt8) (hs : s.length ≤ 1000000) (st : Option (List UInt8)) (h : Rr w b s st) : Calls Tryz.prog 46 #[.pointer (some ⟨b, 0, none⟩)] w fun e w' => e = .returned (.int .i64 (st.getD []).length) ∧ w.grownBy w' none := by
  obtain ⟨p, d, h, hp, h1, h2⟩ := h
  have c0 := h.c0
  have c1 := h.c1
  have c2 := h.c2
  cases d with
  | true =>
    obtain rfl := h1 rfl
    go_enter Tryz.func46, Tryz.ntmps46
    go_wp2
    go_ret
    exact ⟨rfl, World.grownBy.refl _ _⟩
  | false =>
    obtain rfl := h2 rfl
    have he : ((s.length : Int) - (p : Int)) = (((some (s.drop p)).getD []).length : Int) := by simp; omega
    have He := Lib.hid he
    clear he
    go_enter Tryz.func46, Tryz.ntmps46
    go_wp2
    go_quiet (fail)
    go_wp2
    go_ret
    exact ⟨by rw [← He.out]; rfl, grown_drewN _ nq _⟩
set_option maxHeartbeats 400000 in
theorem rFail (w : World) (b : Nat) (s : List UInt8) (st : Option (List UInt8)) (h : Rr w b s st) : Calls Tryz.prog 74 #[.pointer (some ⟨b, 0, none⟩)] w fun e w' => e = .returned (.tuple #[]) ∧ Rr w' b s none ∧ w.grownBy w' (some b) := by
  obtain ⟨p, d, h, hp, h1, h2⟩ := h
  have c2 := h.c2
  have f2 := h.fz 2
  go_enter Tryz.func74, Tryz.ntmps74
  go_wp2
  go_end0
  exact ⟨rfl, ⟨p, true, h.set2, hp, by simp, by simp⟩, grown_setCell _ _ _ _⟩

set_option maxHeartbeats 400000 in
theorem rByte_f (w : World) (b : Nat) (s : List UInt8) (hs : s.length ≤ 1000000) (k : Int) (c : UInt8) (hk : k = c.toNat) (st : Option (List UInt8)) (h : Rr w b s st) (hne : ∀ l, st ≠ some (c :: l)) :
    Calls Tryz.prog 75 #[.pointer (some ⟨b, 0, none⟩), .int .u8 k] w fun e w' => e = .returned (.bool false) ∧ w.grownBy w' none := by
  subst hk
  have HL := rLeft w b s hs st h
  obtain ⟨p, d, h, hp, h1, h2⟩ := h
  by_cases hz : (st.getD []).length = 0
  · rw [hz] at HL
    have HL := Lib.hid HL
    clear hne h1 h2
    go_enter Tryz.func75, Tryz.ntmps75
    go_wp2_with (go_at_call 46; refine HL.out.mono ?_; rintro e w1 ⟨rfl, g1⟩)
    go_quiet (fail)
    go_wp2
    go_ret
    exact ⟨rfl, g1.trans (grown_drewN _ nq _)⟩
  · cases d with
    | true => obtain rfl := h1 rfl; simp at hz
    | false =>
      obtain rfl := h2 rfl
      simp at hz
      have hpl : p < s.length := by omega
      have hx : s[p]'hpl ≠ c := fun e => hne (s.drop (p + 1)) (by rw [← e, List.drop_eq_getElem_cons hpl])
      rw [show ((some (s.drop p)).getD []).length = s.length - p by simp] at HL
      have HL := Lib.hid HL
      have hb0 : (((s.length - p : Nat) : Int) == 0) = false := by rw [beq_eq_false_iff_ne]; omega
      have hb1 : (((s[p]'hpl).toNat : Int) != (c.toNat : Int)) = true := by
        rw [bne_iff_ne]
        intro e
        exact hx (UInt8.toNat_inj.1 (by omega))
      have hi1 : (p : Int) < (s.length : Int) := by omega
      clear hne hx h1 h2
      go_enter Tryz.func75, Tryz.ntmps75
      go_wp2_with (go_at_call 46; refine HL.out.mono ?_; rintro e w1 ⟨rfl, g1⟩)
      have h' := h.grown g1 (by simp)
      have c0 := h'.c0
      have c1 := h'.c1
      go_quiet (fail)
      go_wp2
      go_ret
      exact ⟨rfl, g1.trans (grown_drewN _ nq _)⟩
set_option maxHeartbeats 400000 in
theorem rByte_t (w : World) (b : Nat) (s : List UInt8) (hs : s.length ≤ 1000000) (k : Int) (c : UInt8) (hk : k = c.toNat) (l : List UInt8) (h : Rr w b s (some (c :: l))) :
    Calls Tryz.prog 75 #[.pointer (some ⟨b, 0, none⟩), .int .u8 k] w fun e w' => e = .returned (.bool true) ∧ Rr w' b s (some l) ∧ w.grownBy w' (some b) := by
  subst hk
  have HL := Lib.hid (rLeft w b s hs _ h)
  obtain ⟨p, d, h, hp, h1, h2⟩ := h
  cases d with
  | true => cases h1 rfl
  | false =>
    have h3 := h2 rfl
    injection h3 with h3
    have hpl : p < s.length := by
      rcases Nat.lt_or_ge p s.length with h | h
      · exact h
      · rw [List.drop_eq_nil_of_le h] at h3; cases h3
    have h4 := h3
    rw [List.drop_eq_getElem_cons hpl] at h4
    injection h4 with h5 h6
    have hb0 : ((l.length : Int) + 1 == 0) = false := by rw [beq_eq_false_iff_ne]; omega
    have hb1 : (((s[p]'hpl).toNat : Int) != (c.toNat : Int)) = false := by rw [h5]; simp
    have hi1 : (p : Int) < (s.length : Int) := by omega
    have H6 := Lib.hid h6
    clear h1 h2 h3 h5 h6
    go_enter Tryz.func75, Tryz.ntmps75
    go_wp2_with (go_at_call 46; refine HL.out.mono ?_; rintro e w1 ⟨rfl, g1⟩)
    have h' := h.grown g1 (by simp)
    have c0 := h'.c0
    have c1 := h'.c1
    have f1 := h'.fz 1
    go_quiet (fail)
    go_wp2
    go_ret
    exact ⟨rfl, ⟨p + 1, false, Rf.set1 (h'.grown (grown_drewN w1 nq none) (by simp)) (p + 1), by omega, by simp, fun _ => by rw [H6.out]⟩, (grown_any (g1.trans (grown_drewN _ nq _)) _).trans (grown_setCell _ _ _ _)⟩
end Go.Proofs.YtnkemoicgadefaaGreatDoor.Wire
namespace Go.Proofs.YtnkemoicgadefaaGreatDoor.Wire
open Go.RowKit
attribute [local go_sem] get_mk extract_mk

set_option maxHeartbeats 400000 in
theorem rnum_bad (w : World) (b : Nat) (s : List UInt8) (k : Int) (h : Rr w b s none) : Calls Tryz.prog 73 #[.pointer (some ⟨b, 0, none⟩), .int .u8 k] w fun e w' => e = .returned (.tuple #[.int .i64 0, .bool false]) ∧ w = w' := by
  obtain ⟨p, d, h, hp, h1, h2⟩ := h
  cases d with
  | false => cases h2 rfl
  | true =>
    have c2 := h.c2
    go_enter Tryz.func73, Tryz.ntmps73
    go_wp2
    go_ret2
    exact ⟨rfl, rfl⟩

/-- what number answers at p -/
def RN (c : UInt8) (s : List UInt8) (p b : Nat) (w : World) (e : Ending) (w' : World) : Prop := match numP c (s.drop p) with
  | some (n, t) => e = .returned (.tuple #[.int .i64 n, .bool true]) ∧ Rr w' b s (some t) ∧ w.grownBy w' (some b)
  | none => e = .returned (.tuple #[.int .i64 0, .bool false]) ∧ Rr w' b s (some (s.drop p)) ∧ w.grownBy w' (some b)
theorem RN_none {c : UInt8} {s : List UInt8} {p b : Nat} {w w' : World} {e : Ending} (hn : numP c (s.drop p) = none)
    (h : e = .returned (.tuple #[.int .i64 0, .bool false]) ∧ Rr w' b s (some (s.drop p)) ∧ w.grownBy w' (some b)) : RN c s p b w e w' := by
  unfold RN; rw [hn]; exact h
theorem RN_some {c : UInt8} {s : List UInt8} {p b : Nat} {w w' : World} {e : Ending} {n : Int} {t : List UInt8} (hn : numP c (s.drop p) = some (n, t))
    (h : e = .returned (.tuple #[.int .i64 n, .bool true]) ∧ Rr w' b s (some t) ∧ w.grownBy w' (some b)) : RN c s p b w e w' := by
  unfold RN; rw [hn]; exact h

set_option maxRecDepth 100000 in
set_option maxHeartbeats 8000000 in
theorem rnum_go (w : World) (b : Nat) (s : List UInt8) (hs : s.length ≤ 1000000) (c : UInt8) (hc : 58 ≤ c.toNat) (p : Nat) (hp : p ≤ s.length) (h : Rf w b s p false) :
    Calls Tryz.prog 73 #[.pointer (some ⟨b, 0, none⟩), .int .u8 c.toNat] w fun e w' => RN c s p b w e w' := by
  have c0 := h.c0
  have c1 := h.c1
  have c2 := h.c2
  go_enter Tryz.func73, Tryz.ntmps73
  go_wp2
  have c0' := h.c0
  have c1' := h.c1
  go_loopw [6] (fun i wr => ∃ t : Nat, p ≤ t ∧ t ≤ p + 21 ∧ t ≤ s.length ∧ i = .int .i64 t ∧ c ∉ (s.drop p).take (t - p) ∧ ∃ q, wr = w.drewN q) (fun i _ => p + 21 - (intOf i).toNat)
  case atStart => exact ⟨p, by omega, by omega, by omega, rfl, by simp, 0, rfl⟩
  case round =>
    obtain ⟨t, ht1, ht2, ht3, rfl, hct, q, rfl⟩ := hrel
    have Hct := Lib.hid hct
    clear hct
    by_cases hlt : t < s.length
    · have hi1 : (t : Int) < (s.length : Int) := by omega
      by_cases hx : s[t]'hlt = c
      · have hb1 : (((s[t]'hlt).toNat : Int) != (c.toNat : Int)) = false := by rw [hx]; simp
        have Hx := Lib.hid hx
        clear hx
        have hfe : (s.drop p).take (t - p) = (s.take t).drop p := by rw [List.drop_take]
        have hfl : ((s.take t).drop p).length = t - p := by rw [List.length_drop, List.length_take]; omega
        have hL : (s.take t).drop p ++ c :: s.drop (t + 1) = s.drop p := by
          have e1 : s = s.take t ++ c :: s.drop (t + 1) := by rw [← Hx.out, ← List.drop_eq_getElem_cons hlt, List.take_append_drop]
          have e2 : (s.take t).length = t := by rw [List.length_take]; omega
          have e3 := congrArg (List.drop p) e1
          rw [List.drop_append_of_le_length (by omega)] at e3
          exact e3.symm
        have Hcf : Hid (c ∉ (s.take t).drop p) := Lib.hid (by rw [← hfe]; exact Hct.out)
        obtain ⟨f, hf⟩ : ∃ f, (s.take t).drop p = f := ⟨_, rfl⟩
        rw [hf] at hfl hL Hcf
        have hf21 : f.length ≤ 21 := by omega
        clear hfl
        obtain ⟨ds, ng, hF⟩ := form_of f
        have HF := Lib.hid hF
        have HL := Lib.hid hL
        clear hfe hF Hct
        have hi3 : (p : Int) ≤ (t : Int) := by omega
        have hi4 : (t : Int) ≤ (s.length : Int) := by omega
        have hsp : ((t : Int) == (s.length : Int)) = false := by rw [beq_eq_false_iff_ne]; omega
        by_cases hj : (t : Int) < (p : Int) + 21
        all_goals
          go_wp2_with fail
          go_quiet (fail)
          clear hf hj
          cases ng with
          | true =>
            obtain rfl : f = 45 :: ds := HF.out.parts
            have hds : ds.length ≤ 20 := by simpa using hf21
            clear hf21
            go_wp2_with fail
            go_loopg [9, 10] (ds.length + 1) (fun g n i wr => ∃ j : Nat, g = ds.length + 1 - j ∧ j ≤ ds.length ∧ i = .int .i64 ((j : Int) + 1) ∧ n = .int .i64 (-(dval (ds.take j) : Int)) ∧ dval (ds.take j) ≤ 9223372036854775808 ∧ ∃ q, wr = w.drewN q)
            case atStart => exact ⟨0, rfl, by omega, rfl, rfl, by simp [dval], _, rfl⟩
            case round =>
              obtain ⟨j, hgj, hj, rfl, rfl, hdj, q, rfl⟩ := hrel
              have Hgj := Lib.hid hgj
              clear hgj
              by_cases hlt : j < ds.length
              · obtain ⟨x, hx⟩ : ∃ x, ds[j]? = some x := ⟨_, List.getElem?_eq_getElem hlt⟩
                have hxe : ds[j]'hlt = x := by rw [List.getElem?_eq_getElem hlt] at hx; injection hx
                have htk := take_one ds j x hx
                have hdn : dval (ds.take (j + 1)) = 10 * dval (ds.take j) + (x.toNat - 48) := by rw [htk, dval_snoc]
                have hx255 := x.toNat_lt
                have Hx := Lib.hid hx
                have Hdn := Lib.hid hdn
                clear hx htk hdn
                generalize hD : dval (ds.take j) = D at *
                have HD := Lib.hid hD
                clear hD
                have hi5 : (j : Int) < (ds.length : Int) := by omega
                by_cases hdig : 48 ≤ x.toNat ∧ x.toNat ≤ 57
                · have k1 : ¬ ((x.toNat : Int) - 48 < 0) := by omega
                  have k2 : ¬ (9 < (x.toNat : Int) - 48) := by omega
                  by_cases hov : 9223372036854775808 < 10 * D + (x.toNat - 48)
                  · have hn : numP c (s.drop p) = none := by
                      rw [← hL]
                      exact numP_not hc Hcf.out (fun m hm => no_large HF.out (k := j + 1) (by rw [Hdn.out]; exact hov) m hm)
                    have Hn := Lib.hid hn
                    clear hn
                    by_cases k3 : 922337203685477580 < D
                    · have k4 : (-(D : Int)) < -922337203685477580 := by omega
                      go_wp2_with fail
                      go_ret2
                      exact RN_none Hn.out ⟨rfl, ⟨p, false, h.grown (grown_drewN w _ none) (by simp), hp, by simp, by simp⟩, grown_drewN _ _ _⟩
                    · obtain rfl : D = 922337203685477580 := by omega
                      have k5 : 8 < (x.toNat : Int) - 48 := by omega
                      go_wp2_with fail
                      go_ret2
                      exact RN_none Hn.out ⟨rfl, ⟨p, false, h.grown (grown_drewN w _ none) (by simp), hp, by simp, by simp⟩, grown_drewN _ _ _⟩
                  · have k4 : ¬ (-(D : Int)) < -922337203685477580 := by omega
                    have k6 : ((-(D : Int)) == -922337203685477580) = true → ¬ 8 < (x.toNat : Int) - 48 := by intro e; rw [beq_iff_eq] at e; omega
                    have k7 : -9223372036854775808 ≤ 10 * (-(D : Int)) := by omega
                    have k8 : -9223372036854775808 ≤ 10 * (-(D : Int)) - ((x.toNat : Int) - 48) := by omega
                    by_cases k9 : D = 922337203685477580
                    all_goals
                      go_wp2_with fail
                      go_roundg (ds.length - j)
                      case measure => have := Hgj.out; omega
                      case rel => exact ⟨j + 1, by omega, by omega, by go_num, by rw [Hdn.out]; congr 1; omega, by rw [Hdn.out]; omega, _, rfl⟩
                · have hn : numP c (s.drop p) = none := by
                    rw [← hL]
                    exact numP_not hc Hcf.out (fun m _ => no_digit HF.out Hx.out hdig m)
                  have Hn := Lib.hid hn
                  clear hn
                  by_cases k1 : (x.toNat : Int) - 48 < 0
                  · go_wp2_with fail
                    go_ret2
                    exact RN_none Hn.out ⟨rfl, ⟨p, false, h.grown (grown_drewN w _ none) (by simp), hp, by simp, by simp⟩, grown_drewN _ _ _⟩
                  · have k2 : 9 < (x.toNat : Int) - 48 := by omega
                    go_wp2_with fail
                    go_ret2
                    exact RN_none Hn.out ⟨rfl, ⟨p, false, h.grown (grown_drewN w _ none) (by simp), hp, by simp, by simp⟩, grown_drewN _ _ _⟩
              · obtain rfl : j = ds.length := by omega
                rw [List.take_length] at hdj ⊢
                have hi5 : ¬ (ds.length : Int) < (ds.length : Int) := by omega
                generalize hD : dval ds = D at *
                have HD := Lib.hid hD
                clear hD
                have hI : I64 (-(D : Int)) := ⟨by omega, by omega⟩
                have hdec := dec_k (-(D : Int)) hI
                unfold DecSaid at hdec
                have hil := itoa_len hI
                by_cases heq : Lib.itoa (-(D : Int)) = (45 :: ds)
                · have hn : numP c (s.drop p) = some ((-(D : Int)), s.drop (t + 1)) := by
                    rw [← hL]
                    exact numP_cut hc Hcf.out (-(D : Int)) hI heq
                  have Hn := Lib.hid hn
                  have hq1 : (Lib.itoa (-(D : Int)) == (45 :: ds)) = true := by simpa using heq
                  rw [heq] at hdec
                  have Hdec := Lib.hid hdec
                  clear hdec
                  have f1 := h.fz 1
                  clear hn heq hq1
                  go_wp2_with (go_at_call 71; refine (Hdec.out _).mono ?_; rintro e w2 ⟨rfl, g2⟩; have h2 := Rf.grown (Rf.grown h (grown_drewN w _ none) (by simp)) g2 (by simp); have f2 := h2.fz 1; have d0 := h2.c0; have d1 := h2.c1)
                  go_ret2
                  exact RN_some Hn.out ⟨rfl, ⟨t + 1, false, h2.set1 (t + 1), by omega, by simp, by simp⟩, (grown_any ((grown_drewN w _ none).trans g2) _).trans (grown_setCell _ _ _ _)⟩
                · have hn : numP c (s.drop p) = none := by
                    rw [← hL]
                    refine numP_not hc Hcf.out (fun m hm e => heq ?_)
                    have := form_val HF.out e
                    rw [HD.out] at this
                    simp at this
                    subst this
                    exact e
                  have Hn := Lib.hid hn
                  have hq1 : (Lib.itoa (-(D : Int)) == (45 :: ds)) = false := by simpa using heq
                  have Heq := Lib.hid heq
                  have Hdec := Lib.hid hdec
                  clear hn heq hdec
                  go_wp2_with (go_at_call 71; refine (Hdec.out _).mono ?_; rintro e w2 ⟨rfl, g2⟩)
                  go_ret2
                  exact RN_none Hn.out ⟨rfl, ⟨p, false, h.grown ((grown_drewN w _ none).trans g2) (by simp), hp, by simp, by simp⟩, grown_any ((grown_drewN w _ none).trans g2) _⟩
          | false =>
            obtain rfl : f = ds := by simpa using HF.out.parts
            match f, HF.out.head rfl with
            | [], _ =>
              go_wp2_with fail
              have hn : numP c (s.drop p) = none := by rw [← hL]; exact numP_not hc Hcf.out (fun m _ => Go.Proofs.YtnkemoicgadefaaGreatDoor.Wire.itoa_ne_nil m)
              have Hn := Lib.hid hn
              clear hn
              have Hdec := Lib.hid (dec_k 0 ⟨by decide, by decide⟩)
              have hq1 : (Lib.itoa 0 == []) = false := by decide +kernel
              have hil : (Lib.itoa 0).length ≤ 20 := itoa_len ⟨by decide, by decide⟩
              go_loopg [9, 10] 1 (fun g n i wr => g = 1 ∧ i = .int .i64 0 ∧ n = .int .i64 0 ∧ ∃ q, wr = w.drewN q)
              case atStart => exact ⟨rfl, rfl, rfl, _, rfl⟩
              case round =>
                obtain ⟨rfl, rfl, rfl, q, rfl⟩ := hrel
                go_wp2_with (go_at_call 71; refine (Hdec.out _).mono ?_; rintro e w2 ⟨rfl, g2⟩)
                go_ret2
                exact RN_none Hn.out ⟨rfl, ⟨p, false, h.grown ((grown_drewN w _ none).trans g2) (by simp), hp, by simp, by simp⟩, grown_any ((grown_drewN w _ none).trans g2) _⟩
            | x0 :: r0, h45 =>
              have h45' : ((x0.toNat : Int) == 45) = false := by
                rw [beq_eq_false_iff_ne]
                intro e
                have e' : x0.toNat = 45 := by omega
                exact h45 (by rw [show x0 = 45 from UInt8.toNat_inj.1 (by rw [e']; rfl)]; rfl)
              go_wp2_with fail
              generalize hx0 : x0 :: r0 = ds at *
              go_loopg [9, 10] (ds.length + 1) (fun g n i wr => ∃ j : Nat, g = ds.length + 1 - j ∧ j ≤ ds.length ∧ i = .int .i64 (j : Int) ∧ n = .int .i64 (-(dval (ds.take j) : Int)) ∧ dval (ds.take j) ≤ 9223372036854775808 ∧ ∃ q, wr = w.drewN q)
              case atStart => exact ⟨0, rfl, by omega, rfl, rfl, by simp [dval], _, rfl⟩
              case round =>
                obtain ⟨j, hgj, hj, rfl, rfl, hdj, q, rfl⟩ := hrel
                have Hgj := Lib.hid hgj
                clear hgj
                by_cases hlt : j < ds.length
                · obtain ⟨x, hx⟩ : ∃ x, ds[j]? = some x := ⟨_, List.getElem?_eq_getElem hlt⟩
                  have hxe : ds[j]'hlt = x := by rw [List.getElem?_eq_getElem hlt] at hx; injection hx
                  have htk := take_one ds j x hx
                  have hdn : dval (ds.take (j + 1)) = 10 * dval (ds.take j) + (x.toNat - 48) := by rw [htk, dval_snoc]
                  have hx255 := x.toNat_lt
                  have Hx := Lib.hid hx
                  have Hdn := Lib.hid hdn
                  clear hx htk hdn
                  generalize hD : dval (ds.take j) = D at *
                  have HD := Lib.hid hD
                  clear hD
                  have hi5 : (j : Int) < (ds.length : Int) := by omega
                  by_cases hdig : 48 ≤ x.toNat ∧ x.toNat ≤ 57
                  · have k1 : ¬ ((x.toNat : Int) - 48 < 0) := by omega
                    have k2 : ¬ (9 < (x.toNat : Int) - 48) := by omega
                    by_cases hov : 9223372036854775808 < 10 * D + (x.toNat - 48)
                    · have hn : numP c (s.drop p) = none := by
                        rw [← hL]
                        exact numP_not hc Hcf.out (fun m hm => no_large HF.out (k := j + 1) (by rw [Hdn.out]; exact hov) m hm)
                      have Hn := Lib.hid hn
                      clear hn
                      by_cases k3 : 922337203685477580 < D
                      · have k4 : (-(D : Int)) < -922337203685477580 := by omega
                        go_wp2_with fail
                        go_ret2
                        exact RN_none Hn.out ⟨rfl, ⟨p, false, h.grown (grown_drewN w _ none) (by simp), hp, by simp, by simp⟩, grown_drewN _ _ _⟩
                      · obtain rfl : D = 922337203685477580 := by omega
                        have k5 : 8 < (x.toNat : Int) - 48 := by omega
                        go_wp2_with fail
                        go_ret2
                        exact RN_none Hn.out ⟨rfl, ⟨p, false, h.grown (grown_drewN w _ none) (by simp), hp, by simp, by simp⟩, grown_drewN _ _ _⟩
                    · have k4 : ¬ (-(D : Int)) < -922337203685477580 := by omega
                      have k6 : ((-(D : Int)) == -922337203685477580) = true → ¬ 8 < (x.toNat : Int) - 48 := by intro e; rw [beq_iff_eq] at e; omega
                      have k7 : -9223372036854775808 ≤ 10 * (-(D : Int)) := by omega
                      have k8 : -9223372036854775808 ≤ 10 * (-(D : Int)) - ((x.toNat : Int) - 48) := by omega
                      by_cases k9 : D = 922337203685477580
                      all_goals
                        go_wp2_with fail
                        go_roundg (ds.length - j)
                        case measure => have := Hgj.out; omega
                        case rel => exact ⟨j + 1, by omega, by omega, by go_num, by rw [Hdn.out]; congr 1; omega, by rw [Hdn.out]; omega, _, rfl⟩
                  · have hn : numP c (s.drop p) = none := by
                      rw [← hL]
                      exact numP_not hc Hcf.out (fun m _ => no_digit HF.out Hx.out hdig m)
                    have Hn := Lib.hid hn
                    clear hn
                    by_cases k1 : (x.toNat : Int) - 48 < 0
                    · go_wp2_with fail
                      go_ret2
                      exact RN_none Hn.out ⟨rfl, ⟨p, false, h.grown (grown_drewN w _ none) (by simp), hp, by simp, by simp⟩, grown_drewN _ _ _⟩
                    · have k2 : 9 < (x.toNat : Int) - 48 := by omega
                      go_wp2_with fail
                      go_ret2
                      exact RN_none Hn.out ⟨rfl, ⟨p, false, h.grown (grown_drewN w _ none) (by simp), hp, by simp, by simp⟩, grown_drewN _ _ _⟩
                · obtain rfl : j = ds.length := by omega
                  rw [List.take_length] at hdj ⊢
                  have hi5 : ¬ (ds.length : Int) < (ds.length : Int) := by omega
                  generalize hD : dval ds = D at *
                  have HD := Lib.hid hD
                  clear hD
                  by_cases hmin : D = 9223372036854775808
                  · have hn : numP c (s.drop p) = none := by
                      rw [← hL]
                      refine numP_not hc Hcf.out (fun m hm e => ?_)
                      have := form_val HF.out e
                      rw [HD.out] at this
                      simp only [Bool.false_eq_true, if_false] at this
                      have := hm.2
                      omega
                    have Hn := Lib.hid hn
                    clear hn
                    subst hmin
                    have hw : wrap64 9223372036854775808 = -9223372036854775808 := by unfold wrap64; omega
                    go_wp2_with fail
                    go_ret2
                    exact RN_none Hn.out ⟨rfl, ⟨p, false, h.grown (grown_drewN w _ none) (by simp), hp, by simp, by simp⟩, grown_drewN _ _ _⟩
                  by_cases k0 : D = 0
                  · subst k0
                    have hI : I64 (0 : Int) := ⟨by omega, by omega⟩
                    have hdec := dec_k (0 : Int) hI
                    unfold DecSaid at hdec
                    have hil := itoa_len hI
                    by_cases heq : Lib.itoa (0 : Int) = ds
                    · have hn : numP c (s.drop p) = some ((0 : Int), s.drop (t + 1)) := by
                        rw [← hL]
                        exact numP_cut hc Hcf.out (0 : Int) hI heq
                      have Hn := Lib.hid hn
                      have hq1 : (Lib.itoa (0 : Int) == ds) = true := by simpa using heq
                      rw [heq] at hdec
                      have Hdec := Lib.hid hdec
                      clear hdec
                      have f1 := h.fz 1
                      clear hn heq hq1
                      go_wp2_with (go_at_call 71; refine (Hdec.out _).mono ?_; rintro e w2 ⟨rfl, g2⟩; have h2 := Rf.grown (Rf.grown h (grown_drewN w _ none) (by simp)) g2 (by simp); have f2 := h2.fz 1; have d0 := h2.c0; have d1 := h2.c1)
                      go_ret2
                      exact RN_some Hn.out ⟨rfl, ⟨t + 1, false, h2.set1 (t + 1), by omega, by simp, by simp⟩, (grown_any ((grown_drewN w _ none).trans g2) _).trans (grown_setCell _ _ _ _)⟩
                    · have hn : numP c (s.drop p) = none := by
                        rw [← hL]
                        refine numP_not hc Hcf.out (fun m hm e => heq ?_)
                        have := form_val HF.out e
                        rw [HD.out] at this
                        simp at this
                        subst this
                        exact e
                      have Hn := Lib.hid hn
                      have hq1 : (Lib.itoa (0 : Int) == ds) = false := by simpa using heq
                      have Heq := Lib.hid heq
                      have Hdec := Lib.hid hdec
                      clear hn heq hdec
                      go_wp2_with (go_at_call 71; refine (Hdec.out _).mono ?_; rintro e w2 ⟨rfl, g2⟩)
                      go_ret2
                      exact RN_none Hn.out ⟨rfl, ⟨p, false, h.grown ((grown_drewN w _ none).trans g2) (by simp), hp, by simp, by simp⟩, grown_any ((grown_drewN w _ none).trans g2) _⟩
                  · have hw2 : wrap64 (D : Int) = D := by unfold wrap64; omega
                    have hw3 : wrap64 (-(-(D : Int))) = D := by unfold wrap64; omega
                    have hI : I64 (D : Int) := ⟨by omega, by omega⟩
                    have hdec := dec_k (D : Int) hI
                    unfold DecSaid at hdec
                    have hil := itoa_len hI
                    by_cases heq : Lib.itoa (D : Int) = ds
                    · have hn : numP c (s.drop p) = some ((D : Int), s.drop (t + 1)) := by
                        rw [← hL]
                        exact numP_cut hc Hcf.out (D : Int) hI heq
                      have Hn := Lib.hid hn
                      have hq1 : (Lib.itoa (D : Int) == ds) = true := by simpa using heq
                      rw [heq] at hdec
                      have Hdec := Lib.hid hdec
                      clear hdec
                      have f1 := h.fz 1
                      clear hn heq hq1
                      go_wp2_with (go_at_call 71; refine (Hdec.out _).mono ?_; rintro e w2 ⟨rfl, g2⟩; have h2 := Rf.grown (Rf.grown h (grown_drewN w _ none) (by simp)) g2 (by simp); have f2 := h2.fz 1; have d0 := h2.c0; have d1 := h2.c1)
                      go_ret2
                      exact RN_some Hn.out ⟨rfl, ⟨t + 1, false, h2.set1 (t + 1), by omega, by simp, by simp⟩, (grown_any ((grown_drewN w _ none).trans g2) _).trans (grown_setCell _ _ _ _)⟩
                    · have hn : numP c (s.drop p) = none := by
                        rw [← hL]
                        refine numP_not hc Hcf.out (fun m hm e => heq ?_)
                        have := form_val HF.out e
                        rw [HD.out] at this
                        simp at this
                        subst this
                        exact e
                      have Hn := Lib.hid hn
                      have hq1 : (Lib.itoa (D : Int) == ds) = false := by simpa using heq
                      have Heq := Lib.hid heq
                      have Hdec := Lib.hid hdec
                      clear hn heq hdec
                      go_wp2_with (go_at_call 71; refine (Hdec.out _).mono ?_; rintro e w2 ⟨rfl, g2⟩)
                      go_ret2
                      exact RN_none Hn.out ⟨rfl, ⟨p, false, h.grown ((grown_drewN w _ none).trans g2) (by simp), hp, by simp, by simp⟩, grown_any ((grown_drewN w _ none).trans g2) _⟩

      · have hb1 : (((s[t]'hlt).toNat : Int) != (c.toNat : Int)) = true := by rw [bne_iff_ne]; intro e; exact hx (UInt8.toNat_inj.1 (by omega))
        have Hx := Lib.hid hx
        clear hx
        by_cases hj : t < p + 21
        · have hi2 : (t : Int) < (p : Int) + 21 := by omega
          go_wp2_with fail
          refine ⟨⟨t + 1, by omega, by omega, by omega, by go_num, ?_, _, rfl⟩, by simp [intOf]; omega⟩
          rw [show t + 1 - p = (t - p) + 1 by omega, take_one (s.drop p) (t - p) (s[t]'hlt) (by rw [List.getElem?_drop, show p + (t - p) = t by omega]; exact List.getElem?_eq_getElem hlt)]
          intro hm
          rcases List.mem_append.1 hm with hm | hm
          · exact Hct.out hm
          · exact Hx.out (List.mem_singleton.1 hm).symm
        · obtain rfl : t = p + 21 := by omega
          have hn := numP_far hc (l := s.drop p) (by have := Hct.out; rwa [show p + 21 - p = 21 by omega] at this)
          go_wp2_with fail
          go_ret2
          exact RN_none hn ⟨rfl, ⟨p, false, h.grown (grown_drewN w _ none) (by simp), hp, by simp, by simp⟩, grown_drewN _ _ _⟩
    · obtain rfl : t = s.length := by omega
      have hn := numP_far hc (l := s.drop p) (by
        have := Hct.out
        rw [List.take_of_length_le (by rw [List.length_drop]; omega)] at this
        exact fun h => this (List.mem_of_mem_take h))
      go_wp2_with fail
      go_ret2
      exact RN_none hn ⟨rfl, ⟨p, false, h.grown (grown_drewN w _ none) (by simp), hp, by simp, by simp⟩, grown_drewN _ _ _⟩
end Go.Proofs.YtnkemoicgadefaaGreatDoor.Wire
namespace Go.Proofs.YtnkemoicgadefaaGreatDoor.Wire
open Go.RowKit
attribute [local go_sem] get_mk extract_mk

theorem rnum_some (w : World) (b : Nat) (s : List UInt8) (hs : s.length ≤ 1000000) (c : UInt8) (hc : 58 ≤ c.toNat) (st : Option (List UInt8)) (h : Rr w b s st) {n : Int} {t : List UInt8} (hn : st.bind (numP c) = some (n, t)) :
    Calls Tryz.prog 73 #[.pointer (some ⟨b, 0, none⟩), .int .u8 c.toNat] w fun e w' => e = .returned (.tuple #[.int .i64 n, .bool true]) ∧ Rr w' b s (some t) ∧ w.grownBy w' (some b) := by
  obtain ⟨p, d, h, hp, h1, h2⟩ := h
  cases d with
  | true => rw [h1 rfl] at hn; cases hn
  | false =>
    rw [h2 rfl] at hn
    refine (rnum_go w b s hs c hc p hp h).mono fun e w' hr => ?_
    unfold RN at hr
    rw [show numP c (s.drop p) = some (n, t) from hn] at hr
    exact hr
theorem rnum_none (w : World) (b : Nat) (s : List UInt8) (hs : s.length ≤ 1000000) (c : UInt8) (hc : 58 ≤ c.toNat) (st : Option (List UInt8)) (h : Rr w b s st) (hn : st.bind (numP c) = none) :
    Calls Tryz.prog 73 #[.pointer (some ⟨b, 0, none⟩), .int .u8 c.toNat] w fun e w' => e = .returned (.tuple #[.int .i64 0, .bool false]) ∧ Rr w' b s st ∧ w.grownBy w' (some b) := by
  have h0 := h
  obtain ⟨p, d, h, hp, h1, h2⟩ := h
  cases d with
  | true =>
    obtain rfl := h1 rfl
    refine (rnum_bad w b s c.toNat h0).mono fun e w' hr => ?_
    obtain ⟨rfl, rfl⟩ := hr
    exact ⟨rfl, h0, World.grownBy.refl _ _⟩
  | false =>
    obtain rfl := h2 rfl
    refine (rnum_go w b s hs c hc p hp h).mono fun e w' hr => ?_
    unfold RN at hr
    rw [show numP c (s.drop p) = none from hn] at hr
    exact hr

set_option maxHeartbeats 400000 in
theorem rint_k (w : World) (b : Nat) (s : List UInt8) (hs : s.length ≤ 1000000) (st : Option (List UInt8)) (h : Rr w b s st) :
    Calls Tryz.prog 41 #[.pointer (some ⟨b, 0, none⟩)] w fun e w' => e = .returned (.int .i64 (valOf intP st)) ∧ Rr w' b s (restOf intP st) ∧ w.grownBy w' (some b) := by
  cases hn : st.bind (numP 59) with
  | none =>
    have hk := Lib.hid (rnum_none w b s hs 59 (by decide) st h hn)
    have e1 : valOf intP st = 0 := by unfold valOf intP; rw [hn]; rfl
    have e2 : restOf intP st = none := by unfold restOf intP; rw [hn]
    rw [e1, e2]
    clear hn h e1 e2
    go_enter Tryz.func41, Tryz.ntmps41
    go_wp2_with (first
      | (go_at_call 73; refine hk.out.mono ?_; rintro e w1 ⟨rfl, h1, g1⟩)
      | (go_at_call 74; refine (rFail _ _ _ _ h1).mono ?_; rintro e w2 ⟨rfl, h2, g2⟩))
    go_ret
    exact ⟨rfl, h2, g1.trans g2⟩
  | some r =>
    obtain ⟨n, t⟩ := r
    have hk := Lib.hid (rnum_some w b s hs 59 (by decide) st h hn)
    have e1 : valOf intP st = n := by unfold valOf intP; rw [hn]
    have e2 : restOf intP st = some t := by unfold restOf intP; rw [hn]
    rw [e1, e2]
    clear hn h e1 e2
    go_enter Tryz.func41, Tryz.ntmps41
    go_wp2_with (go_at_call 73; refine hk.out.mono ?_; rintro e w1 ⟨rfl, h1, g1⟩)
    go_ret
    exact ⟨rfl, h1, g1⟩

set_option maxHeartbeats 400000 in
theorem rtext_bad (w : World) (b : Nat) (s : List UInt8) (st : Option (List UInt8))
    (hk : Calls Tryz.prog 73 #[.pointer (some ⟨b, 0, none⟩), .int .u8 58] w fun e w' => e = .returned (.tuple #[.int .i64 0, .bool false]) ∧ Rr w' b s st ∧ w.grownBy w' (some b)) :
    Calls Tryz.prog 42 #[.pointer (some ⟨b, 0, none⟩)] w fun e w' => e = .returned (.string ⟨#[]⟩) ∧ Rr w' b s none ∧ w.grownBy w' (some b) := by
  have hk := Lib.hid hk
  go_enter Tryz.func42, Tryz.ntmps42
  go_wp2_with (first
    | (go_at_call 73; refine hk.out.mono ?_; rintro e w1 ⟨rfl, h1, g1⟩)
    | (go_at_call 74; refine (rFail _ _ _ _ h1).mono ?_; rintro e w2 ⟨rfl, h2, g2⟩))
  go_ret
  exact ⟨rfl, h2, g1.trans g2⟩
set_option maxHeartbeats 400000 in
theorem rtext_neg (w : World) (b : Nat) (s : List UInt8) (n : Int) (hneg : n < 0) (t : List UInt8)
    (hk : Calls Tryz.prog 73 #[.pointer (some ⟨b, 0, none⟩), .int .u8 58] w fun e w' => e = .returned (.tuple #[.int .i64 n, .bool true]) ∧ Rr w' b s (some t) ∧ w.grownBy w' (some b)) :
    Calls Tryz.prog 42 #[.pointer (some ⟨b, 0, none⟩)] w fun e w' => e = .returned (.string ⟨#[]⟩) ∧ Rr w' b s none ∧ w.grownBy w' (some b) := by
  have hk := Lib.hid hk
  have hd : decide (n < 0) = true := by simpa using hneg
  go_enter Tryz.func42, Tryz.ntmps42
  go_wp2_with (first
    | (go_at_call 73; refine hk.out.mono ?_; rintro e w1 ⟨rfl, h1, g1⟩)
    | (go_at_call 74; refine (rFail _ _ _ _ h1).mono ?_; rintro e w2 ⟨rfl, h2, g2⟩))
  go_ret
  exact ⟨rfl, h2, g1.trans g2⟩
set_option maxHeartbeats 400000 in
theorem rtext_long (w : World) (b : Nat) (s : List UInt8) (hs : s.length ≤ 1000000) (n : Nat) (t : List UInt8) (hn : t.length < n)
    (hk : Calls Tryz.prog 73 #[.pointer (some ⟨b, 0, none⟩), .int .u8 58] w fun e w' => e = .returned (.tuple #[.int .i64 n, .bool true]) ∧ Rr w' b s (some t) ∧ w.grownBy w' (some b)) :
    Calls Tryz.prog 42 #[.pointer (some ⟨b, 0, none⟩)] w fun e w' => e = .returned (.string ⟨#[]⟩) ∧ Rr w' b s none ∧ w.grownBy w' (some b) := by
  have hk := Lib.hid hk
  have hd : decide ((n : Int) < 0) = false := by simp
  have hd2 : (t.length : Int) < (n : Int) := by omega
  go_enter Tryz.func42, Tryz.ntmps42
  go_wp2_with (first
    | (go_at_call 73; refine hk.out.mono ?_; rintro e w1 ⟨rfl, h1, g1⟩)
    | (go_at_call 46; refine (rLeft _ _ _ hs _ h1).mono ?_; rintro e w3 ⟨rfl, g3⟩; have h3 := Rr.grown h1 g3 (by simp))
    | (go_at_call 74; refine (rFail _ _ _ _ h3).mono ?_; rintro e w2 ⟨rfl, h2, g2⟩))
  go_ret
  exact ⟨rfl, h2, g1.trans ((grown_any g3 _).trans g2)⟩
set_option maxHeartbeats 400000 in
theorem rtext_ok (w : World) (b : Nat) (s : List UInt8) (hs : s.length ≤ 1000000) (n : Nat) (t : List UInt8) (hn : n ≤ t.length)
    (hk : Calls Tryz.prog 73 #[.pointer (some ⟨b, 0, none⟩), .int .u8 58] w fun e w' => e = .returned (.tuple #[.int .i64 n, .bool true]) ∧ Rr w' b s (some t) ∧ w.grownBy w' (some b)) :
    Calls Tryz.prog 42 #[.pointer (some ⟨b, 0, none⟩)] w fun e w' => e = .returned (.string ⟨(t.take n).toArray⟩) ∧ Rr w' b s (some (t.drop n)) ∧ w.grownBy w' (some b) := by
  have hk := Lib.hid hk
  have hd : decide ((n : Int) < 0) = false := by simp
  have hd2 : ¬ (t.length : Int) < (n : Int) := by omega
  go_enter Tryz.func42, Tryz.ntmps42
  go_wp2_with (first
    | (go_at_call 73; refine hk.out.mono ?_; rintro e w1 ⟨rfl, h1, g1⟩)
    | (go_at_call 46; refine (rLeft _ _ _ hs _ h1).mono ?_; rintro e w3 ⟨rfl, g3⟩; have h3 := Rr.grown h1 g3 (by simp)))
  obtain ⟨p, d, hf, hp, e1, e2⟩ := h3
  cases d with
  | true => cases e1 rfl
  | false =>
    have e3 := e2 rfl
    injection e3 with e3
    have hpl : t.length = s.length - p := by rw [e3, List.length_drop]
    have hts : (s.take (p + n)).drop p = t.take n := by rw [List.drop_take, e3]; congr 1; omega
    have htd : s.drop (p + n) = t.drop n := by rw [e3, List.drop_drop]
    have c0 := hf.c0
    have c1 := hf.c1
    have f1 := hf.fz 1
    have b1 : (p : Int) ≤ (p : Int) + (n : Int) := by omega
    have b2 : (p : Int) + (n : Int) ≤ (s.length : Int) := by omega
    have b3 : ((p : Int) + (n : Int)).toNat = p + n := by omega
    have E3 := Lib.hid e3
    clear e1 e2 e3
    go_quiet (fail)
    go_wp2_with fail
    go_ret
    exact ⟨rfl, ⟨p + n, false, Rf.set1 (hf.grown (grown_drewN w3 nq none) (by simp)) (p + n), by omega, by simp, fun _ => by rw [htd]⟩, g1.trans ((grown_any (g3.trans (grown_drewN _ nq _)) _).trans (grown_setCell _ _ _ _))⟩
theorem rtext_k (w : World) (b : Nat) (s : List UInt8) (hs : s.length ≤ 1000000) (st : Option (List UInt8)) (h : Rr w b s st) :
    Calls Tryz.prog 42 #[.pointer (some ⟨b, 0, none⟩)] w fun e w' => e = .returned (.string ⟨(valOf textP st).toArray⟩) ∧ Rr w' b s (restOf textP st) ∧ w.grownBy w' (some b) := by
  cases hn : st.bind (numP 58) with
  | none =>
    have hk := rnum_none w b s hs 58 (by decide) st h hn
    have h2 : st.bind textP = none := by
      cases st with
      | none => rfl
      | some l => simp only [Option.bind_some] at hn ⊢; simp [textP, hn]
    simpa [valOf, restOf, h2, dflt] using rtext_bad w b s st hk
  | some r =>
    obtain ⟨n, t⟩ := r
    have hk := rnum_some w b s hs 58 (by decide) st h hn
    have h2 : st.bind textP = if 0 ≤ n ∧ n ≤ t.length then some (t.take n.toNat, t.drop n.toNat) else none := by
      cases st with
      | none => simp at hn
      | some l => simp only [Option.bind_some] at hn ⊢; simp [textP, hn]
    by_cases hneg : n < 0
    · rw [if_neg (by omega)] at h2
      simpa [valOf, restOf, h2, dflt] using rtext_neg w b s n hneg t hk
    · obtain ⟨m, rfl⟩ := Int.eq_ofNat_of_zero_le (Int.not_lt.1 hneg)
      by_cases hlong : t.length < m
      · rw [if_neg (by omega)] at h2
        simpa [valOf, restOf, h2, dflt] using rtext_long w b s hs m t hlong hk
      · rw [if_pos (by omega)] at h2
        simpa [valOf, restOf, h2, dflt] using rtext_ok w b s hs m t (by omega) hk

end Go.Proofs.YtnkemoicgadefaaGreatDoor.Wire
namespace Go.Proofs.YtnkemoicgadefaaGreatDoor.Wire
open Go.RowKit
attribute [local go_sem] get_mk extract_mk

theorem rr_own {w a c : World} {b e size n : Nat} {v : Value} {xs : List Value} {s : List UInt8} {st : Option (List UInt8)} (hr : Rr a b s st) (h : a.ownsRow w.heap.size e size v n xs) (hb : b < w.heap.size) (o : Obj) (hc : (a.alloc o).grownBy c v.ownBlock) : Rr c b s st :=
  (hr.grown (World.grownBy_alloc a o none) (by simp)).grown hc (fun e => by
    have := (h.lt b e.symm).1
    omega)
set_option maxRecDepth 100000 in
theorem rints_no (w : World) (b : Nat) (s : List UInt8) (hs : s.length ≤ 1000000) (st : Option (List UInt8)) (h : Rr w b s st) (hne : ∀ l, st ≠ some (91 :: l)) :
    Calls Tryz.prog 43 #[.pointer (some ⟨b, 0, none⟩)] w fun e w' => e = .returned (.slice none 0 0) ∧ Rr w' b s none ∧ w.grownBy w' (some b) := by
  have hk := Lib.hid (rByte_f w b s hs 91 91 rfl st h hne)
  clear hne
  go_enter Tryz.func43, Tryz.ntmps43
  go_wp2_with (first
    | (go_at_call 75; refine hk.out.mono ?_; rintro e w1 ⟨rfl, g1⟩; have h1 := Rr.grown h g1 (by simp))
    | (go_at_call 74; refine (rFail _ _ _ _ h1).mono ?_; rintro e w2 ⟨rfl, h2, g2⟩))
  go_ret
  exact ⟨rfl, h2, (grown_any g1 _).trans g2⟩

def Rint (w : World) (b : Nat) (s0 s : List UInt8) (R : Option (List Int × List UInt8)) (g : Nat) (out : Value) (wr : World) : Prop :=
  ∃ (l : List Int) (r : List UInt8), wr.ownsRow w.heap.size 3 1 out l.length (l.map (.int .i64)) ∧ Rr wr b s0 (some r) ∧ w.grownBy wr (some b) ∧ r.length < g ∧ l.length + r.length ≤ s.length ∧ Way intP R g l r
set_option maxRecDepth 100000 in
set_option maxHeartbeats 2000000 in
theorem rints_go (w : World) (b : Nat) (s0 : List UInt8) (hs0 : s0.length ≤ 1000000) (s : List UInt8) (hs : s.length ≤ 1000000) (h : Rr w b s0 (some (91 :: s))) :
    Calls Tryz.prog 43 #[.pointer (some ⟨b, 0, none⟩)] w fun e w' => ∃ v, e = .returned v ∧
      w'.ownsRow w.heap.size 3 1 v (valOf (listP intP) (some (91 :: s))).length ((valOf (listP intP) (some (91 :: s))).map (.int .i64)) ∧ Rr w' b s0 (restOf (listP intP) (some (91 :: s))) ∧ w.grownBy w' (some b) := by
  have hk := Lib.hid (rByte_t w b s0 hs0 91 91 rfl s h)
  obtain ⟨i0, hi0, hz0, hz1, hz2⟩ := info_parts int_info
  have hbw := h.lt
  generalize hR : listP intP (91 :: s) = R
  have hst : Way intP R (s.length + 1) [] s := by
    rw [← hR]
    exact way_start intP s _
  have Hst := Lib.hid hst
  have HR := Lib.hid hR
  clear hst hR
  go_enter Tryz.func43, Tryz.ntmps43
  go_wp2_with (go_at_call 75; refine hk.out.mono ?_; rintro e w1 ⟨rfl, hr1, hg1⟩)
  go_loopg [3] (s.length + 1) (fun g out wr => Rint w b s0 s R g out wr)
  case atStart => exact ⟨[], s, World.ownsRow_nil _ _ _ _, hr1, hg1, by omega, by simp, Hst.out⟩
  case round =>
    obtain ⟨l, r, hown, hr, hg, hlt, hlen, hway⟩ := hrel
    obtain ⟨g, rfl⟩ : ∃ g, gk = g + 1 := ⟨gk - 1, by omega⟩
    have Hway := Lib.hid hway
    clear hway
    by_cases h93 : ∃ t, r = 93 :: t
    · obtain ⟨t, rfl⟩ := h93
      have hs1 := Lib.hid (rByte_t wr b s0 hs0 93 93 rfl t hr)
      go_wp2_with (go_at_call 75; refine hs1.out.mono ?_; rintro e w2 ⟨rfl, hr2, hg2⟩)
      go_ret
      have hR := HR.out
      rw [way_end intP Hway.out] at hR
      have e1 : valOf (listP intP) (some (91 :: s)) = l := by simp [valOf, hR]
      have e2 : restOf (listP intP) (some (91 :: s)) = some t := by simp [restOf, hR]
      rw [e1, e2]
      exact ⟨_, rfl, own_kept hown hg2 hbw, hr2, hg.trans hg2⟩
    · have h93' : ∀ t, r ≠ 93 :: t := fun t e => h93 ⟨t, e⟩
      have hs1 := Lib.hid (rByte_f wr b s0 hs0 93 93 rfl (some r) hr (fun l e => h93' l (Option.some.inj e)))
      have H93 := Lib.hid h93'
      clear h93 h93'
      have hn : Hid (∀ wq, Rr wq b s0 (some r) → _) := Lib.hid (fun wq hq => rint_k wq b s0 hs0 (some r) hq)
      cases hp : intP r with
      | none =>
        have e1 : restOf intP (some r) = none := by simp [restOf, hp]
        have e2 : valOf intP (some r) = 0 := by simp [valOf, hp]
        rw [e1, e2] at hn
        have hp' := Lib.hid hp
        clear hp e1 e2
        go_wp2_with (first
          | (go_at_call 75; refine hs1.out.mono ?_; rintro e w2 ⟨rfl, hg2⟩; have hr2 := Rr.grown hr hg2 (by simp); have hown2 := own_kept hown (grown_any hg2 (some b)) hbw)
          | (go_at_call 41; refine (hn.out _ hr2).mono ?_; rintro e w3 ⟨rfl, hr3, hg3⟩; have hown3 := own_kept hown2 hg3 hbw)
          | (go_at_call 45; refine (rBad _ b _ _ hr4).mono ?_; rintro e w4 ⟨rfl, rfl⟩)
          | (at_builtin; refine wpList_append_own _ rfl _ _ 22 rfl w.heap.size 3 i0 (.int .i64 0) 1 8 Tryz.underlying22 hi0 hz0 hz1 hz2 rfl (by decide) _ _ _ rfl (hown3.alloc _) ⟨w3.heap.size, 0, none⟩ 1 1 [.int .i64 0] rfl rfl (cell_one _ _ _) (one_cell rfl) (by simp only [maxLen]; omega) (by omega) (Nat.le_trans hg.size (Nat.le_trans hg2.size (Nat.le_trans hg3.size (by simp)))) ?_; intro v5 w5 hown5 hgr5 hat5; have hr4 := rr_own hr3 hown3 hbw _ hgr5; have hg5 := grown_own ((hg.trans (grown_any hg2 _)).trans hg3) hown3 _ hgr5))
        go_ret
        have hR := HR.out
        rw [way_bad intP Hway.out H93.out hp'.out] at hR
        have e1 : valOf (listP intP) (some (91 :: s)) = [] := by simp [valOf, hR, dflt']
        have e2 : restOf (listP intP) (some (91 :: s)) = none := by simp [restOf, hR]
        rw [e1, e2]
        exact ⟨_, rfl, World.ownsRow_nil _ _ _ _, hr4, hg5⟩
      | some x =>
        obtain ⟨v, t⟩ := x
        have e1 : restOf intP (some r) = some t := by simp [restOf, hp]
        have e2 : valOf intP (some r) = v := by simp [valOf, hp]
        rw [e1, e2] at hn
        have hp' := Lib.hid hp
        clear hp e1 e2
        go_wp2_with (first
          | (go_at_call 75; refine hs1.out.mono ?_; rintro e w2 ⟨rfl, hg2⟩; have hr2 := Rr.grown hr hg2 (by simp); have hown2 := own_kept hown (grown_any hg2 (some b)) hbw)
          | (go_at_call 41; refine (hn.out _ hr2).mono ?_; rintro e w3 ⟨rfl, hr3, hg3⟩; have hown3 := own_kept hown2 hg3 hbw)
          | (go_at_call 45; refine (rBad _ b _ _ hr4).mono ?_; rintro e w4 ⟨rfl, rfl⟩)
          | (at_builtin; refine wpList_append_own _ rfl _ _ 22 rfl w.heap.size 3 i0 (.int .i64 0) 1 8 Tryz.underlying22 hi0 hz0 hz1 hz2 rfl (by decide) _ _ _ rfl (hown3.alloc _) ⟨w3.heap.size, 0, none⟩ 1 1 [.int .i64 v] rfl rfl (cell_one _ _ _) (one_cell rfl) (by simp only [maxLen]; omega) (by omega) (Nat.le_trans hg.size (Nat.le_trans hg2.size (Nat.le_trans hg3.size (by simp)))) ?_; intro v5 w5 hown5 hgr5 hat5; have hr4 := rr_own hr3 hown3 hbw _ hgr5; have hg5 := grown_own ((hg.trans (grown_any hg2 _)).trans hg3) hown3 _ hgr5))
        go_roundg g
        case measure => omega
        case rel =>
          refine ⟨l ++ [v], t, ?_, hr4, hg5, ?_, ?_, way_next intP Hway.out H93.out hp'.out⟩
          · simpa using hown5
          · have := ((intP_iff _ _ _).1 hp'.out).2
            have := serI_ne v
            simp_all
            omega
          · have := ((intP_iff _ _ _).1 hp'.out).2
            have := serI_ne v
            simp_all
            omega
theorem rints_k (w : World) (b : Nat) (s0 : List UInt8) (hs0 : s0.length ≤ 1000000) (st : Option (List UInt8)) (h : Rr w b s0 st) :
    Calls Tryz.prog 43 #[.pointer (some ⟨b, 0, none⟩)] w fun e w' => ∃ v, e = .returned v ∧
      w'.ownsRow w.heap.size 3 1 v (valOf (listP intP) st).length ((valOf (listP intP) st).map (.int .i64)) ∧ Rr w' b s0 (restOf (listP intP) st) ∧ w.grownBy w' (some b) := by
  by_cases h91 : ∃ s, st = some (91 :: s)
  · obtain ⟨s, rfl⟩ := h91
    refine rints_go w b s0 hs0 s ?_ h
    obtain ⟨p, d, h, hp, h1, h2⟩ := h
    cases d with
    | true => cases h1 rfl
    | false =>
      have h3 := h2 rfl
      injection h3 with h3
      have := congrArg List.length h3
      simp at this
      omega
  · have hne : ∀ l, st ≠ some (91 :: l) := fun l e => h91 ⟨l, e⟩
    have e0 := list_no intP st hne
    have e1 : valOf (listP intP) st = [] := by simp [valOf, e0, dflt']
    have e2 : restOf (listP intP) st = none := by simp [restOf, e0]
    rw [e1, e2]
    refine (rints_no w b s0 hs0 st h hne).mono fun e w' ⟨he, hr, hg⟩ => ⟨_, he, World.ownsRow_nil _ _ _ _, hr, hg⟩
set_option maxRecDepth 100000 in
theorem rtexts_no (w : World) (b : Nat) (s : List UInt8) (hs : s.length ≤ 1000000) (st : Option (List UInt8)) (h : Rr w b s st) (hne : ∀ l, st ≠ some (91 :: l)) :
    Calls Tryz.prog 44 #[.pointer (some ⟨b, 0, none⟩)] w fun e w' => e = .returned (.slice none 0 0) ∧ Rr w' b s none ∧ w.grownBy w' (some b) := by
  have hk := Lib.hid (rByte_f w b s hs 91 91 rfl st h hne)
  clear hne
  go_enter Tryz.func44, Tryz.ntmps44
  go_wp2_with (first
    | (go_at_call 75; refine hk.out.mono ?_; rintro e w1 ⟨rfl, g1⟩; have h1 := Rr.grown h g1 (by simp))
    | (go_at_call 74; refine (rFail _ _ _ _ h1).mono ?_; rintro e w2 ⟨rfl, h2, g2⟩))
  go_ret
  exact ⟨rfl, h2, (grown_any g1 _).trans g2⟩

def Rtext (w : World) (b : Nat) (s0 s : List UInt8) (R : Option (List (List UInt8) × List UInt8)) (g : Nat) (out : Value) (wr : World) : Prop :=
  ∃ (l : List (List UInt8)) (r : List UInt8), wr.ownsRow w.heap.size 9 1 out l.length (l.map (fun x => Value.string ⟨x.toArray⟩)) ∧ Rr wr b s0 (some r) ∧ w.grownBy wr (some b) ∧ r.length < g ∧ l.length + r.length ≤ s.length ∧ Way textP R g l r
set_option maxRecDepth 100000 in
set_option maxHeartbeats 2000000 in
theorem rtexts_go (w : World) (b : Nat) (s0 : List UInt8) (hs0 : s0.length ≤ 1000000) (s : List UInt8) (hs : s.length ≤ 1000000) (h : Rr w b s0 (some (91 :: s))) :
    Calls Tryz.prog 44 #[.pointer (some ⟨b, 0, none⟩)] w fun e w' => ∃ v, e = .returned v ∧
      w'.ownsRow w.heap.size 9 1 v (valOf (listP textP) (some (91 :: s))).length ((valOf (listP textP) (some (91 :: s))).map (fun x => Value.string ⟨x.toArray⟩)) ∧ Rr w' b s0 (restOf (listP textP) (some (91 :: s))) ∧ w.grownBy w' (some b) := by
  have hk := Lib.hid (rByte_t w b s0 hs0 91 91 rfl s h)
  obtain ⟨i0, hi0, hz0, hz1, hz2⟩ := info_parts text_info
  have hbw := h.lt
  generalize hR : listP textP (91 :: s) = R
  have hst : Way textP R (s.length + 1) [] s := by
    rw [← hR]
    exact way_start textP s _
  have Hst := Lib.hid hst
  have HR := Lib.hid hR
  clear hst hR
  go_enter Tryz.func44, Tryz.ntmps44
  go_wp2_with (go_at_call 75; refine hk.out.mono ?_; rintro e w1 ⟨rfl, hr1, hg1⟩)
  go_loopg [3] (s.length + 1) (fun g out wr => Rtext w b s0 s R g out wr)
  case atStart => exact ⟨[], s, World.ownsRow_nil _ _ _ _, hr1, hg1, by omega, by simp, Hst.out⟩
  case round =>
    obtain ⟨l, r, hown, hr, hg, hlt, hlen, hway⟩ := hrel
    obtain ⟨g, rfl⟩ : ∃ g, gk = g + 1 := ⟨gk - 1, by omega⟩
    have Hway := Lib.hid hway
    clear hway
    by_cases h93 : ∃ t, r = 93 :: t
    · obtain ⟨t, rfl⟩ := h93
      have hs1 := Lib.hid (rByte_t wr b s0 hs0 93 93 rfl t hr)
      go_wp2_with (go_at_call 75; refine hs1.out.mono ?_; rintro e w2 ⟨rfl, hr2, hg2⟩)
      go_ret
      have hR := HR.out
      rw [way_end textP Hway.out] at hR
      have e1 : valOf (listP textP) (some (91 :: s)) = l := by simp [valOf, hR]
      have e2 : restOf (listP textP) (some (91 :: s)) = some t := by simp [restOf, hR]
      rw [e1, e2]
      exact ⟨_, rfl, own_kept hown hg2 hbw, hr2, hg.trans hg2⟩
    · have h93' : ∀ t, r ≠ 93 :: t := fun t e => h93 ⟨t, e⟩
      have hs1 := Lib.hid (rByte_f wr b s0 hs0 93 93 rfl (some r) hr (fun l e => h93' l (Option.some.inj e)))
      have H93 := Lib.hid h93'
      clear h93 h93'
      have hn : Hid (∀ wq, Rr wq b s0 (some r) → _) := Lib.hid (fun wq hq => rtext_k wq b s0 hs0 (some r) hq)
      cases hp : textP r with
      | none =>
        have e1 : restOf textP (some r) = none := by simp [restOf, hp]
        have e2 : valOf textP (some r) = [] := by simp [valOf, hp]; rfl
        rw [e1, e2] at hn
        have hp' := Lib.hid hp
        clear hp e1 e2
        go_wp2_with (first
          | (go_at_call 75; refine hs1.out.mono ?_; rintro e w2 ⟨rfl, hg2⟩; have hr2 := Rr.grown hr hg2 (by simp); have hown2 := own_kept hown (grown_any hg2 (some b)) hbw)
          | (go_at_call 42; refine (hn.out _ hr2).mono ?_; rintro e w3 ⟨rfl, hr3, hg3⟩; have hown3 := own_kept hown2 hg3 hbw)
          | (go_at_call 45; refine (rBad _ b _ _ hr4).mono ?_; rintro e w4 ⟨rfl, rfl⟩)
          | (at_builtin; refine wpList_append_own _ rfl _ _ 37 rfl w.heap.size 9 i0 (.string ⟨#[]⟩) 1 16 Tryz.underlying37 hi0 hz0 hz1 hz2 rfl (by decide) _ _ _ rfl (hown3.alloc _) ⟨w3.heap.size, 0, none⟩ 1 1 [.string ⟨#[]⟩] rfl rfl (cell_one _ _ _) (one_cell rfl) (by simp only [maxLen]; omega) (by omega) (Nat.le_trans hg.size (Nat.le_trans hg2.size (Nat.le_trans hg3.size (by simp)))) ?_; intro v5 w5 hown5 hgr5 hat5; have hr4 := rr_own hr3 hown3 hbw _ hgr5; have hg5 := grown_own ((hg.trans (grown_any hg2 _)).trans hg3) hown3 _ hgr5))
        go_ret
        have hR := HR.out
        rw [way_bad textP Hway.out H93.out hp'.out] at hR
        have e1 : valOf (listP textP) (some (91 :: s)) = [] := by simp [valOf, hR, dflt']
        have e2 : restOf (listP textP) (some (91 :: s)) = none := by simp [restOf, hR]
        rw [e1, e2]
        exact ⟨_, rfl, World.ownsRow_nil _ _ _ _, hr4, hg5⟩
      | some x =>
        obtain ⟨v, t⟩ := x
        have e1 : restOf textP (some r) = some t := by simp [restOf, hp]
        have e2 : valOf textP (some r) = v := by simp [valOf, hp]
        rw [e1, e2] at hn
        have hp' := Lib.hid hp
        clear hp e1 e2
        go_wp2_with (first
          | (go_at_call 75; refine hs1.out.mono ?_; rintro e w2 ⟨rfl, hg2⟩; have hr2 := Rr.grown hr hg2 (by simp); have hown2 := own_kept hown (grown_any hg2 (some b)) hbw)
          | (go_at_call 42; refine (hn.out _ hr2).mono ?_; rintro e w3 ⟨rfl, hr3, hg3⟩; have hown3 := own_kept hown2 hg3 hbw)
          | (go_at_call 45; refine (rBad _ b _ _ hr4).mono ?_; rintro e w4 ⟨rfl, rfl⟩)
          | (at_builtin; refine wpList_append_own _ rfl _ _ 37 rfl w.heap.size 9 i0 (.string ⟨#[]⟩) 1 16 Tryz.underlying37 hi0 hz0 hz1 hz2 rfl (by decide) _ _ _ rfl (hown3.alloc _) ⟨w3.heap.size, 0, none⟩ 1 1 [(.string ⟨v.toArray⟩)] rfl rfl (cell_one _ _ _) (one_cell rfl) (by simp only [maxLen]; omega) (by omega) (Nat.le_trans hg.size (Nat.le_trans hg2.size (Nat.le_trans hg3.size (by simp)))) ?_; intro v5 w5 hown5 hgr5 hat5; have hr4 := rr_own hr3 hown3 hbw _ hgr5; have hg5 := grown_own ((hg.trans (grown_any hg2 _)).trans hg3) hown3 _ hgr5))
        go_roundg g
        case measure => omega
        case rel =>
          refine ⟨l ++ [v], t, ?_, hr4, hg5, ?_, ?_, way_next textP Hway.out H93.out hp'.out⟩
          · simpa using hown5
          · have := ((textP_iff _ _ _).1 hp'.out).2
            have := serT_ne v
            simp_all
            omega
          · have := ((textP_iff _ _ _).1 hp'.out).2
            have := serT_ne v
            simp_all
            omega
theorem rtexts_k (w : World) (b : Nat) (s0 : List UInt8) (hs0 : s0.length ≤ 1000000) (st : Option (List UInt8)) (h : Rr w b s0 st) :
    Calls Tryz.prog 44 #[.pointer (some ⟨b, 0, none⟩)] w fun e w' => ∃ v, e = .returned v ∧
      w'.ownsRow w.heap.size 9 1 v (valOf (listP textP) st).length ((valOf (listP textP) st).map (fun x => Value.string ⟨x.toArray⟩)) ∧ Rr w' b s0 (restOf (listP textP) st) ∧ w.grownBy w' (some b) := by
  by_cases h91 : ∃ s, st = some (91 :: s)
  · obtain ⟨s, rfl⟩ := h91
    refine rtexts_go w b s0 hs0 s ?_ h
    obtain ⟨p, d, h, hp, h1, h2⟩ := h
    cases d with
    | true => cases h1 rfl
    | false =>
      have h3 := h2 rfl
      injection h3 with h3
      have := congrArg List.length h3
      simp at this
      omega
  · have hne : ∀ l, st ≠ some (91 :: l) := fun l e => h91 ⟨l, e⟩
    have e0 := list_no textP st hne
    have e1 : valOf (listP textP) st = [] := by simp [valOf, e0, dflt']
    have e2 : restOf (listP textP) st = none := by simp [restOf, e0]
    rw [e1, e2]
    refine (rtexts_no w b s0 hs0 st h hne).mono fun e w' ⟨he, hr, hg⟩ => ⟨_, he, World.ownsRow_nil _ _ _ _, hr, hg⟩
end Go.Proofs.YtnkemoicgadefaaGreatDoor.Wire
