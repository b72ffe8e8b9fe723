/-
  The reference's decimal, Int, Text, by their contracts.
-/
import Derived.Test.YtmohcanfkcopiaaDoorList
import Derived.Deep.LoopGhost
namespace Go.Proofs.YtmohcanfkcopiaaDoor
open Go.RowKit
attribute [local go_sem] get_mk extract_mk

def DecSaid (n : Int) : Prop := ∀ w, Calls Tryd.prog 39 #[.int .i64 n] w fun e w' => e = .returned (.string ⟨(Lib.itoa n).toArray⟩) ∧ w.grownBy w' none

theorem dig_conv (n : Int) (w : World) : (convert 31 9 (.slice (some ⟨w.heap.size, 0, none⟩) 1 1)).run Tryd.prog (w.alloc (.cells #[.int .u8 (48 + n)] 5)) = .ok (.string (strOfNums [48 + n])) (w.alloc (.cells #[.int .u8 (48 + n)] 5)) := by
  refine run_convert_bytes_arg _ 31 5 Tryd.underlying31 Tryd.underlying5 w.heap.size 0 1 1 [48 + n] rfl ?_ 9 Tryd.underlying9
  intro i hi
  obtain rfl : i = 0 := by omega
  simp
set_option maxHeartbeats 400000 in
theorem dec_one (n : Int) (h0 : 0 ≤ n) (h1 : n < 10) : DecSaid n := by
  intro w
  have hc := dig_conv n w
  have hs : strOfNums [48 + n] = ⟨(Lib.itoa n).toArray⟩ := by
    obtain ⟨u, rfl⟩ : ∃ u : Nat, n = u := ⟨n.toNat, by omega⟩
    rw [itoa_pos' (by omega), dec_small (by omega)]
    simp only [strOfNums, List.map]
    congr 3
  go_enter Tryd.func39, Tryd.ntmps39
  go_wp2_with fail
  go_ret
  exact ⟨rfl, ⟨rfl, rfl, rfl, Nat.le_of_lt (by rw [World.size_alloc]; omega), fun i hi _ => by rw [World.alloc, Array.getElem?_push]; simp only [Nat.ne_of_lt hi, if_false]⟩⟩
set_option maxHeartbeats 400000 in
theorem dec_pos (n : Int) (h0 : 10 ≤ n) (h1 : I64 n) (hr : DecSaid (n / 10)) (hl : DecSaid (n % 10)) : DecSaid n := by
  intro w
  have he : Lib.itoa n = Lib.itoa (n / 10) ++ Lib.itoa (n % 10) := by
    rw [itoa_pos' (by omega), itoa_pos' (by omega), itoa_pos' (by omega), dec_big (by omega), dec_small (u := (n % 10).toNat) (by omega)]
    congr 2
    · congr 1; omega
    · congr 2; omega
  have l1 : (Lib.itoa (n / 10)).length ≤ 20 := itoa_len ⟨by omega, by have := h1.2; omega⟩
  have l2 : (Lib.itoa (n % 10)).length ≤ 20 := itoa_len ⟨by omega, by omega⟩
  have He := Lib.hid he
  have Hr := Lib.hid hr
  have Hl := Lib.hid hl
  have hi1 : (0 : Int) ≤ n := by omega
  have hi2 := h1.2
  have d1 : ¬ n < 10 := by omega
  have d2 : ¬ n < 0 := by omega
  clear hr hl he
  go_enter Tryd.func39, Tryd.ntmps39
  go_wp2_with fail
  refine (Hr.out w).mono ?_
  rintro e w1 ⟨rfl, g1⟩
  go_wp2_with fail
  refine (Hl.out w1).mono ?_
  rintro e w2 ⟨rfl, g2⟩
  go_wp2_with fail
  go_ret
  exact ⟨ret_str (by rw [He.out, str_app]), g1.trans g2⟩
set_option maxHeartbeats 400000 in
theorem dec_neg (n a b : Int) (h0 : n < 0) (ha : wrap64 (n.tdiv 10) = a) (hb : wrap64 (-n.tmod 10) = b) (hne : (a == 0) = false) (l1 : (Lib.itoa a).length ≤ 20) (l2 : (Lib.itoa b).length ≤ 20)
    (he : Lib.itoa n = Lib.itoa a ++ Lib.itoa b) (hr : DecSaid a) (hl : DecSaid b) : DecSaid n := by
  intro w
  have He := Lib.hid he
  have Hr := Lib.hid hr
  have Hl := Lib.hid hl
  have d1 : ¬ 0 ≤ n := by omega
  clear hr hl he
  go_enter Tryd.func39, Tryd.ntmps39
  go_wp2_with fail
  refine (Hr.out w).mono ?_
  rintro e w1 ⟨rfl, g1⟩
  go_wp2_with fail
  refine (Hl.out w1).mono ?_
  rintro e w2 ⟨rfl, g2⟩
  go_wp2_with fail
  go_ret
  exact ⟨ret_str (by rw [He.out, str_app]), g1.trans g2⟩
set_option maxHeartbeats 400000 in
theorem dec_mone (n b : Int) (h0 : n < 0) (ha : wrap64 (n.tdiv 10) = 0) (hb : wrap64 (-n.tmod 10) = b) (l2 : (Lib.itoa b).length ≤ 20)
    (he : Lib.itoa n = 45 :: Lib.itoa b) (hl : DecSaid b) : DecSaid n := by
  intro w
  have He := Lib.hid he
  have Hl := Lib.hid hl
  have d1 : ¬ 0 ≤ n := by omega
  clear hl he
  go_enter Tryd.func39, Tryd.ntmps39
  go_wp2_with fail
  refine (Hl.out w).mono ?_
  rintro e w2 ⟨rfl, g2⟩
  go_wp2_with fail
  go_ret
  exact ⟨ret_str (by rw [He.out]; exact str_app [45] _), g2⟩

theorem dec_all : ∀ (m : Nat) (n : Int), n.natAbs ≤ m → I64 n → DecSaid n := by
  intro m
  induction m with
  | zero => intro n h _; exact dec_one n (by omega) (by omega)
  | succ m ih =>
    intro n h h64
    obtain ⟨lo, hi⟩ := h64
    by_cases h0 : 0 ≤ n
    · by_cases h1 : n < 10
      · exact dec_one n h0 h1
      · exact dec_pos n (by omega) ⟨lo, hi⟩ (ih _ (by omega) ⟨by omega, by omega⟩) (ih _ (by omega) ⟨by omega, by omega⟩)
    · obtain ⟨u, hu⟩ : ∃ u : Nat, n = -(u : Int) := ⟨n.natAbs, by omega⟩
      have e1 : n.tdiv 10 = -((u / 10 : Nat) : Int) := by rw [hu, Int.neg_tdiv]; rfl
      have e2 : n.tmod 10 = -((u % 10 : Nat) : Int) := by rw [hu, Int.neg_tmod]; rfl
      have hb : wrap64 (-n.tmod 10) = ((u % 10 : Nat) : Int) := by rw [e2]; unfold wrap64; omega
      have db : DecSaid ((u % 10 : Nat) : Int) := dec_one _ (by omega) (by omega)
      have lb : (Lib.itoa ((u % 10 : Nat) : Int)).length ≤ 20 := itoa_len ⟨by omega, by omega⟩
      have ib : Lib.itoa ((u % 10 : Nat) : Int) = [UInt8.ofNat (48 + u % 10)] := by rw [itoa_pos' (by omega), dec_small (by omega)]; rfl
      have inn : Lib.itoa n = 45 :: Lib.decDigits u := by rw [itoa_neg' (by omega)]; congr 2; omega
      by_cases h1 : u < 10
      · refine dec_mone n _ (by omega) (by rw [e1]; unfold wrap64; omega) hb lb ?_ db
        rw [inn, ib, dec_small h1]
        congr 3
        omega
      · refine dec_neg n (-((u / 10 : Nat) : Int)) _ (by omega) (by rw [e1]; unfold wrap64; omega) hb (by rw [beq_eq_false_iff_ne]; omega) (itoa_len ⟨by omega, by omega⟩) lb ?_ (ih _ (by omega) ⟨by omega, by omega⟩) db
        rw [inn, ib, itoa_neg' (by omega), dec_big h1, List.cons_append]
        congr 3
        omega
theorem dec_k (n : Int) (h : I64 n) : DecSaid n := dec_all n.natAbs n (Nat.le_refl _) h

set_option maxHeartbeats 400000 in
/-- quadriviumref01.Int -/
theorem rInt (n : Int) (h : I64 n) (w : World) :
    Calls Tryd.prog 13 #[.int .i64 n] w fun e w' => e = .returned (.string ⟨(serI n).toArray⟩) ∧ w.grownBy w' none := by
  have hl := itoa_len h
  have hl' : ¬ 9223372036854775807 < (Lib.itoa n).length + 1 := by omega
  go_enter Tryd.func13, Tryd.ntmps13
  go_wp2_with (go_at_call 39; refine (dec_k n h w).mono ?_; rintro e w' ⟨rfl, hg⟩)
  go_ret
  exact ⟨ret_str (str_app _ [59]), hg⟩
set_option maxHeartbeats 400000 in
/-- quadriviumref01.Text -/
theorem rText (l : List UInt8) (hl : l.length ≤ 4611686018427387904) (w : World) :
    Calls Tryd.prog 15 #[.string ⟨l.toArray⟩] w fun e w' => e = .returned (.string ⟨(serT l).toArray⟩) ∧ w.grownBy w' none := by
  have hi : I64 (l.length : Int) := ⟨by omega, by omega⟩
  have hk := itoa_len hi
  go_enter Tryd.func15, Tryd.ntmps15
  go_wp2_with (go_at_call 39; refine (dec_k _ hi w).mono ?_; rintro e w' ⟨rfl, hg⟩)
  go_ret
  exact ⟨ret_str (by rw [str_app _ [58], str_app, serT, List.append_assoc]; rfl), hg⟩
end Go.Proofs.YtmohcanfkcopiaaDoor
