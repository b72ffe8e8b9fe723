/-
  Text and Parse of the program, by their contracts.
-/
import Derived.Test.YtekhdcfnpgkodaaDoorBase
import Derived.Test.YtekhdcfnpgkodaaDoorOf
namespace Go.Proofs.YtekhdcfnpgkodaaDoor
open Go.RowKit
theorem get_mk (l : List UInt8) (i : Nat) (h : i < (⟨l.toArray⟩ : ByteArray).size) : (⟨l.toArray⟩ : ByteArray)[i]'h = l[i]'(by simpa [ByteArray.size] using h) := rfl
theorem extract_mk (l : List UInt8) (i j : Nat) : (⟨l.toArray⟩ : ByteArray).extract i j = ⟨((l.take j).drop i).toArray⟩ := by
  apply ByteArray.ext
  simp [List.drop_take]
attribute [local go_sem] get_mk extract_mk
theorem text_k (n d : Int) (hn : i64 n) (hd : i64 d) (w : World) (hb : Base w) :
    Calls Tryd.prog 24 #[.agg #[.int .i64 n, .int .i64 d]] w fun e w' => e = .returned (.string ⟨(textV n d).toArray⟩) ∧ w.grownBy w' none := by
  have Kr := Lib.hid (right_k n d hn hd)
  have gg := World.grownBy_alloc w (.cells #[.int .i64 n, .int .i64 d] 24) none
  have R := R2.new w n d
  have HB := Lib.hid hb
  have Kn := Lib.hid (itoa_k n hn)
  have Kd := Lib.hid (itoa_k d hd)
  have hl := itoa_len hn
  have hl2 := itoa_len hd
  have hl' : ¬ 9223372036854775807 < (Lib.itoa n).length + 1 := by omega
  have hl2' : ¬ 9223372036854775807 < (Lib.itoa n).length + 1 + (Lib.itoa d).length := by omega
  clear hb hn hd
  cases hr : rightB n d with
  | false =>
    have e1 : textV n d = [] := by unfold textV; simp [hr]
    rw [e1]
    rw [hr] at Kr
    clear hr e1
    go_enter Tryd.func24, Tryd.ntmps24
    go_wp2_with fail
    refine (Kr.out _).mono ?_
    rintro e w1 ⟨rfl, g⟩
    have gg := gg.trans g
    clear g Kr
    go_wp2_with fail
    go_ret
    exact ⟨rfl, gg⟩
  | true =>
    have e1 : Hid (textV n d = textL n d) := Lib.hid (by unfold textV; simp [hr])
    rw [hr] at Kr
    clear hr
    by_cases hd1 : d = 1
    · subst hd1
      go_enter Tryd.func24, Tryd.ntmps24
      go_wp2_with fail
      refine (Kr.out _).mono ?_
      rintro e w1 ⟨rfl, g⟩
      have R := R.kept g
      have gg := gg.trans g
      have hb1 := HB.out.none_ gg
      clear g Kr
      have c0 := R.c0
      have c1 := R.c1
      go_wp2_with fail
      refine (Kn.out _ hb1).mono ?_
      rintro e w2 ⟨rfl, g⟩
      have R := R.kept g
      have gg := gg.trans g
      clear g Kn hb1 c0 c1
      have c0 := R.c0
      have c1 := R.c1
      go_wp2_with fail
      go_ret
      exact ⟨ret_str (by rw [e1.out]; rfl), gg⟩
    · have hd2 : (d == 1) = false := by simpa using hd1
      have e2 : Hid (textL n d = Lib.itoa n ++ 47 :: Lib.itoa d) := Lib.hid (by unfold textL; rw [if_neg hd1])
      clear hd1
      go_enter Tryd.func24, Tryd.ntmps24
      go_wp2_with fail
      refine (Kr.out _).mono ?_
      rintro e w1 ⟨rfl, g⟩
      have R := R.kept g
      have gg := gg.trans g
      have hb1 := HB.out.none_ gg
      clear g Kr
      have c0 := R.c0
      have c1 := R.c1
      go_wp2_with fail
      refine (Kn.out _ hb1).mono ?_
      rintro e w2 ⟨rfl, g⟩
      have R := R.kept g
      have gg := gg.trans g
      have hb2 := HB.out.none_ gg
      clear g Kn hb1 c0 c1
      have c0 := R.c0
      have c1 := R.c1
      go_wp2_with fail
      refine (Kd.out _ hb2).mono ?_
      rintro e w3 ⟨rfl, g⟩
      have gg := gg.trans g
      clear g Kd hb2 c0 c1
      go_wp2_with fail
      go_ret
      exact ⟨ret_str (by rw [e1.out, e2.out, str_app _ [47], str_app]; simp), gg⟩
end Go.Proofs.YtekhdcfnpgkodaaDoor
