/-
  The law RatioLowest.
-/
import Derived.Test.YtekhdcfnpgkodaaDoorSane
namespace Go.Proofs.YtekhdcfnpgkodaaDoor
open Go.RowKit
theorem ok_of_small (p q : Int) (h : q ≠ 0) (h1 : -1073741824 ≤ p) (h2 : p ≤ 1073741824) (h3 : -1073741824 ≤ q) (h4 : q ≤ 1073741824) : okB p q = true := by
  have := upN_le p q
  have := dnN_le p q
  exact (ok_iff p q).2 ⟨h, by omega, by omega⟩
set_option maxRecDepth 100000 in
set_option maxHeartbeats 2000000 in
theorem lowest_walk (n d k : Int) (w : World) (hb : Base w) : Calls Tryd.prog 8 #[.int .i64 n, .int .i64 d, .int .i64 k] w fun e w' => e = .returned (.bool true) ∧ w.grownBy w' none := by
  have S := Lib.hid (sane_k w hb)
  obtain ⟨p1, p2⟩ := tm_in n 1073741824 (by decide)
  obtain ⟨q1, q2⟩ := tm_in d 1073741824 (by decide)
  obtain ⟨k1, k2⟩ := tm_in k 1048576 (by decide)
  obtain ⟨p, hp⟩ : ∃ p, n.tmod 1073741824 = p := ⟨_, rfl⟩
  obtain ⟨q, hq⟩ : ∃ q, d.tmod 1073741824 = q := ⟨_, rfl⟩
  obtain ⟨u, hu⟩ : ∃ u, k.tmod 1048576 % 1048576 = u := ⟨_, rfl⟩
  have u1 : 0 ≤ u := by omega
  have u2 : u < 1048576 := by omega
  rw [hp] at p1 p2
  rw [hq] at q1 q2
  have a1 : -1125899906842624 ≤ p * (u + 1) ∧ p * (u + 1) ≤ 1125899906842624 := by
    have h : (p * (u + 1)).natAbs ≤ 1073741824 * 1048576 := by rw [Int.natAbs_mul]; exact Nat.mul_le_mul (by omega) (by omega)
    omega
  have b1 : -1125899906842624 ≤ q * (u + 1) ∧ q * (u + 1) ≤ 1125899906842624 := by
    have h : (q * (u + 1)).natAbs ≤ 1073741824 * 1048576 := by rw [Int.natAbs_mul]; exact Nat.mul_le_mul (by omega) (by omega)
    omega
  obtain ⟨a1, a2⟩ := a1
  obtain ⟨b1, b2⟩ := b1
  have K1 := Lib.hid (of_k p q ⟨by omega, by omega⟩ ⟨by omega, by omega⟩)
  have K2 := Lib.hid (of_k (p * (u + 1)) (q * (u + 1)) ⟨by omega, by omega⟩ ⟨by omega, by omega⟩)
  have K3 := Lib.hid (of_k (-p) (-q) ⟨by omega, by omega⟩ ⟨by omega, by omega⟩)
  obtain ⟨e1, e2, e3⟩ := of_scale p q (u + 1) (by omega)
  obtain ⟨f1, f2, f3⟩ := of_scale p q (-1) (by omega)
  rw [Int.mul_neg_one, Int.mul_neg_one] at f1 f2 f3
  rw [e1, e2, e3] at K2
  rw [f1, f2, f3] at K3
  clear e1 e2 e3 f1 f2 f3
  by_cases h0 : q = 0
  · have g1 : ofN p q = 0 := by subst h0; simp [ofN, okB]
    have g2 : ofD p q = 0 := by subst h0; simp [ofD, okB]
    have g3 : ofE p q = 1 := by subst h0; simp [ofE, okB]
    rw [g1, g2, g3] at K1 K2 K3
    clear g1 g2 g3
    have h1 : (q == 0) = true := by simpa using h0
    have H0 := Lib.hid h0
    clear h0
    go_enter Tryd.func8, Tryd.ntmps8
    go_wp2_with fail
    refine S.out.mono ?_
    rintro e x1 ⟨rfl, gg⟩
    go_wp2_with fail
    refine (K1.out _).mono ?_
    rintro e x2 ⟨rfl, g⟩
    have R1 := R2.new x2 0 0
    have gg := grown_al (o := .cells #[.int .i64 0, .int .i64 0] 24) (gg.trans g)
    clear g
    go_wp2_with fail
    refine (K2.out _).mono ?_
    rintro e x3 ⟨rfl, g⟩
    have R1 := R1.kept (grown_al (o := .cells #[.int .i64 0, .int .i64 0] 24) g)
    have R2' := R2.new x3 0 0
    have gg := grown_al (o := .cells #[.int .i64 0, .int .i64 0] 24) (gg.trans g)
    clear g
    go_wp2_with fail
    refine (K3.out _).mono ?_
    rintro e x4 ⟨rfl, g⟩
    have R1 := R1.kept (grown_al (o := .cells #[.int .i64 0, .int .i64 0] 24) g)
    have R2' := R2'.kept (grown_al (o := .cells #[.int .i64 0, .int .i64 0] 24) g)
    have R3 := R2.new x4 0 0
    have gg := grown_al (o := .cells #[.int .i64 0, .int .i64 0] 24) (gg.trans g)
    clear g
    have c1 := R1.c0
    have c2 := R1.c1
    have c3 := R2'.c0
    have c4 := R2'.c1
    have c5 := R3.c0
    have c6 := R3.c1
    go_wp2_with fail
    go_ret
    exact ⟨rfl, gg⟩
  · have hok : okB p q = true := ok_of_small p q h0 (by omega) (by omega) (by omega) (by omega)
    obtain ⟨o1, o2⟩ := of_ok hok
    obtain ⟨r1, r2, r3, r4, _⟩ := (right_iff _ _).1 o1
    rw [of_yes hok] at K1 K2 K3
    have h1 : (q == 0) = false := by simpa using h0
    have H0 := Lib.hid h0
    by_cases hp0 : p = 0
    · obtain ⟨z1, z2, z3⟩ := of_mk (n := p) (d := q) (N := 0) (D := 1) (by decide) h0 (by rw [hp0]; simp)
      rw [z2, z3] at K1 K2 K3
      have hp1 : (p == 0) = true := by simpa using hp0
      have hp2 : (p != 0) = false := by simpa using hp0
      have HP := Lib.hid hp0
      have o3 : ((0 : Int) == p) = true := by simp [hp0]
      clear h0 hp0 o1 o2 r1 r2 r3 r4 z1 z2 z3 hok
      go_enter Tryd.func8, Tryd.ntmps8
      go_wp2_with fail
      refine S.out.mono ?_
      rintro e x1 ⟨rfl, gg⟩
      go_wp2_with fail
      refine (K1.out _).mono ?_
      rintro e x2 ⟨rfl, g⟩
      have R1 := R2.new x2 0 1
      have gg := grown_al (o := .cells #[.int .i64 0, .int .i64 1] 24) (gg.trans g)
      clear g
      go_wp2_with fail
      refine (K2.out _).mono ?_
      rintro e x3 ⟨rfl, g⟩
      have R1 := R1.kept (grown_al (o := .cells #[.int .i64 0, .int .i64 1] 24) g)
      have R2' := R2.new x3 0 1
      have gg := grown_al (o := .cells #[.int .i64 0, .int .i64 1] 24) (gg.trans g)
      clear g
      go_wp2_with fail
      refine (K3.out _).mono ?_
      rintro e x4 ⟨rfl, g⟩
      have R1 := R1.kept (grown_al (o := .cells #[.int .i64 0, .int .i64 1] 24) g)
      have R2' := R2'.kept (grown_al (o := .cells #[.int .i64 0, .int .i64 1] 24) g)
      have R3 := R2.new x4 0 1
      have gg := grown_al (o := .cells #[.int .i64 0, .int .i64 1] 24) (gg.trans g)
      clear g
      have c1 := R1.c0
      have c2 := R1.c1
      have c3 := R2'.c0
      have c4 := R2'.c1
      have c5 := R3.c0
      have c6 := R3.c1
      go_wp2_with fail
      go_ret
      exact ⟨rfl, gg⟩
    · have hp1 : (p == 0) = false := by simpa using hp0
      have hp2 : (p != 0) = true := by simpa using hp0
      have m1 := prod_le (a := ofN p q) (b := q) r3 r4 (by omega) (by omega)
      have m2 := prod_le (a := p) (b := ofD p q) (by omega) (by omega) (by omega) r2
      have o3 : (ofN p q * q == p * ofD p q) = true := by simpa using o2
      have O2 := Lib.hid o2
      obtain ⟨m1, m3⟩ := m1
      obtain ⟨m2, m4⟩ := m2
      clear o1 o2 hok h0 hp0
      generalize ofN p q = rn at *
      generalize ofD p q = rd at *
      go_enter Tryd.func8, Tryd.ntmps8
      go_wp2_with fail
      refine S.out.mono ?_
      rintro e x1 ⟨rfl, gg⟩
      go_wp2_with fail
      refine (K1.out _).mono ?_
      rintro e x2 ⟨rfl, g⟩
      have R1 := R2.new x2 rn rd
      have gg := grown_al (o := .cells #[.int .i64 rn, .int .i64 rd] 24) (gg.trans g)
      clear g
      go_wp2_with fail
      refine (K2.out _).mono ?_
      rintro e x3 ⟨rfl, g⟩
      have R1 := R1.kept (grown_al (o := .cells #[.int .i64 rn, .int .i64 rd] 24) g)
      have R2' := R2.new x3 rn rd
      have gg := grown_al (o := .cells #[.int .i64 rn, .int .i64 rd] 24) (gg.trans g)
      clear g
      go_wp2_with fail
      refine (K3.out _).mono ?_
      rintro e x4 ⟨rfl, g⟩
      have R1 := R1.kept (grown_al (o := .cells #[.int .i64 rn, .int .i64 rd] 24) g)
      have R2' := R2'.kept (grown_al (o := .cells #[.int .i64 rn, .int .i64 rd] 24) g)
      have R3 := R2.new x4 rn rd
      have gg := grown_al (o := .cells #[.int .i64 rn, .int .i64 rd] 24) (gg.trans g)
      clear g
      have c1 := R1.c0
      have c2 := R1.c1
      have c3 := R2'.c0
      have c4 := R2'.c1
      have c5 := R3.c0
      have c6 := R3.c1
      go_wp2_with fail
      go_ret
      exact ⟨rfl, gg⟩
end Go.Proofs.YtekhdcfnpgkodaaDoor
