/-
  Sums, differences, products and comparisons of both, by their contracts.
-/
import Derived.Test.YtekhdcfnpgkodaaDoorOf
import Derived.Test.YtekhdcfnpgkodaaDoorOrd
namespace Go.Proofs.YtekhdcfnpgkodaaDoor
open Go.RowKit
def addN (n d m c : Int) : Int := if rightB n d && rightB m c then ofN (n * c + m * d) (d * c) else 0
def addD (n d m c : Int) : Int := if rightB n d && rightB m c then ofD (n * c + m * d) (d * c) else 0
def addE (n d m c : Int) : Int := if rightB n d && rightB m c then ofE (n * c + m * d) (d * c) else 1
def mulN (n d m c : Int) : Int := if rightB n d && rightB m c then ofN (n * m) (d * c) else 0
def mulD (n d m c : Int) : Int := if rightB n d && rightB m c then ofD (n * m) (d * c) else 0
def mulE (n d m c : Int) : Int := if rightB n d && rightB m c then ofE (n * m) (d * c) else 1
def cmpV (n d m c : Int) : Int := if rightB n d && rightB m c then cmpI (n * c) (m * d) else 0
theorem box2 (w : World) (n d m c : Int) : ∃ w0, w0 = (w.alloc (.cells #[.int .i64 n, .int .i64 d] 24)).alloc (.cells #[.int .i64 m, .int .i64 c] 24) ∧ R2 w0 w.heap.size n d ∧ R2 w0 (w.heap.size + 1) m c ∧ w.grownBy w0 none ∧ w0.heap.size = w.heap.size + 2 :=
  ⟨_, rfl, (R2.new w n d).kept (World.grownBy_alloc _ _ none), by have h := R2.new (w.alloc (.cells #[.int .i64 n, .int .i64 d] 24)) m c; simpa using h, (World.grownBy_alloc w _ none).trans (World.grownBy_alloc _ _ none), by simp⟩
theorem box3 (w : World) (n d m c : Int) : ∃ w0, w0 = ((w.alloc (.cells #[.int .i64 n, .int .i64 d] 24)).alloc (.cells #[.int .i64 m, .int .i64 c] 24)).alloc (.cells #[.int .i64 0, .int .i64 0] 24) ∧ R2 w0 w.heap.size n d ∧ R2 w0 (w.heap.size + 1) m c ∧ R2 w0 (w.heap.size + 2) 0 0 ∧ w.grownBy w0 none ∧ w0.heap.size = w.heap.size + 3 := by
  obtain ⟨w0, rfl, h1, h2, h3, h4⟩ := box2 w n d m c
  have g := World.grownBy_alloc ((w.alloc (.cells #[.int .i64 n, .int .i64 d] 24)).alloc (.cells #[.int .i64 m, .int .i64 c] 24)) (.cells #[.int .i64 0, .int .i64 0] 24) none
  refine ⟨_, rfl, h1.kept g, h2.kept g, ?_, h3.trans g, by simp⟩
  have h := R2.new ((w.alloc (.cells #[.int .i64 n, .int .i64 d] 24)).alloc (.cells #[.int .i64 m, .int .i64 c] 24)) 0 0
  simpa using h
theorem compare_k (a b : Int) (w : World) : Calls Tryd.prog 35 #[.int .i64 a, .int .i64 b] w fun e w' => e = .returned (.int .i64 (cmpI a b)) ∧ w = w' := by
  rcases Int.lt_trichotomy a b with h | h | h
  · have e1 : cmpI a b = -1 := by unfold cmpI; rw [if_pos h]
    rw [e1]
    clear e1
    go_enter Tryd.func35, Tryd.ntmps35
    go_wp2
    go_ret
    exact ⟨rfl, rfl⟩
  · subst h
    rw [cmpI_self]
    go_enter Tryd.func35, Tryd.ntmps35
    go_wp2
    go_ret
    exact ⟨rfl, rfl⟩
  · have e1 : cmpI a b = 1 := by unfold cmpI; rw [if_neg (by omega), if_pos h]
    rw [e1]
    clear e1
    have h2 : ¬ a < b := by omega
    go_enter Tryd.func35, Tryd.ntmps35
    go_wp2
    go_ret
    exact ⟨rfl, rfl⟩
set_option maxRecDepth 100000 in
set_option maxHeartbeats 1000000 in
theorem add_at (n d m c rn rd re : Int) (hn : i64 n) (hd : i64 d) (hm : i64 m) (hc : i64 c) (w : World) (hrn : addN n d m c = rn) (hrd : addD n d m c = rd) (hre : addE n d m c = re) :
    Calls Tryd.prog 13 #[.agg #[.int .i64 n, .int .i64 d], .agg #[.int .i64 m, .int .i64 c]] w fun e w' => e = .returned (.tuple #[.agg #[.int .i64 rn, .int .i64 rd], .int .i64 re]) ∧ w.grownBy w' none := by
  obtain ⟨w0, hw0, Ra, Rb, Rz, gg, hsz⟩ := box3 w n d m c
  have H0 := Lib.hid hw0
  have HS := Lib.hid hsz
  clear hw0 hsz
  have Ka := Lib.hid (right_k n d hn hd)
  have Kb := Lib.hid (right_k m c hm hc)
  by_cases ha : rightB n d = true
  · by_cases hb : rightB m c = true
    · obtain ⟨a1, a2, a3, a4, _⟩ := (right_iff n d).1 ha
      obtain ⟨b1, b2, b3, b4, _⟩ := (right_iff m c).1 hb
      rw [ha] at Ka
      rw [hb] at Kb
      have HN : Hid (rn = ofN (n * c + m * d) (d * c) ∧ rd = ofD (n * c + m * d) (d * c) ∧ re = ofE (n * c + m * d) (d * c)) := Lib.hid ⟨by rw [← hrn]; simp [addN, ha, hb], by rw [← hrd]; simp [addD, ha, hb], by rw [← hre]; simp [addE, ha, hb]⟩
      clear hrn hrd hre
      obtain ⟨p1, p2⟩ := prod_le a3 a4 (by omega) b2
      obtain ⟨q1, q2⟩ := prod_le b3 b4 (by omega) a2
      obtain ⟨s1, s2⟩ := prod_le (a := d) (by omega) a2 (by omega) b2
      have s3 : 0 < d * c := Int.mul_pos (by omega) (by omega)
      clear a1 a2 a3 a4 b1 b2 b3 b4 ha hb
      go_enter Tryd.func13, Tryd.ntmps13
      go_wp2_with fail
      rw [← H0.out]
      refine (Ka.out _).mono ?_
      rintro e w1 ⟨rfl, g⟩
      have Ra := Ra.kept g
      have Rb := Rb.kept g
      have Rz := Rz.kept g
      have gg := gg.trans g
      clear g
      have a0 := Ra.c0
      have a1 := Ra.c1
      have af0 := Ra.f0
      have af1 := Ra.f1
      have al := Ra.lt
      have b0 := Rb.c0
      have b1 := Rb.c1
      have bf0 := Rb.f0
      have bf1 := Rb.f1
      have bl := Rb.lt
      have z0 := Rz.c0
      have z1 := Rz.c1
      have zf0 := Rz.f0
      have zf1 := Rz.f1
      have zl := Rz.lt
      go_wp2_with fail
      refine (Kb.out _).mono ?_
      rintro e w2 ⟨rfl, g⟩
      clear a0 a1 af0 af1 al b0 b1 bf0 bf1 bl z0 z1 zf0 zf1 zl
      have Ra := Ra.kept g
      have Rb := Rb.kept g
      have Rz := Rz.kept g
      have gg := gg.trans g
      clear g
      have a0 := Ra.c0
      have a1 := Ra.c1
      have af0 := Ra.f0
      have af1 := Ra.f1
      have al := Ra.lt
      have b0 := Rb.c0
      have b1 := Rb.c1
      have bf0 := Rb.f0
      have bf1 := Rb.f1
      have bl := Rb.lt
      have z0 := Rz.c0
      have z1 := Rz.c1
      have zf0 := Rz.f0
      have zf1 := Rz.f1
      have zl := Rz.lt
      go_wp2_with fail
      refine (over2 (d * c) (n * c) (m * d) _ _ _ ⟨by omega, by omega⟩ (by omega) ⟨by omega, by omega⟩ ⟨by omega, by omega⟩ (cell_at rfl) (cell_at rfl)).mono ?_
      rintro e w3 ⟨rfl, g⟩
      have g := (World.grownBy_alloc _ _ none).trans g
      clear a0 a1 af0 af1 al b0 b1 bf0 bf1 bl z0 z1 zf0 zf1 zl
      have Rz := Rz.kept g
      have gg := gg.trans g
      clear g
      have z0 := Rz.c0
      have z1 := Rz.c1
      have zf0 := Rz.f0
      have zf1 := Rz.f1
      have zl := Rz.lt
      go_wp2_with fail
      obtain ⟨h1, h2, h3⟩ := HN.out
      subst h1 h2 h3
      have Rz := Rz.set (ofN (n * c + m * d) (d * c)) (ofD (n * c + m * d) (d * c))
      exact bodyPost_ret (v := .tuple #[.agg #[.int .i64 (ofN (n * c + m * d) (d * c)), .int .i64 (ofD (n * c + m * d) (d * c))], .int .i64 (ofE (n * c + m * d) (d * c))]) (by simp [results, Tryd.results13, go_sem, Rz.c0, Rz.c1]) rfl ⟨rfl, (by
        (repeat (first | refine grown_set ?_ (.inl (by first | omega | simp)) | refine grown_al ?_ | refine grown_dn ?_)); exact gg)⟩
    · obtain rfl : rn = 0 := by rw [← hrn]; simp [addN, hb]
      obtain rfl : rd = 0 := by rw [← hrd]; simp [addD, hb]
      obtain rfl : re = 1 := by rw [← hre]; simp [addE, hb]
      clear hrn hrd hre
      rw [ha] at Ka
      have hb : rightB m c = false := by simpa using hb
      rw [hb] at Kb
      clear ha hb
      go_enter Tryd.func13, Tryd.ntmps13
      go_wp2_with fail
      rw [← H0.out]
      refine (Ka.out _).mono ?_
      rintro e w1 ⟨rfl, g⟩
      have Ra := Ra.kept g
      have Rb := Rb.kept g
      have Rz := Rz.kept g
      have gg := gg.trans g
      clear g
      have a0 := Ra.c0
      have a1 := Ra.c1
      have af0 := Ra.f0
      have af1 := Ra.f1
      have al := Ra.lt
      have b0 := Rb.c0
      have b1 := Rb.c1
      have bf0 := Rb.f0
      have bf1 := Rb.f1
      have bl := Rb.lt
      have z0 := Rz.c0
      have z1 := Rz.c1
      have zf0 := Rz.f0
      have zf1 := Rz.f1
      have zl := Rz.lt
      go_wp2_with fail
      refine (Kb.out _).mono ?_
      rintro e w2 ⟨rfl, g⟩
      clear a0 a1 af0 af1 al b0 b1 bf0 bf1 bl z0 z1 zf0 zf1 zl
      have Ra := Ra.kept g
      have Rb := Rb.kept g
      have Rz := Rz.kept g
      have gg := gg.trans g
      clear g
      have a0 := Ra.c0
      have a1 := Ra.c1
      have af0 := Ra.f0
      have af1 := Ra.f1
      have al := Ra.lt
      have b0 := Rb.c0
      have b1 := Rb.c1
      have bf0 := Rb.f0
      have bf1 := Rb.f1
      have bl := Rb.lt
      have z0 := Rz.c0
      have z1 := Rz.c1
      have zf0 := Rz.f0
      have zf1 := Rz.f1
      have zl := Rz.lt
      go_wp2_with fail
      have Rz := Rz.set 0 0
      exact bodyPost_ret (v := .tuple #[.agg #[.int .i64 0, .int .i64 0], .int .i64 1]) (by simp [results, Tryd.results13, go_sem, Rz.c0, Rz.c1]) rfl ⟨rfl, (by
        (repeat (first | refine grown_set ?_ (.inl (by first | omega | simp)) | refine grown_al ?_ | refine grown_dn ?_)); exact gg)⟩
  · have ha : rightB n d = false := by simpa using ha
    obtain rfl : rn = 0 := by rw [← hrn]; simp [addN, ha]
    obtain rfl : rd = 0 := by rw [← hrd]; simp [addD, ha]
    obtain rfl : re = 1 := by rw [← hre]; simp [addE, ha]
    clear hrn hrd hre
    rw [ha] at Ka
    clear ha
    go_enter Tryd.func13, Tryd.ntmps13
    go_wp2_with fail
    rw [← H0.out]
    refine (Ka.out _).mono ?_
    rintro e w1 ⟨rfl, g⟩
    have Ra := Ra.kept g
    have Rb := Rb.kept g
    have Rz := Rz.kept g
    have gg := gg.trans g
    clear g
    have a0 := Ra.c0
    have a1 := Ra.c1
    have af0 := Ra.f0
    have af1 := Ra.f1
    have al := Ra.lt
    have b0 := Rb.c0
    have b1 := Rb.c1
    have bf0 := Rb.f0
    have bf1 := Rb.f1
    have bl := Rb.lt
    have z0 := Rz.c0
    have z1 := Rz.c1
    have zf0 := Rz.f0
    have zf1 := Rz.f1
    have zl := Rz.lt
    go_wp2_with fail
    have Rz := Rz.set 0 0
    exact bodyPost_ret (v := .tuple #[.agg #[.int .i64 0, .int .i64 0], .int .i64 1]) (by simp [results, Tryd.results13, go_sem, Rz.c0, Rz.c1]) rfl ⟨rfl, (by
      (repeat (first | refine grown_set ?_ (.inl (by first | omega | simp)) | refine grown_al ?_ | refine grown_dn ?_)); exact gg)⟩
set_option maxRecDepth 100000 in
set_option maxHeartbeats 1000000 in
theorem addr_at (n d m c rn rd re : Int) (hn : i64 n) (hd : i64 d) (hm : i64 m) (hc : i64 c) (w : World) (hrn : addN n d m c = rn) (hrd : addD n d m c = rd) (hre : addE n d m c = re) :
    Calls Tryd.prog 14 #[.agg #[.int .i64 n, .int .i64 d], .agg #[.int .i64 m, .int .i64 c]] w fun e w' => e = .returned (.tuple #[.agg #[.int .i64 rn, .int .i64 rd], .int .i64 re]) ∧ w.grownBy w' none := by
  obtain ⟨w0, hw0, Ra, Rb, Rz, gg, hsz⟩ := box3 w n d m c
  have H0 := Lib.hid hw0
  have HS := Lib.hid hsz
  clear hw0 hsz
  have Ka := Lib.hid (right_r n d hn hd)
  have Kb := Lib.hid (right_r m c hm hc)
  by_cases ha : rightB n d = true
  · by_cases hb : rightB m c = true
    · obtain ⟨a1, a2, a3, a4, _⟩ := (right_iff n d).1 ha
      obtain ⟨b1, b2, b3, b4, _⟩ := (right_iff m c).1 hb
      rw [ha] at Ka
      rw [hb] at Kb
      have HN : Hid (rn = ofN (n * c + m * d) (d * c) ∧ rd = ofD (n * c + m * d) (d * c) ∧ re = ofE (n * c + m * d) (d * c)) := Lib.hid ⟨by rw [← hrn]; simp [addN, ha, hb], by rw [← hrd]; simp [addD, ha, hb], by rw [← hre]; simp [addE, ha, hb]⟩
      clear hrn hrd hre
      obtain ⟨p1, p2⟩ := prod_le a3 a4 (by omega) b2
      obtain ⟨q1, q2⟩ := prod_le b3 b4 (by omega) a2
      obtain ⟨s1, s2⟩ := prod_le (a := d) (by omega) a2 (by omega) b2
      have s3 : 0 < d * c := Int.mul_pos (by omega) (by omega)
      clear a1 a2 a3 a4 b1 b2 b3 b4 ha hb
      go_enter Tryd.func14, Tryd.ntmps14
      go_wp2_with fail
      rw [← H0.out]
      refine (Ka.out _).mono ?_
      rintro e w1 ⟨rfl, g⟩
      have Ra := Ra.kept g
      have Rb := Rb.kept g
      have Rz := Rz.kept g
      have gg := gg.trans g
      clear g
      have a0 := Ra.c0
      have a1 := Ra.c1
      have af0 := Ra.f0
      have af1 := Ra.f1
      have al := Ra.lt
      have b0 := Rb.c0
      have b1 := Rb.c1
      have bf0 := Rb.f0
      have bf1 := Rb.f1
      have bl := Rb.lt
      have z0 := Rz.c0
      have z1 := Rz.c1
      have zf0 := Rz.f0
      have zf1 := Rz.f1
      have zl := Rz.lt
      go_wp2_with fail
      refine (Kb.out _).mono ?_
      rintro e w2 ⟨rfl, g⟩
      clear a0 a1 af0 af1 al b0 b1 bf0 bf1 bl z0 z1 zf0 zf1 zl
      have Ra := Ra.kept g
      have Rb := Rb.kept g
      have Rz := Rz.kept g
      have gg := gg.trans g
      clear g
      have a0 := Ra.c0
      have a1 := Ra.c1
      have af0 := Ra.f0
      have af1 := Ra.f1
      have al := Ra.lt
      have b0 := Rb.c0
      have b1 := Rb.c1
      have bf0 := Rb.f0
      have bf1 := Rb.f1
      have bl := Rb.lt
      have z0 := Rz.c0
      have z1 := Rz.c1
      have zf0 := Rz.f0
      have zf1 := Rz.f1
      have zl := Rz.lt
      go_wp2_with fail
      refine (of_r (n * c + m * d) (d * c) ⟨by omega, by omega⟩ ⟨by omega, by omega⟩ _).mono ?_
      rintro e w3 ⟨rfl, g⟩
      clear a0 a1 af0 af1 al b0 b1 bf0 bf1 bl z0 z1 zf0 zf1 zl
      have Ra := Ra.kept g
      have Rb := Rb.kept g
      have Rz := Rz.kept g
      have gg := gg.trans g
      clear g
      have a0 := Ra.c0
      have a1 := Ra.c1
      have af0 := Ra.f0
      have af1 := Ra.f1
      have al := Ra.lt
      have b0 := Rb.c0
      have b1 := Rb.c1
      have bf0 := Rb.f0
      have bf1 := Rb.f1
      have bl := Rb.lt
      have z0 := Rz.c0
      have z1 := Rz.c1
      have zf0 := Rz.f0
      have zf1 := Rz.f1
      have zl := Rz.lt
      go_wp2_with fail
      obtain ⟨h1, h2, h3⟩ := HN.out
      subst h1 h2 h3
      have Rz := Rz.set (ofN (n * c + m * d) (d * c)) (ofD (n * c + m * d) (d * c))
      exact bodyPost_ret (v := .tuple #[.agg #[.int .i64 (ofN (n * c + m * d) (d * c)), .int .i64 (ofD (n * c + m * d) (d * c))], .int .i64 (ofE (n * c + m * d) (d * c))]) (by simp [results, Tryd.results14, go_sem, Rz.c0, Rz.c1]) rfl ⟨rfl, (by
        (repeat (first | refine grown_set ?_ (.inl (by first | omega | simp)) | refine grown_al ?_ | refine grown_dn ?_)); exact gg)⟩
    · obtain rfl : rn = 0 := by rw [← hrn]; simp [addN, hb]
      obtain rfl : rd = 0 := by rw [← hrd]; simp [addD, hb]
      obtain rfl : re = 1 := by rw [← hre]; simp [addE, hb]
      clear hrn hrd hre
      rw [ha] at Ka
      have hb : rightB m c = false := by simpa using hb
      rw [hb] at Kb
      clear ha hb
      go_enter Tryd.func14, Tryd.ntmps14
      go_wp2_with fail
      rw [← H0.out]
      refine (Ka.out _).mono ?_
      rintro e w1 ⟨rfl, g⟩
      have Ra := Ra.kept g
      have Rb := Rb.kept g
      have Rz := Rz.kept g
      have gg := gg.trans g
      clear g
      have a0 := Ra.c0
      have a1 := Ra.c1
      have af0 := Ra.f0
      have af1 := Ra.f1
      have al := Ra.lt
      have b0 := Rb.c0
      have b1 := Rb.c1
      have bf0 := Rb.f0
      have bf1 := Rb.f1
      have bl := Rb.lt
      have z0 := Rz.c0
      have z1 := Rz.c1
      have zf0 := Rz.f0
      have zf1 := Rz.f1
      have zl := Rz.lt
      go_wp2_with fail
      refine (Kb.out _).mono ?_
      rintro e w2 ⟨rfl, g⟩
      clear a0 a1 af0 af1 al b0 b1 bf0 bf1 bl z0 z1 zf0 zf1 zl
      have Ra := Ra.kept g
      have Rb := Rb.kept g
      have Rz := Rz.kept g
      have gg := gg.trans g
      clear g
      have a0 := Ra.c0
      have a1 := Ra.c1
      have af0 := Ra.f0
      have af1 := Ra.f1
      have al := Ra.lt
      have b0 := Rb.c0
      have b1 := Rb.c1
      have bf0 := Rb.f0
      have bf1 := Rb.f1
      have bl := Rb.lt
      have z0 := Rz.c0
      have z1 := Rz.c1
      have zf0 := Rz.f0
      have zf1 := Rz.f1
      have zl := Rz.lt
      go_wp2_with fail
      have Rz := Rz.set 0 0
      exact bodyPost_ret (v := .tuple #[.agg #[.int .i64 0, .int .i64 0], .int .i64 1]) (by simp [results, Tryd.results14, go_sem, Rz.c0, Rz.c1]) rfl ⟨rfl, (by
        (repeat (first | refine grown_set ?_ (.inl (by first | omega | simp)) | refine grown_al ?_ | refine grown_dn ?_)); exact gg)⟩
  · have ha : rightB n d = false := by simpa using ha
    obtain rfl : rn = 0 := by rw [← hrn]; simp [addN, ha]
    obtain rfl : rd = 0 := by rw [← hrd]; simp [addD, ha]
    obtain rfl : re = 1 := by rw [← hre]; simp [addE, ha]
    clear hrn hrd hre
    rw [ha] at Ka
    clear ha
    go_enter Tryd.func14, Tryd.ntmps14
    go_wp2_with fail
    rw [← H0.out]
    refine (Ka.out _).mono ?_
    rintro e w1 ⟨rfl, g⟩
    have Ra := Ra.kept g
    have Rb := Rb.kept g
    have Rz := Rz.kept g
    have gg := gg.trans g
    clear g
    have a0 := Ra.c0
    have a1 := Ra.c1
    have af0 := Ra.f0
    have af1 := Ra.f1
    have al := Ra.lt
    have b0 := Rb.c0
    have b1 := Rb.c1
    have bf0 := Rb.f0
    have bf1 := Rb.f1
    have bl := Rb.lt
    have z0 := Rz.c0
    have z1 := Rz.c1
    have zf0 := Rz.f0
    have zf1 := Rz.f1
    have zl := Rz.lt
    go_wp2_with fail
    refine (Kb.out _).mono ?_
    rintro e w2 ⟨rfl, g⟩
    clear a0 a1 af0 af1 al b0 b1 bf0 bf1 bl z0 z1 zf0 zf1 zl
    have Ra := Ra.kept g
    have Rb := Rb.kept g
    have Rz := Rz.kept g
    have gg := gg.trans g
    clear g
    have a0 := Ra.c0
    have a1 := Ra.c1
    have af0 := Ra.f0
    have af1 := Ra.f1
    have al := Ra.lt
    have b0 := Rb.c0
    have b1 := Rb.c1
    have bf0 := Rb.f0
    have bf1 := Rb.f1
    have bl := Rb.lt
    have z0 := Rz.c0
    have z1 := Rz.c1
    have zf0 := Rz.f0
    have zf1 := Rz.f1
    have zl := Rz.lt
    go_wp2_with fail
    have Rz := Rz.set 0 0
    exact bodyPost_ret (v := .tuple #[.agg #[.int .i64 0, .int .i64 0], .int .i64 1]) (by simp [results, Tryd.results14, go_sem, Rz.c0, Rz.c1]) rfl ⟨rfl, (by
      (repeat (first | refine grown_set ?_ (.inl (by first | omega | simp)) | refine grown_al ?_ | refine grown_dn ?_)); exact gg)⟩
set_option maxRecDepth 100000 in
set_option maxHeartbeats 1000000 in
theorem mul_at (n d m c rn rd re : Int) (hn : i64 n) (hd : i64 d) (hm : i64 m) (hc : i64 c) (w : World) (hrn : mulN n d m c = rn) (hrd : mulD n d m c = rd) (hre : mulE n d m c = re) :
    Calls Tryd.prog 19 #[.agg #[.int .i64 n, .int .i64 d], .agg #[.int .i64 m, .int .i64 c]] w fun e w' => e = .returned (.tuple #[.agg #[.int .i64 rn, .int .i64 rd], .int .i64 re]) ∧ w.grownBy w' none := by
  obtain ⟨w0, hw0, Ra, Rb, Rz, gg, hsz⟩ := box3 w n d m c
  have H0 := Lib.hid hw0
  have HS := Lib.hid hsz
  clear hw0 hsz
  have Ka := Lib.hid (right_k n d hn hd)
  have Kb := Lib.hid (right_k m c hm hc)
  by_cases ha : rightB n d = true
  · by_cases hb : rightB m c = true
    · obtain ⟨a1, a2, a3, a4, _⟩ := (right_iff n d).1 ha
      obtain ⟨b1, b2, b3, b4, _⟩ := (right_iff m c).1 hb
      rw [ha] at Ka
      rw [hb] at Kb
      have HN : Hid (rn = ofN (n * m) (d * c) ∧ rd = ofD (n * m) (d * c) ∧ re = ofE (n * m) (d * c)) := Lib.hid ⟨by rw [← hrn]; simp [mulN, ha, hb], by rw [← hrd]; simp [mulD, ha, hb], by rw [← hre]; simp [mulE, ha, hb]⟩
      clear hrn hrd hre
      obtain ⟨p1, p2⟩ := prod_le a3 a4 b3 b4
      obtain ⟨s1, s2⟩ := prod_le (a := d) (by omega) a2 (by omega) b2
      have s3 : 0 < d * c := Int.mul_pos (by omega) (by omega)
      clear a1 a2 a3 a4 b1 b2 b3 b4 ha hb
      go_enter Tryd.func19, Tryd.ntmps19
      go_wp2_with fail
      rw [← H0.out]
      refine (Ka.out _).mono ?_
      rintro e w1 ⟨rfl, g⟩
      have Ra := Ra.kept g
      have Rb := Rb.kept g
      have Rz := Rz.kept g
      have gg := gg.trans g
      clear g
      have a0 := Ra.c0
      have a1 := Ra.c1
      have af0 := Ra.f0
      have af1 := Ra.f1
      have al := Ra.lt
      have b0 := Rb.c0
      have b1 := Rb.c1
      have bf0 := Rb.f0
      have bf1 := Rb.f1
      have bl := Rb.lt
      have z0 := Rz.c0
      have z1 := Rz.c1
      have zf0 := Rz.f0
      have zf1 := Rz.f1
      have zl := Rz.lt
      go_wp2_with fail
      refine (Kb.out _).mono ?_
      rintro e w2 ⟨rfl, g⟩
      clear a0 a1 af0 af1 al b0 b1 bf0 bf1 bl z0 z1 zf0 zf1 zl
      have Ra := Ra.kept g
      have Rb := Rb.kept g
      have Rz := Rz.kept g
      have gg := gg.trans g
      clear g
      have a0 := Ra.c0
      have a1 := Ra.c1
      have af0 := Ra.f0
      have af1 := Ra.f1
      have al := Ra.lt
      have b0 := Rb.c0
      have b1 := Rb.c1
      have bf0 := Rb.f0
      have bf1 := Rb.f1
      have bl := Rb.lt
      have z0 := Rz.c0
      have z1 := Rz.c1
      have zf0 := Rz.f0
      have zf1 := Rz.f1
      have zl := Rz.lt
      go_wp2_with fail
      refine (over1 (d * c) (n * m) _ _ _ ⟨by omega, by omega⟩ (by omega) ⟨by omega, by omega⟩ (cell_at rfl)).mono ?_
      rintro e w3 ⟨rfl, g⟩
      have g := (World.grownBy_alloc _ _ none).trans g
      clear a0 a1 af0 af1 al b0 b1 bf0 bf1 bl z0 z1 zf0 zf1 zl
      have Rz := Rz.kept g
      have gg := gg.trans g
      clear g
      have z0 := Rz.c0
      have z1 := Rz.c1
      have zf0 := Rz.f0
      have zf1 := Rz.f1
      have zl := Rz.lt
      go_wp2_with fail
      obtain ⟨h1, h2, h3⟩ := HN.out
      subst h1 h2 h3
      have Rz := Rz.set (ofN (n * m) (d * c)) (ofD (n * m) (d * c))
      exact bodyPost_ret (v := .tuple #[.agg #[.int .i64 (ofN (n * m) (d * c)), .int .i64 (ofD (n * m) (d * c))], .int .i64 (ofE (n * m) (d * c))]) (by simp [results, Tryd.results19, go_sem, Rz.c0, Rz.c1]) rfl ⟨rfl, (by
        (repeat (first | refine grown_set ?_ (.inl (by first | omega | simp)) | refine grown_al ?_ | refine grown_dn ?_)); exact gg)⟩
    · obtain rfl : rn = 0 := by rw [← hrn]; simp [mulN, hb]
      obtain rfl : rd = 0 := by rw [← hrd]; simp [mulD, hb]
      obtain rfl : re = 1 := by rw [← hre]; simp [mulE, hb]
      clear hrn hrd hre
      rw [ha] at Ka
      have hb : rightB m c = false := by simpa using hb
      rw [hb] at Kb
      clear ha hb
      go_enter Tryd.func19, Tryd.ntmps19
      go_wp2_with fail
      rw [← H0.out]
      refine (Ka.out _).mono ?_
      rintro e w1 ⟨rfl, g⟩
      have Ra := Ra.kept g
      have Rb := Rb.kept g
      have Rz := Rz.kept g
      have gg := gg.trans g
      clear g
      have a0 := Ra.c0
      have a1 := Ra.c1
      have af0 := Ra.f0
      have af1 := Ra.f1
      have al := Ra.lt
      have b0 := Rb.c0
      have b1 := Rb.c1
      have bf0 := Rb.f0
      have bf1 := Rb.f1
      have bl := Rb.lt
      have z0 := Rz.c0
      have z1 := Rz.c1
      have zf0 := Rz.f0
      have zf1 := Rz.f1
      have zl := Rz.lt
      go_wp2_with fail
      refine (Kb.out _).mono ?_
      rintro e w2 ⟨rfl, g⟩
      clear a0 a1 af0 af1 al b0 b1 bf0 bf1 bl z0 z1 zf0 zf1 zl
      have Ra := Ra.kept g
      have Rb := Rb.kept g
      have Rz := Rz.kept g
      have gg := gg.trans g
      clear g
      have a0 := Ra.c0
      have a1 := Ra.c1
      have af0 := Ra.f0
      have af1 := Ra.f1
      have al := Ra.lt
      have b0 := Rb.c0
      have b1 := Rb.c1
      have bf0 := Rb.f0
      have bf1 := Rb.f1
      have bl := Rb.lt
      have z0 := Rz.c0
      have z1 := Rz.c1
      have zf0 := Rz.f0
      have zf1 := Rz.f1
      have zl := Rz.lt
      go_wp2_with fail
      have Rz := Rz.set 0 0
      exact bodyPost_ret (v := .tuple #[.agg #[.int .i64 0, .int .i64 0], .int .i64 1]) (by simp [results, Tryd.results19, go_sem, Rz.c0, Rz.c1]) rfl ⟨rfl, (by
        (repeat (first | refine grown_set ?_ (.inl (by first | omega | simp)) | refine grown_al ?_ | refine grown_dn ?_)); exact gg)⟩
  · have ha : rightB n d = false := by simpa using ha
    obtain rfl : rn = 0 := by rw [← hrn]; simp [mulN, ha]
    obtain rfl : rd = 0 := by rw [← hrd]; simp [mulD, ha]
    obtain rfl : re = 1 := by rw [← hre]; simp [mulE, ha]
    clear hrn hrd hre
    rw [ha] at Ka
    clear ha
    go_enter Tryd.func19, Tryd.ntmps19
    go_wp2_with fail
    rw [← H0.out]
    refine (Ka.out _).mono ?_
    rintro e w1 ⟨rfl, g⟩
    have Ra := Ra.kept g
    have Rb := Rb.kept g
    have Rz := Rz.kept g
    have gg := gg.trans g
    clear g
    have a0 := Ra.c0
    have a1 := Ra.c1
    have af0 := Ra.f0
    have af1 := Ra.f1
    have al := Ra.lt
    have b0 := Rb.c0
    have b1 := Rb.c1
    have bf0 := Rb.f0
    have bf1 := Rb.f1
    have bl := Rb.lt
    have z0 := Rz.c0
    have z1 := Rz.c1
    have zf0 := Rz.f0
    have zf1 := Rz.f1
    have zl := Rz.lt
    go_wp2_with fail
    have Rz := Rz.set 0 0
    exact bodyPost_ret (v := .tuple #[.agg #[.int .i64 0, .int .i64 0], .int .i64 1]) (by simp [results, Tryd.results19, go_sem, Rz.c0, Rz.c1]) rfl ⟨rfl, (by
      (repeat (first | refine grown_set ?_ (.inl (by first | omega | simp)) | refine grown_al ?_ | refine grown_dn ?_)); exact gg)⟩
set_option maxRecDepth 100000 in
set_option maxHeartbeats 1000000 in
theorem mulr_at (n d m c rn rd re : Int) (hn : i64 n) (hd : i64 d) (hm : i64 m) (hc : i64 c) (w : World) (hrn : mulN n d m c = rn) (hrd : mulD n d m c = rd) (hre : mulE n d m c = re) :
    Calls Tryd.prog 20 #[.agg #[.int .i64 n, .int .i64 d], .agg #[.int .i64 m, .int .i64 c]] w fun e w' => e = .returned (.tuple #[.agg #[.int .i64 rn, .int .i64 rd], .int .i64 re]) ∧ w.grownBy w' none := by
  obtain ⟨w0, hw0, Ra, Rb, Rz, gg, hsz⟩ := box3 w n d m c
  have H0 := Lib.hid hw0
  have HS := Lib.hid hsz
  clear hw0 hsz
  have Ka := Lib.hid (right_r n d hn hd)
  have Kb := Lib.hid (right_r m c hm hc)
  by_cases ha : rightB n d = true
  · by_cases hb : rightB m c = true
    · obtain ⟨a1, a2, a3, a4, _⟩ := (right_iff n d).1 ha
      obtain ⟨b1, b2, b3, b4, _⟩ := (right_iff m c).1 hb
      rw [ha] at Ka
      rw [hb] at Kb
      have HN : Hid (rn = ofN (n * m) (d * c) ∧ rd = ofD (n * m) (d * c) ∧ re = ofE (n * m) (d * c)) := Lib.hid ⟨by rw [← hrn]; simp [mulN, ha, hb], by rw [← hrd]; simp [mulD, ha, hb], by rw [← hre]; simp [mulE, ha, hb]⟩
      clear hrn hrd hre
      obtain ⟨p1, p2⟩ := prod_le a3 a4 b3 b4
      obtain ⟨s1, s2⟩ := prod_le (a := d) (by omega) a2 (by omega) b2
      have s3 : 0 < d * c := Int.mul_pos (by omega) (by omega)
      clear a1 a2 a3 a4 b1 b2 b3 b4 ha hb
      go_enter Tryd.func20, Tryd.ntmps20
      go_wp2_with fail
      rw [← H0.out]
      refine (Ka.out _).mono ?_
      rintro e w1 ⟨rfl, g⟩
      have Ra := Ra.kept g
      have Rb := Rb.kept g
      have Rz := Rz.kept g
      have gg := gg.trans g
      clear g
      have a0 := Ra.c0
      have a1 := Ra.c1
      have af0 := Ra.f0
      have af1 := Ra.f1
      have al := Ra.lt
      have b0 := Rb.c0
      have b1 := Rb.c1
      have bf0 := Rb.f0
      have bf1 := Rb.f1
      have bl := Rb.lt
      have z0 := Rz.c0
      have z1 := Rz.c1
      have zf0 := Rz.f0
      have zf1 := Rz.f1
      have zl := Rz.lt
      go_wp2_with fail
      refine (Kb.out _).mono ?_
      rintro e w2 ⟨rfl, g⟩
      clear a0 a1 af0 af1 al b0 b1 bf0 bf1 bl z0 z1 zf0 zf1 zl
      have Ra := Ra.kept g
      have Rb := Rb.kept g
      have Rz := Rz.kept g
      have gg := gg.trans g
      clear g
      have a0 := Ra.c0
      have a1 := Ra.c1
      have af0 := Ra.f0
      have af1 := Ra.f1
      have al := Ra.lt
      have b0 := Rb.c0
      have b1 := Rb.c1
      have bf0 := Rb.f0
      have bf1 := Rb.f1
      have bl := Rb.lt
      have z0 := Rz.c0
      have z1 := Rz.c1
      have zf0 := Rz.f0
      have zf1 := Rz.f1
      have zl := Rz.lt
      go_wp2_with fail
      refine (of_r (n * m) (d * c) ⟨by omega, by omega⟩ ⟨by omega, by omega⟩ _).mono ?_
      rintro e w3 ⟨rfl, g⟩
      clear a0 a1 af0 af1 al b0 b1 bf0 bf1 bl z0 z1 zf0 zf1 zl
      have Ra := Ra.kept g
      have Rb := Rb.kept g
      have Rz := Rz.kept g
      have gg := gg.trans g
      clear g
      have a0 := Ra.c0
      have a1 := Ra.c1
      have af0 := Ra.f0
      have af1 := Ra.f1
      have al := Ra.lt
      have b0 := Rb.c0
      have b1 := Rb.c1
      have bf0 := Rb.f0
      have bf1 := Rb.f1
      have bl := Rb.lt
      have z0 := Rz.c0
      have z1 := Rz.c1
      have zf0 := Rz.f0
      have zf1 := Rz.f1
      have zl := Rz.lt
      go_wp2_with fail
      obtain ⟨h1, h2, h3⟩ := HN.out
      subst h1 h2 h3
      have Rz := Rz.set (ofN (n * m) (d * c)) (ofD (n * m) (d * c))
      exact bodyPost_ret (v := .tuple #[.agg #[.int .i64 (ofN (n * m) (d * c)), .int .i64 (ofD (n * m) (d * c))], .int .i64 (ofE (n * m) (d * c))]) (by simp [results, Tryd.results20, go_sem, Rz.c0, Rz.c1]) rfl ⟨rfl, (by
        (repeat (first | refine grown_set ?_ (.inl (by first | omega | simp)) | refine grown_al ?_ | refine grown_dn ?_)); exact gg)⟩
    · obtain rfl : rn = 0 := by rw [← hrn]; simp [mulN, hb]
      obtain rfl : rd = 0 := by rw [← hrd]; simp [mulD, hb]
      obtain rfl : re = 1 := by rw [← hre]; simp [mulE, hb]
      clear hrn hrd hre
      rw [ha] at Ka
      have hb : rightB m c = false := by simpa using hb
      rw [hb] at Kb
      clear ha hb
      go_enter Tryd.func20, Tryd.ntmps20
      go_wp2_with fail
      rw [← H0.out]
      refine (Ka.out _).mono ?_
      rintro e w1 ⟨rfl, g⟩
      have Ra := Ra.kept g
      have Rb := Rb.kept g
      have Rz := Rz.kept g
      have gg := gg.trans g
      clear g
      have a0 := Ra.c0
      have a1 := Ra.c1
      have af0 := Ra.f0
      have af1 := Ra.f1
      have al := Ra.lt
      have b0 := Rb.c0
      have b1 := Rb.c1
      have bf0 := Rb.f0
      have bf1 := Rb.f1
      have bl := Rb.lt
      have z0 := Rz.c0
      have z1 := Rz.c1
      have zf0 := Rz.f0
      have zf1 := Rz.f1
      have zl := Rz.lt
      go_wp2_with fail
      refine (Kb.out _).mono ?_
      rintro e w2 ⟨rfl, g⟩
      clear a0 a1 af0 af1 al b0 b1 bf0 bf1 bl z0 z1 zf0 zf1 zl
      have Ra := Ra.kept g
      have Rb := Rb.kept g
      have Rz := Rz.kept g
      have gg := gg.trans g
      clear g
      have a0 := Ra.c0
      have a1 := Ra.c1
      have af0 := Ra.f0
      have af1 := Ra.f1
      have al := Ra.lt
      have b0 := Rb.c0
      have b1 := Rb.c1
      have bf0 := Rb.f0
      have bf1 := Rb.f1
      have bl := Rb.lt
      have z0 := Rz.c0
      have z1 := Rz.c1
      have zf0 := Rz.f0
      have zf1 := Rz.f1
      have zl := Rz.lt
      go_wp2_with fail
      have Rz := Rz.set 0 0
      exact bodyPost_ret (v := .tuple #[.agg #[.int .i64 0, .int .i64 0], .int .i64 1]) (by simp [results, Tryd.results20, go_sem, Rz.c0, Rz.c1]) rfl ⟨rfl, (by
        (repeat (first | refine grown_set ?_ (.inl (by first | omega | simp)) | refine grown_al ?_ | refine grown_dn ?_)); exact gg)⟩
  · have ha : rightB n d = false := by simpa using ha
    obtain rfl : rn = 0 := by rw [← hrn]; simp [mulN, ha]
    obtain rfl : rd = 0 := by rw [← hrd]; simp [mulD, ha]
    obtain rfl : re = 1 := by rw [← hre]; simp [mulE, ha]
    clear hrn hrd hre
    rw [ha] at Ka
    clear ha
    go_enter Tryd.func20, Tryd.ntmps20
    go_wp2_with fail
    rw [← H0.out]
    refine (Ka.out _).mono ?_
    rintro e w1 ⟨rfl, g⟩
    have Ra := Ra.kept g
    have Rb := Rb.kept g
    have Rz := Rz.kept g
    have gg := gg.trans g
    clear g
    have a0 := Ra.c0
    have a1 := Ra.c1
    have af0 := Ra.f0
    have af1 := Ra.f1
    have al := Ra.lt
    have b0 := Rb.c0
    have b1 := Rb.c1
    have bf0 := Rb.f0
    have bf1 := Rb.f1
    have bl := Rb.lt
    have z0 := Rz.c0
    have z1 := Rz.c1
    have zf0 := Rz.f0
    have zf1 := Rz.f1
    have zl := Rz.lt
    go_wp2_with fail
    refine (Kb.out _).mono ?_
    rintro e w2 ⟨rfl, g⟩
    clear a0 a1 af0 af1 al b0 b1 bf0 bf1 bl z0 z1 zf0 zf1 zl
    have Ra := Ra.kept g
    have Rb := Rb.kept g
    have Rz := Rz.kept g
    have gg := gg.trans g
    clear g
    have a0 := Ra.c0
    have a1 := Ra.c1
    have af0 := Ra.f0
    have af1 := Ra.f1
    have al := Ra.lt
    have b0 := Rb.c0
    have b1 := Rb.c1
    have bf0 := Rb.f0
    have bf1 := Rb.f1
    have bl := Rb.lt
    have z0 := Rz.c0
    have z1 := Rz.c1
    have zf0 := Rz.f0
    have zf1 := Rz.f1
    have zl := Rz.lt
    go_wp2_with fail
    have Rz := Rz.set 0 0
    exact bodyPost_ret (v := .tuple #[.agg #[.int .i64 0, .int .i64 0], .int .i64 1]) (by simp [results, Tryd.results20, go_sem, Rz.c0, Rz.c1]) rfl ⟨rfl, (by
      (repeat (first | refine grown_set ?_ (.inl (by first | omega | simp)) | refine grown_al ?_ | refine grown_dn ?_)); exact gg)⟩
set_option maxRecDepth 100000 in
set_option maxHeartbeats 1000000 in
theorem cmp_at (n d m c rv : Int) (hn : i64 n) (hd : i64 d) (hm : i64 m) (hc : i64 c) (w : World) (hrv : cmpV n d m c = rv) :
    Calls Tryd.prog 17 #[.agg #[.int .i64 n, .int .i64 d], .agg #[.int .i64 m, .int .i64 c]] w fun e w' => e = .returned (.int .i64 rv) ∧ w.grownBy w' none := by
  obtain ⟨w0, hw0, Ra, Rb, gg, hsz⟩ := box2 w n d m c
  have H0 := Lib.hid hw0
  have HS := Lib.hid hsz
  clear hw0 hsz
  have Ka := Lib.hid (right_k n d hn hd)
  have Kb := Lib.hid (right_k m c hm hc)
  by_cases ha : rightB n d = true
  · by_cases hb : rightB m c = true
    · obtain ⟨a1, a2, a3, a4, _⟩ := (right_iff n d).1 ha
      obtain ⟨b1, b2, b3, b4, _⟩ := (right_iff m c).1 hb
      rw [ha] at Ka
      rw [hb] at Kb
      have HV : Hid (rv = cmpI (n * c) (m * d)) := Lib.hid (by rw [← hrv]; simp [cmpV, ha, hb])
      clear hrv
      obtain ⟨p1, p2⟩ := prod_le a3 a4 (by omega) b2
      obtain ⟨q1, q2⟩ := prod_le b3 b4 (by omega) a2
      clear a1 a2 a3 a4 b1 b2 b3 b4 ha hb
      go_enter Tryd.func17, Tryd.ntmps17
      go_wp2_with fail
      rw [← H0.out]
      refine (Ka.out _).mono ?_
      rintro e w1 ⟨rfl, g⟩
      have Ra := Ra.kept g
      have Rb := Rb.kept g
      have gg := gg.trans g
      clear g
      have a0 := Ra.c0
      have a1 := Ra.c1
      have af0 := Ra.f0
      have af1 := Ra.f1
      have al := Ra.lt
      have b0 := Rb.c0
      have b1 := Rb.c1
      have bf0 := Rb.f0
      have bf1 := Rb.f1
      have bl := Rb.lt
      go_wp2_with fail
      refine (Kb.out _).mono ?_
      rintro e w2 ⟨rfl, g⟩
      clear a0 a1 af0 af1 al b0 b1 bf0 bf1 bl
      have Ra := Ra.kept g
      have Rb := Rb.kept g
      have gg := gg.trans g
      clear g
      have a0 := Ra.c0
      have a1 := Ra.c1
      have af0 := Ra.f0
      have af1 := Ra.f1
      have al := Ra.lt
      have b0 := Rb.c0
      have b1 := Rb.c1
      have bf0 := Rb.f0
      have bf1 := Rb.f1
      have bl := Rb.lt
      go_wp2_with fail
      refine (compare_k _ _ _).mono ?_
      rintro e w3 ⟨rfl, rfl⟩
      go_wp2_with fail
      have HV := HV.out
      subst HV
      go_ret
      exact ⟨rfl, (by
        (repeat (first | refine grown_set ?_ (.inl (by first | omega | simp)) | refine grown_al ?_ | refine grown_dn ?_)); exact gg)⟩
    · obtain rfl : rv = 0 := by rw [← hrv]; simp [cmpV, hb]
      clear hrv
      rw [ha] at Ka
      have hb : rightB m c = false := by simpa using hb
      rw [hb] at Kb
      clear ha hb
      go_enter Tryd.func17, Tryd.ntmps17
      go_wp2_with fail
      rw [← H0.out]
      refine (Ka.out _).mono ?_
      rintro e w1 ⟨rfl, g⟩
      have Ra := Ra.kept g
      have Rb := Rb.kept g
      have gg := gg.trans g
      clear g
      have a0 := Ra.c0
      have a1 := Ra.c1
      have af0 := Ra.f0
      have af1 := Ra.f1
      have al := Ra.lt
      have b0 := Rb.c0
      have b1 := Rb.c1
      have bf0 := Rb.f0
      have bf1 := Rb.f1
      have bl := Rb.lt
      go_wp2_with fail
      refine (Kb.out _).mono ?_
      rintro e w2 ⟨rfl, g⟩
      clear a0 a1 af0 af1 al b0 b1 bf0 bf1 bl
      have Ra := Ra.kept g
      have Rb := Rb.kept g
      have gg := gg.trans g
      clear g
      have a0 := Ra.c0
      have a1 := Ra.c1
      have af0 := Ra.f0
      have af1 := Ra.f1
      have al := Ra.lt
      have b0 := Rb.c0
      have b1 := Rb.c1
      have bf0 := Rb.f0
      have bf1 := Rb.f1
      have bl := Rb.lt
      go_wp2_with fail
      go_ret
      exact ⟨rfl, (by
        (repeat (first | refine grown_set ?_ (.inl (by first | omega | simp)) | refine grown_al ?_ | refine grown_dn ?_)); exact gg)⟩
  · have ha : rightB n d = false := by simpa using ha
    obtain rfl : rv = 0 := by rw [← hrv]; simp [cmpV, ha]
    clear hrv
    rw [ha] at Ka
    clear ha
    go_enter Tryd.func17, Tryd.ntmps17
    go_wp2_with fail
    rw [← H0.out]
    refine (Ka.out _).mono ?_
    rintro e w1 ⟨rfl, g⟩
    have Ra := Ra.kept g
    have Rb := Rb.kept g
    have gg := gg.trans g
    clear g
    have a0 := Ra.c0
    have a1 := Ra.c1
    have af0 := Ra.f0
    have af1 := Ra.f1
    have al := Ra.lt
    have b0 := Rb.c0
    have b1 := Rb.c1
    have bf0 := Rb.f0
    have bf1 := Rb.f1
    have bl := Rb.lt
    go_wp2_with fail
    go_ret
    exact ⟨rfl, (by
      (repeat (first | refine grown_set ?_ (.inl (by first | omega | simp)) | refine grown_al ?_ | refine grown_dn ?_)); exact gg)⟩
set_option maxRecDepth 100000 in
set_option maxHeartbeats 1000000 in
theorem cmpr_at (n d m c rv : Int) (hn : i64 n) (hd : i64 d) (hm : i64 m) (hc : i64 c) (w : World) (hrv : cmpV n d m c = rv) :
    Calls Tryd.prog 18 #[.agg #[.int .i64 n, .int .i64 d], .agg #[.int .i64 m, .int .i64 c]] w fun e w' => e = .returned (.int .i64 rv) ∧ w.grownBy w' none := by
  obtain ⟨w0, hw0, Ra, Rb, gg, hsz⟩ := box2 w n d m c
  have H0 := Lib.hid hw0
  have HS := Lib.hid hsz
  clear hw0 hsz
  have Ka := Lib.hid (right_r n d hn hd)
  have Kb := Lib.hid (right_r m c hm hc)
  by_cases ha : rightB n d = true
  · by_cases hb : rightB m c = true
    · obtain ⟨a1, a2, a3, a4, _⟩ := (right_iff n d).1 ha
      obtain ⟨b1, b2, b3, b4, _⟩ := (right_iff m c).1 hb
      rw [ha] at Ka
      rw [hb] at Kb
      have HV : Hid (rv = cmpI (n * c) (m * d)) := Lib.hid (by rw [← hrv]; simp [cmpV, ha, hb])
      clear hrv
      obtain ⟨p1, p2⟩ := prod_le a3 a4 (by omega) b2
      obtain ⟨q1, q2⟩ := prod_le b3 b4 (by omega) a2
      clear a1 a2 a3 a4 b1 b2 b3 b4 ha hb
      have HC : Hid ((n * c < m * d → rv = -1) ∧ (m * d < n * c → rv = 1) ∧ (n * c = m * d → rv = 0)) := Lib.hid (by
        rw [HV.out]; unfold cmpI
        refine ⟨fun h => by rw [if_pos h], fun h => by rw [if_neg (by omega), if_pos h], fun h => by rw [if_neg (by omega), if_neg (by omega)]⟩)
      clear HV
      rcases Int.lt_trichotomy (n * c) (m * d) with h1 | h1 | h1
      · obtain rfl : rv = -1 := HC.out.1 h1
        have t1 : n * c - m * d < 0 := by omega
        clear HC
        go_enter Tryd.func18, Tryd.ntmps18
        go_wp2_with fail
        rw [← H0.out]
        refine (Ka.out _).mono ?_
        rintro e w1 ⟨rfl, g⟩
        have Ra := Ra.kept g
        have Rb := Rb.kept g
        have gg := gg.trans g
        clear g
        have a0 := Ra.c0
        have a1 := Ra.c1
        have af0 := Ra.f0
        have af1 := Ra.f1
        have al := Ra.lt
        have b0 := Rb.c0
        have b1 := Rb.c1
        have bf0 := Rb.f0
        have bf1 := Rb.f1
        have bl := Rb.lt
        go_wp2_with fail
        refine (Kb.out _).mono ?_
        rintro e w2 ⟨rfl, g⟩
        clear a0 a1 af0 af1 al b0 b1 bf0 bf1 bl
        have Ra := Ra.kept g
        have Rb := Rb.kept g
        have gg := gg.trans g
        clear g
        have a0 := Ra.c0
        have a1 := Ra.c1
        have af0 := Ra.f0
        have af1 := Ra.f1
        have al := Ra.lt
        have b0 := Rb.c0
        have b1 := Rb.c1
        have bf0 := Rb.f0
        have bf1 := Rb.f1
        have bl := Rb.lt
        go_wp2_with fail
        go_ret
        exact ⟨rfl, (by
          (repeat (first | refine grown_set ?_ (.inl (by first | omega | simp)) | refine grown_al ?_ | refine grown_dn ?_)); exact gg)⟩
      · obtain rfl : rv = 0 := HC.out.2.2 h1
        have t1 : ¬ (n * c - m * d < 0) := by omega
        have t2 : ¬ (0 < n * c - m * d) := by omega
        clear HC h1
        go_enter Tryd.func18, Tryd.ntmps18
        go_wp2_with fail
        rw [← H0.out]
        refine (Ka.out _).mono ?_
        rintro e w1 ⟨rfl, g⟩
        have Ra := Ra.kept g
        have Rb := Rb.kept g
        have gg := gg.trans g
        clear g
        have a0 := Ra.c0
        have a1 := Ra.c1
        have af0 := Ra.f0
        have af1 := Ra.f1
        have al := Ra.lt
        have b0 := Rb.c0
        have b1 := Rb.c1
        have bf0 := Rb.f0
        have bf1 := Rb.f1
        have bl := Rb.lt
        go_wp2_with fail
        refine (Kb.out _).mono ?_
        rintro e w2 ⟨rfl, g⟩
        clear a0 a1 af0 af1 al b0 b1 bf0 bf1 bl
        have Ra := Ra.kept g
        have Rb := Rb.kept g
        have gg := gg.trans g
        clear g
        have a0 := Ra.c0
        have a1 := Ra.c1
        have af0 := Ra.f0
        have af1 := Ra.f1
        have al := Ra.lt
        have b0 := Rb.c0
        have b1 := Rb.c1
        have bf0 := Rb.f0
        have bf1 := Rb.f1
        have bl := Rb.lt
        go_wp2_with fail
        go_ret
        exact ⟨rfl, (by
          (repeat (first | refine grown_set ?_ (.inl (by first | omega | simp)) | refine grown_al ?_ | refine grown_dn ?_)); exact gg)⟩
      · obtain rfl : rv = 1 := HC.out.2.1 h1
        have t1 : ¬ (n * c - m * d < 0) := by omega
        have t2 : 0 < n * c - m * d := by omega
        clear HC
        go_enter Tryd.func18, Tryd.ntmps18
        go_wp2_with fail
        rw [← H0.out]
        refine (Ka.out _).mono ?_
        rintro e w1 ⟨rfl, g⟩
        have Ra := Ra.kept g
        have Rb := Rb.kept g
        have gg := gg.trans g
        clear g
        have a0 := Ra.c0
        have a1 := Ra.c1
        have af0 := Ra.f0
        have af1 := Ra.f1
        have al := Ra.lt
        have b0 := Rb.c0
        have b1 := Rb.c1
        have bf0 := Rb.f0
        have bf1 := Rb.f1
        have bl := Rb.lt
        go_wp2_with fail
        refine (Kb.out _).mono ?_
        rintro e w2 ⟨rfl, g⟩
        clear a0 a1 af0 af1 al b0 b1 bf0 bf1 bl
        have Ra := Ra.kept g
        have Rb := Rb.kept g
        have gg := gg.trans g
        clear g
        have a0 := Ra.c0
        have a1 := Ra.c1
        have af0 := Ra.f0
        have af1 := Ra.f1
        have al := Ra.lt
        have b0 := Rb.c0
        have b1 := Rb.c1
        have bf0 := Rb.f0
        have bf1 := Rb.f1
        have bl := Rb.lt
        go_wp2_with fail
        go_ret
        exact ⟨rfl, (by
          (repeat (first | refine grown_set ?_ (.inl (by first | omega | simp)) | refine grown_al ?_ | refine grown_dn ?_)); exact gg)⟩
    · obtain rfl : rv = 0 := by rw [← hrv]; simp [cmpV, hb]
      clear hrv
      rw [ha] at Ka
      have hb : rightB m c = false := by simpa using hb
      rw [hb] at Kb
      clear ha hb
      go_enter Tryd.func18, Tryd.ntmps18
      go_wp2_with fail
      rw [← H0.out]
      refine (Ka.out _).mono ?_
      rintro e w1 ⟨rfl, g⟩
      have Ra := Ra.kept g
      have Rb := Rb.kept g
      have gg := gg.trans g
      clear g
      have a0 := Ra.c0
      have a1 := Ra.c1
      have af0 := Ra.f0
      have af1 := Ra.f1
      have al := Ra.lt
      have b0 := Rb.c0
      have b1 := Rb.c1
      have bf0 := Rb.f0
      have bf1 := Rb.f1
      have bl := Rb.lt
      go_wp2_with fail
      refine (Kb.out _).mono ?_
      rintro e w2 ⟨rfl, g⟩
      clear a0 a1 af0 af1 al b0 b1 bf0 bf1 bl
      have Ra := Ra.kept g
      have Rb := Rb.kept g
      have gg := gg.trans g
      clear g
      have a0 := Ra.c0
      have a1 := Ra.c1
      have af0 := Ra.f0
      have af1 := Ra.f1
      have al := Ra.lt
      have b0 := Rb.c0
      have b1 := Rb.c1
      have bf0 := Rb.f0
      have bf1 := Rb.f1
      have bl := Rb.lt
      go_wp2_with fail
      go_ret
      exact ⟨rfl, (by
        (repeat (first | refine grown_set ?_ (.inl (by first | omega | simp)) | refine grown_al ?_ | refine grown_dn ?_)); exact gg)⟩
  · have ha : rightB n d = false := by simpa using ha
    obtain rfl : rv = 0 := by rw [← hrv]; simp [cmpV, ha]
    clear hrv
    rw [ha] at Ka
    clear ha
    go_enter Tryd.func18, Tryd.ntmps18
    go_wp2_with fail
    rw [← H0.out]
    refine (Ka.out _).mono ?_
    rintro e w1 ⟨rfl, g⟩
    have Ra := Ra.kept g
    have Rb := Rb.kept g
    have gg := gg.trans g
    clear g
    have a0 := Ra.c0
    have a1 := Ra.c1
    have af0 := Ra.f0
    have af1 := Ra.f1
    have al := Ra.lt
    have b0 := Rb.c0
    have b1 := Rb.c1
    have bf0 := Rb.f0
    have bf1 := Rb.f1
    have bl := Rb.lt
    go_wp2_with fail
    refine (Kb.out _).mono ?_
    rintro e w2 ⟨rfl, g⟩
    clear a0 a1 af0 af1 al b0 b1 bf0 bf1 bl
    have Ra := Ra.kept g
    have Rb := Rb.kept g
    have gg := gg.trans g
    clear g
    have a0 := Ra.c0
    have a1 := Ra.c1
    have af0 := Ra.f0
    have af1 := Ra.f1
    have al := Ra.lt
    have b0 := Rb.c0
    have b1 := Rb.c1
    have bf0 := Rb.f0
    have bf1 := Rb.f1
    have bl := Rb.lt
    go_wp2_with fail
    go_ret
    exact ⟨rfl, (by
      (repeat (first | refine grown_set ?_ (.inl (by first | omega | simp)) | refine grown_al ?_ | refine grown_dn ?_)); exact gg)⟩
theorem add_k (n d m c : Int) (hn : i64 n) (hd : i64 d) (hm : i64 m) (hc : i64 c) (w : World) :
    Calls Tryd.prog 13 #[.agg #[.int .i64 n, .int .i64 d], .agg #[.int .i64 m, .int .i64 c]] w fun e w' => e = .returned (.tuple #[.agg #[.int .i64 (addN n d m c), .int .i64 (addD n d m c)], .int .i64 (addE n d m c)]) ∧ w.grownBy w' none :=
  add_at n d m c _ _ _ hn hd hm hc w rfl rfl rfl
theorem add_r (n d m c : Int) (hn : i64 n) (hd : i64 d) (hm : i64 m) (hc : i64 c) (w : World) :
    Calls Tryd.prog 14 #[.agg #[.int .i64 n, .int .i64 d], .agg #[.int .i64 m, .int .i64 c]] w fun e w' => e = .returned (.tuple #[.agg #[.int .i64 (addN n d m c), .int .i64 (addD n d m c)], .int .i64 (addE n d m c)]) ∧ w.grownBy w' none :=
  addr_at n d m c _ _ _ hn hd hm hc w rfl rfl rfl
theorem mul_k (n d m c : Int) (hn : i64 n) (hd : i64 d) (hm : i64 m) (hc : i64 c) (w : World) :
    Calls Tryd.prog 19 #[.agg #[.int .i64 n, .int .i64 d], .agg #[.int .i64 m, .int .i64 c]] w fun e w' => e = .returned (.tuple #[.agg #[.int .i64 (mulN n d m c), .int .i64 (mulD n d m c)], .int .i64 (mulE n d m c)]) ∧ w.grownBy w' none :=
  mul_at n d m c _ _ _ hn hd hm hc w rfl rfl rfl
theorem mul_r (n d m c : Int) (hn : i64 n) (hd : i64 d) (hm : i64 m) (hc : i64 c) (w : World) :
    Calls Tryd.prog 20 #[.agg #[.int .i64 n, .int .i64 d], .agg #[.int .i64 m, .int .i64 c]] w fun e w' => e = .returned (.tuple #[.agg #[.int .i64 (mulN n d m c), .int .i64 (mulD n d m c)], .int .i64 (mulE n d m c)]) ∧ w.grownBy w' none :=
  mulr_at n d m c _ _ _ hn hd hm hc w rfl rfl rfl
theorem cmp_k (n d m c : Int) (hn : i64 n) (hd : i64 d) (hm : i64 m) (hc : i64 c) (w : World) :
    Calls Tryd.prog 17 #[.agg #[.int .i64 n, .int .i64 d], .agg #[.int .i64 m, .int .i64 c]] w fun e w' => e = .returned (.int .i64 (cmpV n d m c)) ∧ w.grownBy w' none :=
  cmp_at n d m c _ hn hd hm hc w rfl
theorem cmp_r (n d m c : Int) (hn : i64 n) (hd : i64 d) (hm : i64 m) (hc : i64 c) (w : World) :
    Calls Tryd.prog 18 #[.agg #[.int .i64 n, .int .i64 d], .agg #[.int .i64 m, .int .i64 c]] w fun e w' => e = .returned (.int .i64 (cmpV n d m c)) ∧ w.grownBy w' none :=
  cmpr_at n d m c _ hn hd hm hc w rfl
end Go.Proofs.YtekhdcfnpgkodaaDoor
