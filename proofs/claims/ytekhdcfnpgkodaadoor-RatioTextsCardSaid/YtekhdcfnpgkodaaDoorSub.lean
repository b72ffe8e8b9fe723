/-
  Sub of both, and the reference's Made, by their contracts.
-/
import Derived.Test.YtekhdcfnpgkodaaDoorAdd
namespace Go.Proofs.YtekhdcfnpgkodaaDoor
open Go.RowKit
theorem i64_wrap (x : Int) : i64 (wrap64 x) := by
  unfold i64 wrap64; omega
theorem wrap_id {x : Int} (h : i64 x) : wrap64 x = x := by
  unfold i64 at h; unfold wrap64; omega
set_option maxRecDepth 100000 in
set_option maxHeartbeats 1000000 in
theorem sub_k (n d m c : Int) (hn : i64 n) (hd : i64 d) (hc : i64 c) (w : World) :
    Calls Tryd.prog 15 #[.agg #[.int .i64 n, .int .i64 d], .agg #[.int .i64 m, .int .i64 c]] w fun e w' => e = .returned (.tuple #[.agg #[.int .i64 (addN n d (wrap64 (-m)) c), .int .i64 (addD n d (wrap64 (-m)) c)], .int .i64 (addE n d (wrap64 (-m)) c)]) ∧ w.grownBy w' none := by
  obtain ⟨w0, hw0, Ra, Rb, Rz, gg, hsz⟩ := box3 w n d m c
  have H0 := Lib.hid hw0
  have HS := Lib.hid hsz
  clear hw0 hsz
  have K := Lib.hid (add_k n d (wrap64 (-m)) c hn hd (i64_wrap _) hc)
  clear hn hd hc
  go_enter Tryd.func15, Tryd.ntmps15
  go_wp2_with fail
  rw [← H0.out]
  refine (K.out _).mono ?_
  rintro e w1 ⟨rfl, g⟩
  have Ra := Ra.kept g
  have Rb := Rb.kept g
  have Rz := Rz.kept g
  have gg := gg.trans g
  clear g
  have a0 := Ra.c0
  have a1 := Ra.c1
  have af0 := Ra.f0
  have af1 := Ra.f1
  have al := Ra.lt
  have b0 := Rb.c0
  have b1 := Rb.c1
  have bf0 := Rb.f0
  have bf1 := Rb.f1
  have bl := Rb.lt
  have z0 := Rz.c0
  have z1 := Rz.c1
  have zf0 := Rz.f0
  have zf1 := Rz.f1
  have zl := Rz.lt
  go_wp2_with fail
  have Rz := Rz.set (addN n d (wrap64 (-m)) c) (addD n d (wrap64 (-m)) c)
  exact bodyPost_ret (v := .tuple #[.agg #[.int .i64 (addN n d (wrap64 (-m)) c), .int .i64 (addD n d (wrap64 (-m)) c)], .int .i64 (addE n d (wrap64 (-m)) c)]) (by simp [results, Tryd.results15, go_sem, Rz.c0, Rz.c1]) rfl ⟨rfl, (by
    (repeat (first | refine grown_set ?_ (.inl (by first | omega | simp)) | refine grown_al ?_ | refine grown_dn ?_)); exact gg)⟩
set_option maxRecDepth 100000 in
set_option maxHeartbeats 1000000 in
theorem sub_r (n d m c : Int) (hn : i64 n) (hd : i64 d) (hc : i64 c) (w : World) :
    Calls Tryd.prog 16 #[.agg #[.int .i64 n, .int .i64 d], .agg #[.int .i64 m, .int .i64 c]] w fun e w' => e = .returned (.tuple #[.agg #[.int .i64 (addN n d (wrap64 (-m)) c), .int .i64 (addD n d (wrap64 (-m)) c)], .int .i64 (addE n d (wrap64 (-m)) c)]) ∧ w.grownBy w' none := by
  obtain ⟨w0, hw0, Ra, Rb, Rz, gg, hsz⟩ := box3 w n d m c
  have H0 := Lib.hid hw0
  have HS := Lib.hid hsz
  clear hw0 hsz
  have K := Lib.hid (add_r n d (wrap64 (-m)) c hn hd (i64_wrap _) hc)
  clear hn hd hc
  go_enter Tryd.func16, Tryd.ntmps16
  go_wp2_with fail
  rw [← H0.out]
  refine (K.out _).mono ?_
  rintro e w1 ⟨rfl, g⟩
  have Ra := Ra.kept g
  have Rb := Rb.kept g
  have Rz := Rz.kept g
  have gg := gg.trans g
  clear g
  have a0 := Ra.c0
  have a1 := Ra.c1
  have af0 := Ra.f0
  have af1 := Ra.f1
  have al := Ra.lt
  have b0 := Rb.c0
  have b1 := Rb.c1
  have bf0 := Rb.f0
  have bf1 := Rb.f1
  have bl := Rb.lt
  have z0 := Rz.c0
  have z1 := Rz.c1
  have zf0 := Rz.f0
  have zf1 := Rz.f1
  have zl := Rz.lt
  go_wp2_with fail
  have Rz := Rz.set (addN n d (wrap64 (-m)) c) (addD n d (wrap64 (-m)) c)
  exact bodyPost_ret (v := .tuple #[.agg #[.int .i64 (addN n d (wrap64 (-m)) c), .int .i64 (addD n d (wrap64 (-m)) c)], .int .i64 (addE n d (wrap64 (-m)) c)]) (by simp [results, Tryd.results16, go_sem, Rz.c0, Rz.c1]) rfl ⟨rfl, (by
    (repeat (first | refine grown_set ?_ (.inl (by first | omega | simp)) | refine grown_al ?_ | refine grown_dn ?_)); exact gg)⟩
def m31 (n : Int) : Int := n.tmod 2147483648
def m3 (n : Int) : Int := n.tmod 1000
def up3 (d : Int) : Int := 1 + d.tmod 1000 % 1000
def madeN (n d : Int) : Int := if okB (m31 n) (m31 d) then ofN (m31 n) (m31 d) else ofN (m3 n) (up3 d)
def madeD (n d : Int) : Int := if okB (m31 n) (m31 d) then ofD (m31 n) (m31 d) else ofD (m3 n) (up3 d)
theorem tm_in (n k : Int) (hk : 0 < k) : -k < n.tmod k ∧ n.tmod k < k := ⟨Int.lt_tmod_of_pos n hk, Int.tmod_lt_of_pos n hk⟩
theorem ok_small (n d : Int) (h1 : -1073741824 ≤ n) (h2 : n ≤ 1073741824) (h3 : 1 ≤ d) (h4 : d ≤ 1073741824) : okB n d = true := by
  have := upN_le n d
  have := dnN_le n d
  exact (ok_iff n d).2 ⟨by omega, by omega, by omega⟩
theorem ok_made (n d : Int) : okB (m3 n) (up3 d) = true := by
  obtain ⟨h1, h2⟩ := tm_in n 1000 (by decide)
  obtain ⟨h3, h4⟩ := tm_in d 1000 (by decide)
  unfold m3 up3
  apply ok_small <;> omega
theorem made_right (n d : Int) : rightB (madeN n d) (madeD n d) = true := by
  unfold madeN madeD
  by_cases h : okB (m31 n) (m31 d) = true
  · rw [if_pos h, if_pos h]; exact (of_ok h).1
  · rw [if_neg h, if_neg h]; exact (of_ok (ok_made n d)).1
set_option maxRecDepth 100000 in
set_option maxHeartbeats 1000000 in
theorem made_k (n d : Int) (w : World) :
    Calls Tryd.prog 21 #[.int .i64 n, .int .i64 d] w fun e w' => e = .returned (.agg #[.int .i64 (madeN n d), .int .i64 (madeD n d)]) ∧ w.grownBy w' none := by
  obtain ⟨a1, a2⟩ := tm_in n 2147483648 (by decide)
  obtain ⟨b1, b2⟩ := tm_in d 2147483648 (by decide)
  obtain ⟨c1, c2⟩ := tm_in n 1000 (by decide)
  obtain ⟨d1, d2⟩ := tm_in d 1000 (by decide)
  have K1 := Lib.hid (of_r (n.tmod 2147483648) (d.tmod 2147483648) ⟨by omega, by omega⟩ ⟨by omega, by omega⟩)
  have K2 := Lib.hid (of_r (n.tmod 1000) (1 + d.tmod 1000 % 1000) ⟨by omega, by omega⟩ ⟨by omega, by omega⟩)
  have HN : Hid (madeN n d = if okB (n.tmod 2147483648) (d.tmod 2147483648) then ofN (n.tmod 2147483648) (d.tmod 2147483648) else ofN (n.tmod 1000) (1 + d.tmod 1000 % 1000)) := Lib.hid rfl
  have HD : Hid (madeD n d = if okB (n.tmod 2147483648) (d.tmod 2147483648) then ofD (n.tmod 2147483648) (d.tmod 2147483648) else ofD (n.tmod 1000) (1 + d.tmod 1000 % 1000)) := Lib.hid rfl
  have E2 := of_yes (ok_made n d)
  unfold m3 up3 at E2
  rw [E2] at K2
  clear E2
  have Rz := R2.new w 0 0
  have gg := World.grownBy_alloc w (.cells #[.int .i64 0, .int .i64 0] 24) none
  by_cases h : okB (n.tmod 2147483648) (d.tmod 2147483648) = true
  · rw [of_yes h] at K1
    rw [if_pos h] at HN HD
    clear h K2
    go_enter Tryd.func21, Tryd.ntmps21
    go_wp2_with fail
    refine (K1.out _).mono ?_
    rintro e w1 ⟨rfl, g⟩
    have Rz := Rz.kept g
    have gg := gg.trans g
    clear g K1
    have z0 := Rz.c0
    have z1 := Rz.c1
    have zf0 := Rz.f0
    have zf1 := Rz.f1
    have zl := Rz.lt
    go_wp2_with fail
    have Rz := (Rz.set (ofN (n.tmod 2147483648) (d.tmod 2147483648)) (ofD (n.tmod 2147483648) (d.tmod 2147483648))).kept (World.grownBy_alloc _ (.cells #[.int .i64 (ofN (n.tmod 2147483648) (d.tmod 2147483648)), .int .i64 (ofD (n.tmod 2147483648) (d.tmod 2147483648))] 24) none)
    have z0 := Rz.c0
    have z1 := Rz.c1
    exact bodyPost_ret (v := .agg #[.int .i64 (ofN (n.tmod 2147483648) (d.tmod 2147483648)), .int .i64 (ofD (n.tmod 2147483648) (d.tmod 2147483648))]) (by simp [results, Tryd.results21, go_sem, z0, z1]) rfl ⟨by rw [HN.out, HD.out], by
      (repeat (first | refine grown_set ?_ (.inl (by first | omega | simp)) | refine grown_al ?_ | refine grown_dn ?_)); exact gg⟩
  · have h3 : ofE (n.tmod 2147483648) (d.tmod 2147483648) ≠ 0 := (of_no (by simpa using h)).2.2
    have h4 : (ofE (n.tmod 2147483648) (d.tmod 2147483648) != 0) = true := by simpa using h3
    rw [if_neg h] at HN HD
    clear h
    go_enter Tryd.func21, Tryd.ntmps21
    go_wp2_with fail
    refine (K1.out _).mono ?_
    rintro e w1 ⟨rfl, g⟩
    have Rz := Rz.kept g
    have gg := gg.trans g
    clear g K1
    have z0 := Rz.c0
    have z1 := Rz.c1
    have zf0 := Rz.f0
    have zf1 := Rz.f1
    have zl := Rz.lt
    go_wp2_with fail
    have Ry := R2.new w1 (ofN (n.tmod 2147483648) (d.tmod 2147483648)) (ofD (n.tmod 2147483648) (d.tmod 2147483648))
    have g := World.grownBy_alloc w1 (.cells #[.int .i64 (ofN (n.tmod 2147483648) (d.tmod 2147483648)), .int .i64 (ofD (n.tmod 2147483648) (d.tmod 2147483648))] 24) none
    refine (K2.out _).mono ?_
    rintro e w2 ⟨rfl, g2⟩
    have g := g.trans g2
    have Rz := Rz.kept g
    have Ry := Ry.kept g2
    have gg2 := gg.trans g
    have gs := gg.size
    clear g g2 z0 z1 zf0 zf1
    have z0 := Rz.c0
    have z1 := Rz.c1
    have zf0 := Rz.f0
    have zf1 := Rz.f1
    have y0 := Ry.c0
    have y1 := Ry.c1
    have yf0 := Ry.f0
    have yf1 := Ry.f1
    have yl := Ry.lt
    have zl2 := Rz.lt
    have ne1 : w1.heap.size ≠ w.heap.size := by omega
    have ne2 : w.heap.size ≠ w1.heap.size := by omega
    go_wp2_with fail
    have Rz := ((Rz.far (i := 0) (v := .int .i64 (ofN (n.tmod 1000) (1 + d.tmod 1000 % 1000))) ne2).far (i := 1) (v := .int .i64 (ofD (n.tmod 1000) (1 + d.tmod 1000 % 1000))) ne2).set (ofN (n.tmod 1000) (1 + d.tmod 1000 % 1000)) (ofD (n.tmod 1000) (1 + d.tmod 1000 % 1000))
    have z0 := Rz.c0
    have z1 := Rz.c1
    exact bodyPost_ret (v := .agg #[.int .i64 (ofN (n.tmod 1000) (1 + d.tmod 1000 % 1000)), .int .i64 (ofD (n.tmod 1000) (1 + d.tmod 1000 % 1000))]) (by simp [results, Tryd.results21, go_sem, z0, z1]) rfl ⟨by rw [HN.out, HD.out], by
      (repeat (first | refine grown_set ?_ (.inl (by first | omega | simp)) | refine grown_al ?_ | refine grown_dn ?_)); exact gg2⟩
end Go.Proofs.YtekhdcfnpgkodaaDoor
