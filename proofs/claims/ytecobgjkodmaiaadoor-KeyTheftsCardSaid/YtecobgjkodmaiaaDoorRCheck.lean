/-
  The reference's Check, by its contract.
-/
import Derived.Test.YtecobgjkodmaiaaDoorOne
namespace Go.Proofs.YtecobgjkodmaiaaDoor
open Go.RowKit
attribute [local go_sem] get_mk extract_mk
/-- the key before the one at j -/
def befK (l : List K) (j : Nat) : K := if j = 0 then K0 else (l[j - 1]?).getD K0
theorem one_r (A : Option Addr) (n c j : Nat) (l : List K) (x : K) (w : World) (hk : Keys w A n c l) (hj : j < n) (hx : l[j]? = some x) :
    Calls Tryd.prog 31 #[.slice A n c, .int .i64 (j : Int)] w fun e w' => e = .returned (.int .i64 (chkN (befK l j) x)) ∧ w.grownBy w' none := by
  obtain ⟨ad, y, hy, rfl, hbl, ⟨o1, o2, o3, o4⟩, x0, x1, x2, x3⟩ := hk.at j hj
  rw [hx] at hy
  obtain rfl : x = y := by simpa using hy
  obtain ⟨i, s, f, t⟩ := x
  have hc := Nat.le_trans hk.le hk.cap
  cases j with
  | zero =>
    have h0 : ad.add (0 * 4) = ad := by simp [Addr.add]
    rw [h0] at x0 x1 x2 x3
    exact one_z ad n c hj hc i s f t o1 o4 o2 o3 w x0 x1 x2 x3
  | succ j =>
    obtain ⟨ad', b, hb, e, hbl, ⟨p1, p2, p3, p4⟩, y0, y1, y2, y3⟩ := hk.at j (by omega)
    injection e with e
    subst e
    obtain ⟨bi, bs, bf, bt⟩ := b
    have hB : befK l (j + 1) = ⟨bi, bs, bf, bt⟩ := by simp [befK, hb]
    rw [hB]
    exact one_s ad n c j hj hc bi bs bf bt i s f t ⟨p1, p2⟩ o1 o4 o2 o3 w x0 x1 x2 x3 y0 y2
theorem bef_next {l : List K} {j : Nat} {x : K} (h : l[j]? = some x) : befK l (j + 1) = x := by simp [befK, h]
theorem bef_zero (l : List K) : befK l 0 = K0 := rfl
set_option maxRecDepth 100000 in
set_option maxHeartbeats 1000000 in
/-- the reference's Check -/
theorem ringck_r (s : Int) (A : Option Addr) (n c : Nat) (l : List K) (hs : i64 s) (w : World) (hk : Keys w A n c l) :
    Calls Tryd.prog 12 #[.agg #[.int .i64 s, .slice A n c]] w fun e w' => e = .returned (.int .i64 (chkR s l)) ∧ w.grownBy w' none := by
  obtain ⟨s1, s2⟩ := id hs
  have hl := hk.len
  have hle := hk.le
  have hcap := hk.cap
  have HK := Lib.hid (fun W (g : w.grownBy W none) => hk.kept g)
  have gg := World.grownBy_alloc w (.cells #[.int .i64 s, .slice A n c] 34) none
  have r0 : (w.alloc (.cells #[.int .i64 s, .slice A n c] 34)).cell? ⟨w.heap.size, 0, none⟩ = some (.int .i64 s) := cell_at rfl
  have r1 : (w.alloc (.cells #[.int .i64 s, .slice A n c] 34)).cell? ⟨w.heap.size, 1, none⟩ = some (.slice A n c) := cell_at rfl
  clear hk
  by_cases c0 : s < 1
  · have HE : Hid (chkR s l = 1) := Lib.hid (by simp [chkR, c0])
    clear hl
    go_enter Tryd.func12, Tryd.ntmps12
    go_wp2_with fail
    go_ret
    exact ⟨by rw [HE.out]; rfl, gg⟩
  by_cases c1 : 8 < s
  · have HE : Hid (chkR s l = 1) := Lib.hid (by simp [chkR, c1])
    clear hl
    go_enter Tryd.func12, Tryd.ntmps12
    go_wp2_with fail
    go_ret
    exact ⟨by rw [HE.out]; rfl, gg⟩
  by_cases c2 : 20 < n
  · have HE : Hid (chkR s l = 2) := Lib.hid (by rw [hl] at c2; simp [chkR, c0, c1, c2])
    clear hl
    go_enter Tryd.func12, Tryd.ntmps12
    go_wp2_with fail
    go_ret
    exact ⟨by rw [HE.out]; rfl, gg⟩
  have HE : Hid (chkR s l = chkL (befK l 0) (l.drop 0)) := Lib.hid (by rw [hl] at c2; simp [chkR, c0, c1, c2, bef_zero])
  have HL := Lib.hid hl
  have hl2 : n ≤ l.length := by omega
  clear hl
  go_enter Tryd.func12, Tryd.ntmps12
  go_upto_region 1 with fail
  generalize w.alloc (.cells #[.int .i64 s, .slice A n c] 34) = w1 at *
  go_wp2_with fail
  go_loopw [3] (fun i wr => ∃ k : Nat, k ≤ n ∧ i = .int .i64 k ∧ Hid (chkR s l = chkL (befK l k) (l.drop k)) ∧ w1.grownBy wr none) (fun i _ => n - (intOf i).toNat)
  case atStart => exact ⟨0, by omega, rfl, HE, grown_refl _⟩
  case round =>
    clear HE
    obtain ⟨k, hkn, rfl, HE, gw⟩ := hrel
    have q1 := gcell gw r1
    by_cases hlt : k < n
    · obtain ⟨x, hx⟩ : ∃ x, l[k]? = some x := ⟨_, List.getElem?_eq_getElem (by omega)⟩
      have K := Lib.hid (one_r A n c k l x wr (HK.out _ (gg.trans gw)) hlt hx)
      have HX := Lib.hid (chkL_next (b := befK l k) hx)
      have HB := Lib.hid (bef_next hx)
      clear hx
      go_wp2_with fail
      refine K.out.mono ?_
      rintro e w4 ⟨rfl, g⟩
      replace gw := gw.trans g
      clear q1 K g
      by_cases he : chkN (befK l k) x = 0
      · rw [he]
        have HE2 : Hid (chkR s l = chkL (befK l (k + 1)) (l.drop (k + 1))) := Lib.hid (by rw [HE.out, HX.out, if_pos he, HB.out])
        clear he HX HE HB
        go_wp2_with fail
        go_roundw
        case rel => exact ⟨k + 1, by omega, by go_num, HE2, gw⟩
        case measure => simp [intOf]; omega
      · have HE2 : Hid (chkR s l = chkN (befK l k) x) := Lib.hid (by rw [HE.out, HX.out, if_neg he])
        have he2 : (chkN (befK l k) x != 0) = true := by simpa using he
        clear he HX HE HB
        generalize chkN (befK l k) x = E at *
        go_wp2_with fail
        go_ret
        exact ⟨by rw [HE2.out]; rfl, gg.trans gw⟩
    · obtain rfl : k = n := by omega
      have HE2 : Hid (chkR s l = 0) := Lib.hid (by rw [HE.out, HL.out, List.drop_length]; rfl)
      go_wp2_with fail
      go_ret
      exact ⟨by rw [HE2.out]; rfl, gg.trans gw⟩
end Go.Proofs.YtecobgjkodmaiaaDoor
