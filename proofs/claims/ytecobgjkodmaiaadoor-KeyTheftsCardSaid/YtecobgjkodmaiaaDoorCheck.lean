/-
  key.Check, by its contract.
-/
import Derived.Test.YtecobgjkodmaiaaDoorChk
namespace Go.Proofs.YtecobgjkodmaiaaDoor
open Go.RowKit
attribute [local go_sem] get_mk extract_mk
def K.row (k : K) : Array Value := #[.int .i64 k.id, .string ⟨k.sec.toArray⟩, .int .i64 k.frm, .int .i64 k.stl]
theorem chkL_next {b x : K} {l : List K} {k : Nat} (h : l[k]? = some x) : chkL b (l.drop k) = if chkN b x = 0 then chkL x (l.drop (k + 1)) else chkN b x := by
  obtain ⟨hk, hx⟩ := List.getElem?_eq_some_iff.1 h
  rw [List.drop_eq_getElem_cons hk, hx]
  rfl
theorem chkN_i64 (b x : K) : -10 ≤ chkN b x ∧ chkN b x ≤ 100 := by
  unfold chkN
  repeat' split
  all_goals omega
set_option maxRecDepth 100000 in
set_option maxHeartbeats 1000000 in
/-- key.Check -/
theorem ringck_k (s : Int) (A : Option Addr) (n c : Nat) (l : List K) (hs : i64 s) (w : World) (hk : Keys w A n c l) :
    Calls Tryd.prog 11 #[.agg #[.int .i64 s, .slice A n c]] w fun e w' => e = .returned (.int .i64 (chkR s l)) ∧ w.grownBy w' none := by
  obtain ⟨s1, s2⟩ := id hs
  have hl := hk.len
  have hle := hk.le
  have hcap := hk.cap
  have HK := Lib.hid (fun W (g : w.grownBy W none) => hk.kept g)
  have gg := World.grownBy_alloc w (.cells #[.int .i64 s, .slice A n c] 34) none
  have r0 : (w.alloc (.cells #[.int .i64 s, .slice A n c] 34)).cell? ⟨w.heap.size, 0, none⟩ = some (.int .i64 s) := cell_at rfl
  have r1 : (w.alloc (.cells #[.int .i64 s, .slice A n c] 34)).cell? ⟨w.heap.size, 1, none⟩ = some (.slice A n c) := cell_at rfl
  clear hk
  by_cases c0 : s < 1
  · have HE : Hid (chkR s l = 1) := Lib.hid (by simp [chkR, c0])
    clear hl
    go_enter Tryd.func11, Tryd.ntmps11
    go_wp2_with fail
    go_ret
    exact ⟨by rw [HE.out]; rfl, gg⟩
  by_cases c1 : 8 < s
  · have HE : Hid (chkR s l = 1) := Lib.hid (by simp [chkR, c1])
    clear hl
    go_enter Tryd.func11, Tryd.ntmps11
    go_wp2_with fail
    go_ret
    exact ⟨by rw [HE.out]; rfl, gg⟩
  by_cases c2 : 20 < n
  · have HE : Hid (chkR s l = 2) := Lib.hid (by rw [hl] at c2; simp [chkR, c0, c1, c2])
    clear hl
    go_enter Tryd.func11, Tryd.ntmps11
    go_wp2_with fail
    go_ret
    exact ⟨by rw [HE.out]; rfl, gg⟩
  have HE : Hid (chkR s l = chkL K0 l) := Lib.hid (by rw [hl] at c2; simp [chkR, c0, c1, c2])
  have HL := Lib.hid hl
  clear hl
  go_enter Tryd.func11, Tryd.ntmps11
  go_upto_region 1 with fail
  generalize w.alloc (.cells #[.int .i64 s, .slice A n c] 34) = w1 at *
  go_upto_region 6 with fail
  obtain ⟨w2, e2, HB, g⟩ := row_of w1 28 #[.int .i64 0, .string ⟨#[]⟩, .int .i64 0, .int .i64 0]
  rw [← e2]
  have hB : w.heap.size ≤ w1.heap.size := gg.size
  replace gg := gg.trans g
  replace r1 := gcell g r1
  replace r0 := gcell g r0
  clear e2 g
  generalize w1.heap.size = B at *
  have HN : Hid (w.heap.size ≤ B) := Lib.hid hB
  have hc1 : Hid (chkL K0 l = chkL K0 (l.drop 0)) := Lib.hid (by simp)
  rw [hc1.out] at HE
  clear hc1
  have hi0 : i64 K0.id ∧ i64 K0.frm := by unfold K0 i64; decide
  have HB : Row w2 B 28 K0.row := HB
  generalize K0 = b0 at *
  go_wp2_with fail
  go_loopw [23] (fun i wr => ∃ (k : Nat) (b : K), k ≤ n ∧ i = .int .i64 k ∧ Row wr B 28 b.row ∧ Hid (chkR s l = chkL b (l.drop k)) ∧ i64 b.id ∧ i64 b.frm ∧ w.grownBy wr none) (fun i _ => n - (intOf i).toNat)
  case atStart => exact ⟨0, b0, by omega, rfl, HB, HE, hi0.1, hi0.2, gg⟩
  case round =>
    clear HB HE hi0 gg r0 r1
    obtain ⟨k, b, hkn, rfl, HB, HE, b1, b2, gg⟩ := hrel
    by_cases hlt : k < n
    · obtain ⟨ad, x, hx, rfl, hbl, ⟨o1, o2, o3, o4⟩, x0, x1, x2, x3⟩ := (HK.out wr gg).at k hlt
      have HX := Lib.hid (chkL_next (b := b) hx)
      obtain ⟨xi, xs, xf, xt⟩ := x
      obtain ⟨bi, bs, bf, bt⟩ := b
      clear hx
      go_upto_region 9 with fail
      obtain ⟨w3, e3, HX3, g⟩ := row_of wr 28 #[.int .i64 xi, .string ⟨xs.toArray⟩, .int .i64 xf, .int .i64 xt]
      rw [← e3]
      have gg3 := gg.trans g
      have HB3 := HB.kept g
      have hbx : wr.heap.size ≠ B := fun e => by have := HB.lt; omega
      clear e3 HB x0 x1 x2 x3
      generalize wr.heap.size = X at *
      have y0 : w3.cell? ⟨B, 0, none⟩ = some (.int .i64 bi) := HB3.c 0 rfl
      have y1 : w3.cell? ⟨B, 1, none⟩ = some (.string ⟨bs.toArray⟩) := HB3.c 1 rfl
      have y2 : w3.cell? ⟨B, 2, none⟩ = some (.int .i64 bf) := HB3.c 2 rfl
      have y3 : w3.cell? ⟨B, 3, none⟩ = some (.int .i64 bt) := HB3.c 3 rfl
      have z0 : w3.cell? ⟨X, 0, none⟩ = some (.int .i64 xi) := HX3.c 0 rfl
      have z1 : w3.cell? ⟨X, 1, none⟩ = some (.string ⟨xs.toArray⟩) := HX3.c 1 rfl
      have z2 : w3.cell? ⟨X, 2, none⟩ = some (.int .i64 xf) := HX3.c 2 rfl
      have z3 : w3.cell? ⟨X, 3, none⟩ = some (.int .i64 xt) := HX3.c 3 rfl
      go_wp2_with fail
      refine (chkN_k bi bs bf bt xi xs xf xt ⟨b1, b2⟩ o1 o4 o2 o3 _).mono ?_
      rintro e w4 ⟨rfl, g⟩
      replace gg3 := gg3.trans g
      replace HB3 := HB3.kept g
      replace HX3 := HX3.kept g
      clear y0 y1 y2 y3 z0 z1 z2 z3 g
      by_cases he : chkN ⟨bi, bs, bf, bt⟩ ⟨xi, xs, xf, xt⟩ = 0
      · rw [he]
        have z0 : w4.cell? ⟨X, 0, none⟩ = some (.int .i64 xi) := HX3.c 0 rfl
        have z1 : w4.cell? ⟨X, 1, none⟩ = some (.string ⟨xs.toArray⟩) := HX3.c 1 rfl
        have z2 : w4.cell? ⟨X, 2, none⟩ = some (.int .i64 xf) := HX3.c 2 rfl
        have z3 : w4.cell? ⟨X, 3, none⟩ = some (.int .i64 xt) := HX3.c 3 rfl
        have k0 : w4.cell? ⟨B, 0, none⟩ = some (.int .i64 bi) := HB3.c 0 rfl
        have k1 : w4.cell? ⟨B, 1, none⟩ = some (.string ⟨bs.toArray⟩) := HB3.c 1 rfl
        have k2 : w4.cell? ⟨B, 2, none⟩ = some (.int .i64 bf) := HB3.c 2 rfl
        have k3 : w4.cell? ⟨B, 3, none⟩ = some (.int .i64 bt) := HB3.c 3 rfl
        have f0 := HB3.fz 0
        have f1 := HB3.fz 1
        have f2 := HB3.fz 2
        have f3 := HB3.fz 3
        have hsz := HB3.lt
        have RS : Row _ B 28 (K.row ⟨xi, xs, xf, xt⟩) := (((HB3.set 0 (.int .i64 xi)).set 1 (.string ⟨xs.toArray⟩)).set 2 (.int .i64 xf)).set 3 (.int .i64 xt)
        have gst := grown_set (i := 3) (v := .int .i64 xt) (grown_set (i := 2) (v := .int .i64 xf) (grown_set (i := 1) (v := .string ⟨xs.toArray⟩) (grown_set (i := 0) (v := .int .i64 xi) gg3 (.inl HN.out)) (.inl HN.out)) (.inl HN.out)) (.inl HN.out)
        have HE2 : Hid (chkR s l = chkL ⟨xi, xs, xf, xt⟩ (l.drop (k + 1))) := Lib.hid (by rw [HE.out, HX.out, if_pos he])
        clear he HX HE HB3 gg3
        go_wp2_with fail
        go_roundw
        case rel => exact ⟨k + 1, ⟨xi, xs, xf, xt⟩, by omega, by go_num, RS, HE2, o1, o2, gst⟩
        case measure => simp [intOf]; omega
      · have HE2 : Hid (chkR s l = chkN ⟨bi, bs, bf, bt⟩ ⟨xi, xs, xf, xt⟩) := Lib.hid (by rw [HE.out, HX.out, if_neg he])
        have he2 : (chkN ⟨bi, bs, bf, bt⟩ ⟨xi, xs, xf, xt⟩ != 0) = true := by simpa using he
        clear he HX HE
        generalize chkN ⟨bi, bs, bf, bt⟩ ⟨xi, xs, xf, xt⟩ = E at *
        go_wp2_with fail
        go_ret
        exact ⟨by rw [HE2.out]; rfl, gg3⟩
    · obtain rfl : k = n := by omega
      have HE2 : Hid (chkR s l = 0) := Lib.hid (by rw [HE.out, HL.out, List.drop_length]; rfl)
      go_wp2_with fail
      go_ret
      exact ⟨by rw [HE2.out]; rfl, gg⟩
end Go.Proofs.YtecobgjkodmaiaaDoor
