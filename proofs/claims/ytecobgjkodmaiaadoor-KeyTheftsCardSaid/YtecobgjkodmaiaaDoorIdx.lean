/-
  Where a key stands among keys: the reference's find; key.index with its closure.
-/
import Derived.Test.YtecobgjkodmaiaaDoorWd
namespace Go.Proofs.YtecobgjkodmaiaaDoor
open Go.RowKit
attribute [local go_sem] get_mk extract_mk
def idxF : List K → Int → Int → Int
  | [], _, _ => -1
  | x :: t, id, p => if x.id = id then p else idxF t id (p + 1)
def idxV (l : List K) (id : Int) : Int := idxF l id 0
def keyAt (l : List K) (j : Nat) : K := (l[j]?).getD K0
theorem idxF_next {l : List K} {k : Nat} {x : K} (h : l[k]? = some x) (id : Int) : idxF (l.drop k) id k = if x.id = id then (k : Int) else idxF (l.drop (k + 1)) id (k + 1 : Nat) := by
  obtain ⟨hk, hx⟩ := List.getElem?_eq_some_iff.1 h
  rw [List.drop_eq_getElem_cons hk, hx]
  rfl
theorem idxF_cases (id : Int) : ∀ (l : List K) (p : Int), idxF l id p = -1 ∧ (∀ x ∈ l, x.id ≠ id) ∨ ∃ (j : Nat) (x : K), idxF l id p = p + j ∧ l[j]? = some x ∧ x.id = id
  | [], p => .inl ⟨rfl, fun _ h => by cases h⟩
  | x :: t, p => by
    unfold idxF
    split
    · rename_i h
      exact .inr ⟨0, x, by simp, rfl, h⟩
    · rename_i h
      rcases idxF_cases id t (p + 1) with ⟨h1, h2⟩ | ⟨j, y, h1, h2, h3⟩
      · refine .inl ⟨h1, fun y hy => ?_⟩
        rcases List.mem_cons.1 hy with rfl | hy
        · exact h
        · exact h2 y hy
      · exact .inr ⟨j + 1, y, by rw [h1]; omega, by simpa using h2, h3⟩
theorem idxV_cases (l : List K) (id : Int) : idxV l id = -1 ∧ (∀ x ∈ l, x.id ≠ id) ∨ ∃ (j : Nat) (x : K), idxV l id = j ∧ l[j]? = some x ∧ x.id = id := by
  rcases idxF_cases id l 0 with h | ⟨j, x, h1, h2, h3⟩
  · exact .inl h
  · exact .inr ⟨j, x, by unfold idxV; omega, h2, h3⟩
set_option maxRecDepth 100000 in
set_option maxHeartbeats 1000000 in
/-- the reference's find -/
theorem find_r (s : Int) (A : Option Addr) (n c : Nat) (l : List K) (id : Int) (hid : i64 id) (w : World) (hk : Keys w A n c l) :
    Calls Tryd.prog 38 #[.agg #[.int .i64 s, .slice A n c], .int .i64 id] w fun e w' => e = .returned (.int .i64 (idxV l id)) ∧ w.grownBy w' none := by
  obtain ⟨d1, d2⟩ := hid
  have hl := hk.len
  have hle := hk.le
  have hcap := hk.cap
  have HK := Lib.hid (fun W (g : w.grownBy W none) => hk.kept g)
  have gg := World.grownBy_alloc w (.cells #[.int .i64 s, .slice A n c] 34) none
  have r1 : (w.alloc (.cells #[.int .i64 s, .slice A n c] 34)).cell? ⟨w.heap.size, 1, none⟩ = some (.slice A n c) := cell_at rfl
  clear hk
  have HE : Hid (idxV l id = idxF (l.drop 0) id (0 : Nat)) := Lib.hid rfl
  have HL := Lib.hid hl
  clear hl
  go_enter Tryd.func38, Tryd.ntmps38
  go_upto_region 1 with fail
  generalize w.alloc (.cells #[.int .i64 s, .slice A n c] 34) = w1 at *
  go_wp2_with fail
  go_loopw [5] (fun i wr => ∃ k : Nat, k ≤ n ∧ i = .int .i64 k ∧ Hid (idxV l id = idxF (l.drop k) id k) ∧ w1.grownBy wr none) (fun i _ => n - (intOf i).toNat)
  case atStart => exact ⟨0, by omega, rfl, HE, grown_refl _⟩
  case round =>
    clear HE
    obtain ⟨k, hkn, rfl, HE, gw⟩ := hrel
    have q1 := gcell gw r1
    by_cases hlt : k < n
    · obtain ⟨ad, x, hx, rfl, hbl, ⟨o1, o2, o3, o4⟩, x0, x1, x2, x3⟩ := (HK.out wr (gg.trans gw)).at k hlt
      have HX := Lib.hid (idxF_next hx id)
      obtain ⟨xi, xs, xf, xt⟩ := x
      clear hx x1 x2 x3
      by_cases he : xi = id
      · have HE2 : Hid (idxV l id = k) := Lib.hid (by rw [HE.out, HX.out, if_pos he])
        have he2 : (xi == id) = true := by simpa using he
        clear he HX HE
        go_wp2_with fail
        go_ret
        exact ⟨by rw [HE2.out]; rfl, gg.trans gw⟩
      · have HE2 : Hid (idxV l id = idxF (l.drop (k + 1)) id (k + 1 : Nat)) := Lib.hid (by rw [HE.out, HX.out, if_neg he])
        have he2 : (xi == id) = false := by simpa using he
        clear he HX HE
        go_wp2_with fail
        go_roundw
        case rel => exact ⟨k + 1, by omega, by go_num, HE2, gw⟩
        case measure => simp [intOf]; omega
    · obtain rfl : k = n := by omega
      have HE2 : Hid (idxV l id = -1) := Lib.hid (by rw [HE.out, HL.out, List.drop_length]; rfl)
      go_wp2_with fail
      go_ret
      exact ⟨by rw [HE2.out]; rfl, gg.trans gw⟩
set_option maxRecDepth 100000 in
theorem isKey_k (B : Nat) (id i : Int) (s : Str) (f t : Int) (w : World) (hB : w.cell? ⟨B, 0, none⟩ = some (.int .i64 id)) :
    Calls Tryd.prog 51 #[.agg #[.int .i64 i, .string ⟨s.toArray⟩, .int .i64 f, .int .i64 t], .pointer (some ⟨B, 0, none⟩)] w fun e w' => e = .returned (.bool (i == id)) ∧ w.grownBy w' none := by
  have gg := World.grownBy_alloc w (.cells #[.int .i64 i, .string ⟨s.toArray⟩, .int .i64 f, .int .i64 t] 28) none
  have r0 : (w.alloc (.cells #[.int .i64 i, .string ⟨s.toArray⟩, .int .i64 f, .int .i64 t] 28)).cell? ⟨w.heap.size, 0, none⟩ = some (.int .i64 i) := cell_at rfl
  have q := gcell gg hB
  go_enter Tryd.func51, Tryd.ntmps51
  go_wp2_with fail
  go_ret
  exact ⟨rfl, gg⟩
set_option maxRecDepth 100000 in
set_option maxHeartbeats 1000000 in
theorem indexFunc_k (B : Nat) (A : Option Addr) (n c : Nat) (l : List K) (id : Int) (hid : i64 id) (w : World) (hB : w.cell? ⟨B, 0, none⟩ = some (.int .i64 id)) (hk : Keys w A n c l) :
    Calls Tryd.prog 50 #[.slice A n c, .func (.func 51) #[] #[.pointer (some ⟨B, 0, none⟩)]] w fun e w' => e = .returned (.int .i64 (idxV l id)) ∧ w.grownBy w' none := by
  obtain ⟨d1, d2⟩ := hid
  have hl := hk.len
  have hle := hk.le
  have hcap := hk.cap
  have HK := Lib.hid (fun W (g : w.grownBy W none) => hk.kept g)
  clear hk
  have HE : Hid (idxV l id = idxF (l.drop 0) id (0 : Nat)) := Lib.hid rfl
  have HL := Lib.hid hl
  clear hl
  go_enter Tryd.func50, Tryd.ntmps50
  go_wp2_with fail
  go_loopw [8] (fun i wr => ∃ k : Nat, k ≤ n ∧ i = .int .i64 k ∧ Hid (idxV l id = idxF (l.drop k) id k) ∧ w.grownBy wr none) (fun i _ => n - (intOf i).toNat)
  case atStart => exact ⟨0, by omega, rfl, HE, grown_refl _⟩
  case round =>
    clear HE
    obtain ⟨k, hkn, rfl, HE, gw⟩ := hrel
    have q1 := gcell gw hB
    by_cases hlt : k < n
    · obtain ⟨ad, x, hx, rfl, hbl, ⟨o1, o2, o3, o4⟩, x0, x1, x2, x3⟩ := (HK.out wr gw).at k hlt
      have HX := Lib.hid (idxF_next hx id)
      obtain ⟨xi, xs, xf, xt⟩ := x
      clear hx
      go_wp2_with fail
      refine (isKey_k B id xi xs xf xt _ q1).mono ?_
      rintro e w2 ⟨rfl, g⟩
      replace gw := gw.trans g
      clear x0 x1 x2 x3 q1 g
      by_cases he : xi = id
      · have HE2 : Hid (idxV l id = k) := Lib.hid (by rw [HE.out, HX.out, if_pos he])
        have he2 : (xi == id) = true := by simpa using he
        rw [he2]
        clear he HX HE
        go_wp2_with fail
        go_ret
        exact ⟨by rw [HE2.out]; rfl, gw⟩
      · have HE2 : Hid (idxV l id = idxF (l.drop (k + 1)) id (k + 1 : Nat)) := Lib.hid (by rw [HE.out, HX.out, if_neg he])
        have he2 : (xi == id) = false := by simpa using he
        rw [he2]
        clear he HX HE
        go_wp2_with fail
        go_roundw
        case rel => exact ⟨k + 1, by omega, by go_num, HE2, gw⟩
        case measure => simp [intOf]; omega
    · obtain rfl : k = n := by omega
      have HE2 : Hid (idxV l id = -1) := Lib.hid (by rw [HE.out, HL.out, List.drop_length]; rfl)
      go_wp2_with fail
      go_ret
      exact ⟨by rw [HE2.out]; rfl, gw⟩
set_option maxRecDepth 100000 in
/-- key.index -/
theorem index_k (A : Option Addr) (n c : Nat) (l : List K) (id : Int) (hid : i64 id) (w : World) (hk : Keys w A n c l) :
    Calls Tryd.prog 35 #[.slice A n c, .int .i64 id] w fun e w' => e = .returned (.int .i64 (idxV l id)) ∧ w.grownBy w' none := by
  have gg := World.grownBy_alloc w (.cells #[.int .i64 id] 3) none
  have r0 : (w.alloc (.cells #[.int .i64 id] 3)).cell? ⟨w.heap.size, 0, none⟩ = some (.int .i64 id) := cell_at rfl
  have HK := hk.kept gg
  go_enter Tryd.func35, Tryd.ntmps35
  go_wp2_with fail
  refine (indexFunc_k _ A n c l id hid _ r0 HK).mono ?_
  rintro e w2 ⟨rfl, g⟩
  go_wp2_with fail
  go_ret
  exact ⟨rfl, gg.trans g⟩
end Go.Proofs.YtecobgjkodmaiaaDoor
