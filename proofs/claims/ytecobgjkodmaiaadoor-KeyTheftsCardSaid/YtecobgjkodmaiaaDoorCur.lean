/-
  The current key: the reference's, and that of the program by its range over slices.Backward.
-/
import Derived.RangeFuncBox
import Derived.RangeFuncNested
import Derived.RangeFuncBound
import Derived.RangeFuncCalls
import Derived.RangeFuncLeaves
import Derived.Shelf.Abstract
import Derived.Shelf.RegionOpen
import Derived.OwnWalkIn
import Derived.TacticsInMore
import Derived.LoopNIn
import Derived.LoopIn
import Derived.Test.YtecobgjkodmaiaaDoorChk
namespace Go.Proofs.YtecobgjkodmaiaaDoor
open Go.RowKit Go.Shelf
attribute [local go_sem] get_mk extract_mk Oper.semAt_some
def curP (day : Int) (k : K) : Bool := decide (k.frm ≤ day) && !stolenB k day
def curO (l : List K) (day : Int) : Option K := l.reverse.find? (curP day)
def curI (l : List K) (day : Int) : Int := match curO l day with | some k => k.id | none => 0
def curB (l : List K) (day : Int) : Bool := (curO l day).isSome
theorem curO_of {l r : List K} {ini : List K} {x : K} {day : Int} (h : l.reverse = ini ++ x :: r) (hi : ∀ y ∈ ini, curP day y = false) (hx : curP day x = true) : curO l day = some x := by
  unfold curO
  rw [h, List.find?_append, List.find?_eq_none.2 (fun y hy => by simp [hi y hy])]
  simp [hx]
theorem curO_none {l : List K} {day : Int} (hi : ∀ y ∈ l.reverse, curP day y = false) : curO l day = none := by
  unfold curO
  exact List.find?_eq_none.2 (fun y hy => by simp [hi y hy])
theorem rev_take {l : List K} {k : Nat} (_ : k ≤ l.length) : l.reverse.take k = (l.drop (l.length - k)).reverse := List.take_reverse
theorem rev_at {l : List K} {k : Nat} {x : K} (h : l[k]? = some x) : l.reverse = (l.drop (k + 1)).reverse ++ x :: (l.take k).reverse := by
  obtain ⟨hk, hx⟩ := List.getElem?_eq_some_iff.1 h
  have : l = l.take k ++ x :: l.drop (k + 1) := by rw [← hx, List.getElem_cons_drop, List.take_append_drop]
  rw (config := { occs := .pos [1] }) [this]
  simp
set_option maxRecDepth 100000 in
set_option maxHeartbeats 1000000 in
/-- the reference's Current -/
theorem current_r (s : Int) (A : Option Addr) (n c : Nat) (l : List K) (day : Int) (hday : i64 day) (w : World) (hk : Keys w A n c l) :
    Calls Tryd.prog 19 #[.agg #[.int .i64 s, .slice A n c], .int .i64 day] w fun e w' => e = .returned (.tuple #[.int .i64 (curI l day), .bool (curB l day)]) ∧ w.grownBy w' none := by
  obtain ⟨d1, d2⟩ := hday
  have HL := Lib.hid hk.len
  have hle := hk.le
  have hcap := hk.cap
  have HK := Lib.hid (fun W (g : w.grownBy W none) => hk.kept g)
  have gg := World.grownBy_alloc w (.cells #[.int .i64 s, .slice A n c] 34) none
  have r1 : (w.alloc (.cells #[.int .i64 s, .slice A n c] 34)).cell? ⟨w.heap.size, 1, none⟩ = some (.slice A n c) := cell_at rfl
  have hwn : IntKind.i64.wrap ((n : Int) - 1) = (n : Int) - 1 := by rw [IntKind.wrap_i64]; omega
  clear hk
  go_enter Tryd.func19, Tryd.ntmps19
  go_upto_region 1 with fail
  generalize w.alloc (.cells #[.int .i64 s, .slice A n c] 34) = w1 at *
  go_wp2_with fail
  go_loopw [6] (fun i wr => ∃ k : Nat, k ≤ n ∧ i = .int .i64 ((k : Int) - 1) ∧ Hid (∀ y ∈ l.drop k, curP day y = false) ∧ w1.grownBy wr none) (fun i _ => (intOf i + 1).toNat)
  case atStart => exact ⟨n, Nat.le_refl _, by go_num, Lib.hid (by rw [HL.out, List.drop_length]; intro y hy; cases hy), grown_refl _⟩
  case round =>
    obtain ⟨k, hkn, rfl, HE, gw⟩ := hrel
    have q1 := gcell gw r1
    cases k with
    | zero =>
      have HC : Hid (curO l day = none) := Lib.hid (curO_none (fun y hy => HE.out y (by simpa using hy)))
      go_wp2_with fail
      exact bodyPost_ret (v := .tuple #[.int .i64 0, .bool false]) (by simp [results, Tryd.results19, go_sem]) rfl ⟨by unfold curI curB; rw [HC.out]; rfl, gg.trans gw⟩
    | succ j =>
      have hji : ((j + 1 : Nat) : Int) - 1 = (j : Int) := by omega
      rw [hji]
      have hjn : j < n := by omega
      obtain ⟨ad, x, hx, rfl, hbl, ⟨o1, o2, o3, o4⟩, x0, x1, x2, x3⟩ := (HK.out wr (gg.trans gw)).at j hjn
      have HX := Lib.hid hx
      obtain ⟨xi, xs, xf, xt⟩ := x
      clear hx hji
      go_upto_region 5 with fail
      obtain ⟨w3, e3, HX3, g⟩ := row_of wr 28 #[.int .i64 xi, .string ⟨xs.toArray⟩, .int .i64 xf, .int .i64 xt]
      rw [← e3]
      have gg3 := (gg.trans gw).trans g
      have gw3 := gw.trans g
      clear e3 x0 x1 x2 x3 g q1
      generalize wr.heap.size = X at *
      have z0 : w3.cell? ⟨X, 0, none⟩ = some (.int .i64 xi) := HX3.c 0 rfl
      have z2 : w3.cell? ⟨X, 2, none⟩ = some (.int .i64 xf) := HX3.c 2 rfl
      have z3 : w3.cell? ⟨X, 3, none⟩ = some (.int .i64 xt) := HX3.c 3 rfl
      clear HX3
      obtain ⟨p1, p2⟩ := o2
      obtain ⟨p3, p4⟩ := o3
      have yes : Hid (curP day ⟨xi, xs, xf, xt⟩ = true → curI l day = xi ∧ curB l day = true) := Lib.hid (fun h => by
        have := curO_of (rev_at HX.out) (fun y hy => HE.out y (by simpa using hy)) h
        unfold curI curB
        rw [this]
        exact ⟨rfl, rfl⟩)
      have nots : Hid (curP day ⟨xi, xs, xf, xt⟩ = false → ∀ y ∈ l.drop j, curP day y = false) := Lib.hid (fun h y hy => by
        obtain ⟨hk, hxx⟩ := List.getElem?_eq_some_iff.1 HX.out
        rw [List.drop_eq_getElem_cons hk, hxx] at hy
        rcases List.mem_cons.1 hy with rfl | hy
        · exact h
        · exact HE.out y hy)
      clear HE HX
      by_cases c0 : xf ≤ day
      · have h0 : decide (xf ≤ day) = true := by simpa using c0
        by_cases c1 : xt = 0
        · have HY := Lib.hid (yes.out (by simp [curP, stolenB, c0, c1]))
          have h1 : (xt == 0) = true := by simpa using c1
          clear c0 c1 yes nots
          go_wp2_with fail
          exact bodyPost_ret (v := .tuple #[.int .i64 xi, .bool true]) (by simp [results, Tryd.results19, go_sem]) rfl ⟨by rw [HY.out.1, HY.out.2], gg3⟩
        · have h1 : (xt == 0) = false := by simpa using c1
          by_cases c2 : day < xt
          · have HY := Lib.hid (yes.out (by simp [curP, stolenB, c0, c2]))
            have h2 : decide (xt > day) = true := by simpa using c2
            clear c0 c1 c2 yes nots
            go_wp2_with fail
            exact bodyPost_ret (v := .tuple #[.int .i64 xi, .bool true]) (by simp [results, Tryd.results19, go_sem]) rfl ⟨by rw [HY.out.1, HY.out.2], gg3⟩
          · have HY := Lib.hid (nots.out (by simp [curP, stolenB, c0, c1]; omega))
            have h2 : decide (xt > day) = false := by simpa using c2
            have hw2 : IntKind.i64.wrap ((j : Int) - 1) = (j : Int) - 1 := by rw [IntKind.wrap_i64]; omega
            clear c0 c1 c2 yes nots
            go_wp2_with fail
            go_roundw
            case rel => exact ⟨j, by omega, by go_num, HY, gw3⟩
            case measure => first | (simp [intOf]; done) | (simp [intOf]; omega)
      · have HY := Lib.hid (nots.out (by simp [curP, c0]))
        have h0 : decide (xf ≤ day) = false := by simpa using c0
        have hw2 : IntKind.i64.wrap ((j : Int) - 1) = (j : Int) - 1 := by rw [IntKind.wrap_i64]; omega
        clear c0 yes nots
        go_wp2_with fail
        go_roundw
        case rel => exact ⟨j, by omega, by go_num, HY, gw3⟩
        case measure => first | (simp [intOf]; done) | (simp [intOf]; omega)
end Go.Proofs.YtecobgjkodmaiaaDoor
