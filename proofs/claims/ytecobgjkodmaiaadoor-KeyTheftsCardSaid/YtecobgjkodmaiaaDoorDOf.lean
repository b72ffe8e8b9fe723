/-
  digest.Of, Chain, Mark, Check, and the reference's, by their contracts.
-/
import Derived.Test.YtecobgjkodmaiaaDoorBase
import Derived.Deep.QuietTactic
import Derived.BigQuiet
namespace Go.Proofs.YtecobgjkodmaiaaDoor
open Go.RowKit
attribute [local go_sem] get_mk extract_mk

theorem ret_i64 {a b : Int} (h : a = b) : Value.int .i64 a = .int .i64 b := by rw [h]
theorem sx_cast (x : Nat) (c : UInt8) : ((69621 : Int) * x + ((c.toNat : Int) + 1)) % 2147483647 = (sx x c : Nat) := by
  unfold sx; omega
theorem sy_cast (x : Nat) (c : UInt8) : ((45991 : Int) * x + ((c.toNat : Int) + 1)) % 2147483629 = (sy x c : Nat) := by
  unfold sy; omega

set_option maxHeartbeats 2000000 in
/-- digest.together -/
theorem together_k (ad : Addr) (n c : Nat) (ps : List Str) (w : World) (hn : n = ps.length) (hc : ∀ j p, ps[j]? = some p → w.cell? (ad.add j) = some (.string ⟨p.toArray⟩)) (hl : ∀ p ∈ ps, p.length ≤ 4611686018427387904) (hn0 : n ≤ 1000000) :
    Calls Tryd.prog 53 #[.slice (some ad) n c] w fun e w' => e = .returned (.string ⟨(dg ps.flatten).toArray⟩) ∧ w.grownBy w' none := by
  have hle : n ≤ ps.length := by omega
  have hge : ps.length ≤ n := by omega
  clear hn
  go_enter Tryd.func53, Tryd.ntmps53
  go_wp2
  go_loop [3, 4, 11] (fun x y i => ∃ k : Nat, k ≤ n ∧ i = .int .i64 k ∧ x = .int .i64 (dx (ps.take k).flatten : Nat) ∧ y = .int .i64 (dy (ps.take k).flatten : Nat)) (fun _ _ i => n - (intOf i).toNat)
  case atStart => exact ⟨0, Nat.zero_le _, rfl, rfl, rfl⟩
  case round =>
    obtain ⟨k, hk, rfl, rfl, rfl⟩ := hrel
    by_cases hlt : k < n
    · obtain ⟨p, hp⟩ : ∃ p, ps[k]? = some p := ⟨_, List.getElem?_eq_getElem (by omega)⟩
      have hcp := hc k p hp
      have hpl := hl p (List.mem_of_getElem? hp)
      have HT := Lib.hid (take_one ps k p hp)
      have Hc := Lib.hid hc
      clear hc hp
      go_wp2
      go_loop [3, 4, 17] (fun x y i => ∃ m : Nat, m ≤ p.length ∧ i = .int .i64 m ∧ x = .int .i64 (dx ((ps.take k).flatten ++ p.take m) : Nat) ∧ y = .int .i64 (dy ((ps.take k).flatten ++ p.take m) : Nat)) (fun _ _ i => p.length - (intOf i).toNat)
      case atStart => exact ⟨0, Nat.zero_le _, rfl, by simp, by simp⟩
      case round =>
        obtain ⟨m, hm, rfl, rfl, rfl⟩ := hrel
        by_cases hmt : m < p.length
        · have HM := Lib.hid (take_one p m p[m] (List.getElem?_eq_getElem hmt))
          have h1 := dx_lt ((ps.take k).flatten ++ p.take m)
          have h2 := dy_lt ((ps.take k).flatten ++ p.take m)
          have HX := Lib.hid (dx_snoc ((ps.take k).flatten ++ p.take m) p[m])
          have HY := Lib.hid (dy_snoc ((ps.take k).flatten ++ p.take m) p[m])
          have h3 : p[m].toNat < 256 := UInt8.toNat_lt _
          generalize dx ((ps.take k).flatten ++ p.take m) = X at h1 HX ⊢
          generalize dy ((ps.take k).flatten ++ p.take m) = Y at h2 HY ⊢
          go_wp2
          go_round
          case rel =>
            refine ⟨m + 1, by omega, by go_num, ret_i64 ?_, ret_i64 ?_⟩
            · rw [HM.out, ← List.append_assoc, HX.out, ← sx_cast]
            · rw [HM.out, ← List.append_assoc, HY.out, ← sy_cast]
          case measure => simp [intOf]; omega
        · have HP : Hid (p.take m = p) := Lib.hid (List.take_of_length_le (by omega))
          go_wp2
          go_round
          case rel =>
            refine ⟨k + 1, by omega, by go_num, ?_, ?_⟩
            · rw [HT.out, HP.out]; simp
            · rw [HT.out, HP.out]; simp
          case measure => simp [intOf]; omega
    · have h1 := dx_lt (ps.take k).flatten
      have h2 := dy_lt (ps.take k).flatten
      have HE : Hid (ps.take k = ps) := Lib.hid (List.take_of_length_le (by omega))
      go_wp2_with fail
      refine (written4 _ (by omega) w).mono ?_
      rintro e w1 ⟨rfl, g1⟩
      go_wp2_with fail
      refine (written4 _ (by omega) w1).mono ?_
      rintro e w2 ⟨rfl, g2⟩
      go_wp2_with fail
      go_ret
      exact ⟨ret_str (by rw [HE.out, str_app]; rfl), g1.trans g2⟩

theorem one_cells (w : World) (cs : Array Value) (t : TypeId) (j : Nat) (v : Value) (h : cs[j]? = some v) : (w.alloc (.cells cs t)).cell? ((⟨w.heap.size, 0, none⟩ : Addr).add j) = some v := by
  rw [show (⟨w.heap.size, 0, none⟩ : Addr).add j = ⟨w.heap.size, j, none⟩ by unfold Addr.add; split <;> simp_all, World.cell?_alloc_new, h]
/-- the parts of a call of digest.together, as the caller lays them -/
theorem together_new (ps : List Str) (w : World) (n : Nat) (hn : n = ps.length) (hl : ∀ p ∈ ps, p.length ≤ 4611686018427387904) (hn0 : n ≤ 1000000) (cs : Array Value) (hcs : cs = (ps.map fun p => Value.string ⟨p.toArray⟩).toArray) :
    Calls Tryd.prog 53 #[.slice (some ⟨w.heap.size, 0, none⟩) n n] (w.alloc (.cells cs 9)) fun e w' => e = .returned (.string ⟨(dg ps.flatten).toArray⟩) ∧ w.grownBy w' none :=
  (together_k ⟨w.heap.size, 0, none⟩ n n ps _ hn (fun j p hp => one_cells w cs 9 j _ (by rw [hcs]; simp [hp])) hl hn0).mono fun _ _ ⟨he, hg⟩ => ⟨he, (World.grownBy_alloc w _ none).trans hg⟩

theorem number_k (n : Nat) (hn : n < 9223372036854775808) (w : World) : Calls Tryd.prog 54 #[.int .i64 n] w fun e w' => e = .returned (.string ⟨(be n 8).toArray⟩) ∧ w.grownBy w' none := by
  go_enter Tryd.func54, Tryd.ntmps54
  go_wp2_with fail
  refine (written8 n hn w).mono ?_
  rintro e w' ⟨rfl, hg⟩
  go_wp2_with fail
  go_ret
  exact ⟨rfl, hg⟩
def chain (a b : Str) : Str := dg (1 :: (be a.length 8 ++ (a ++ b)))
def mark (a b : Str) : Str := dg (2 :: (be a.length 8 ++ (a ++ (b ++ a))))
theorem be8_le (n : Nat) : (be n 8).length ≤ 4611686018427387904 := by rw [be_len]; decide
theorem mark_k (a b : Str) (ha : a.length ≤ 4611686018427387904) (hb : b.length ≤ 4611686018427387904) (w : World) :
    Calls Tryd.prog 42 #[.string ⟨a.toArray⟩, .string ⟨b.toArray⟩] w fun e w' => e = .returned (.string ⟨(mark a b).toArray⟩) ∧ w.grownBy w' none := by
  go_enter Tryd.func42, Tryd.ntmps42
  go_wp2_with fail
  refine (number_k a.length (by omega) w).mono ?_
  rintro e w1 ⟨rfl, g1⟩
  go_wp2_with fail
  refine (together_new [[2], be a.length 8, a, b, a] w1 5 rfl (by simp [ha, hb, be_len]) (by omega) _ rfl).mono ?_
  rintro e w2 ⟨rfl, g2⟩
  go_wp2_with fail
  go_ret
  exact ⟨ret_str (by simp [mark]), g1.trans g2⟩
/-- digest.Check -/
theorem check_k (a b m : Str) (ha : a.length ≤ 4611686018427387904) (hb : b.length ≤ 4611686018427387904) (w : World) :
    Calls Tryd.prog 24 #[.string ⟨a.toArray⟩, .string ⟨b.toArray⟩, .string ⟨m.toArray⟩] w fun e w' => e = .returned (.bool (a != [] && m == mark a b)) ∧ w.grownBy w' none := by
  by_cases h0 : a = []
  · subst h0
    go_enter Tryd.func24, Tryd.ntmps24
    go_wp2_with fail
    go_ret
    exact ⟨rfl, World.grownBy.refl _ _⟩
  · have h1 : (a != []) = true := by simpa using h0
    rw [h1, Bool.true_and]
    have h2 : a.isEmpty = false := by simpa using h0
    clear h0 h1
    go_enter Tryd.func24, Tryd.ntmps24
    go_wp2_with fail
    refine (mark_k a b ha hb w).mono ?_
    rintro e w1 ⟨rfl, g1⟩
    go_wp2_with fail
    go_ret
    exact ⟨rfl, g1⟩
end Go.Proofs.YtecobgjkodmaiaaDoor
