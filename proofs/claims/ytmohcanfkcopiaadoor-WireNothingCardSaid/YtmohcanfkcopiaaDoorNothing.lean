/-
  WireNothing: the walk.
-/
import Derived.Test.YtmohcanfkcopiaaDoorSane
namespace Go.Proofs.YtmohcanfkcopiaaDoor
open Go.RowKit
attribute [local go_sem] get_mk extract_mk

theorem empty_bad : badAll [] = true := by decide +kernel
theorem empty_k (w : World) (hb : Base w) (b : Nat) (hb6 : 6 ≤ b) (h : Rd w b (some [])) (j : Nat) (hj : j < 4) :
    Calls Tryd.prog 36 #[.pointer (some ⟨b, 0, none⟩), .int .i64 j] w fun e w' => e = .returned (.bool true) ∧ Rd w' b none ∧ w.grownBy w' (some b) := by
  have := decodes_k w hb b hb6 _ h (fun l e => by injection e with e; subst e; simp) j hj
  rw [(badAll_at empty_bad j hj).1, (badAll_at empty_bad j hj).2] at this
  exact this

theorem empty_i (w : World) (hb : Base w) (b : Nat) (hb6 : 6 ≤ b) (h : Rd w b (some [])) (j : Int) (h0 : 0 ≤ j) (h4 : j < 4) :
    Calls Tryd.prog 36 #[.pointer (some ⟨b, 0, none⟩), .int .i64 j] w fun e w' => e = .returned (.bool true) ∧ Rd w' b none ∧ w.grownBy w' (some b) := by
  obtain ⟨n, rfl⟩ := Int.eq_ofNat_of_zero_le h0
  exact empty_k w hb b hb6 h n (by omega)
theorem nil_i (w : World) (j : Int) (h0 : 0 ≤ j) (h4 : j < 4) : Calls Tryd.prog 36 #[.pointer none, .int .i64 j] w fun e w' => e = .returned (.bool true) ∧ w = w' := by
  obtain ⟨n, rfl⟩ := Int.eq_ofNat_of_zero_le h0
  exact decodes_nil w n (by omega)

/-- the three readers of the law, as far as they have not been used -/
def NRel (w : World) (n1 n2 n3 : Nat) (i : Value) (wr : World) : Prop :=
  ∃ k : Nat, k ≤ 3 ∧ i = .int .i64 k ∧ Base wr ∧ w.grownBy wr none ∧ (k ≤ 1 → Rd wr n1 (some [])) ∧ (k ≤ 2 → Rd wr n2 (some [])) ∧
    wr.heap[n3]? = some (.cells #[.pointer none, .pointer (some ⟨n1, 0, none⟩), .pointer (some ⟨n2, 0, none⟩)] 32 (0, 0))

set_option maxRecDepth 100000 in
set_option maxHeartbeats 2000000 in
theorem nothing_walk (w : World) (hb : Base w) (q : Int) (h0 : 0 ≤ q) (h1 : q ≤ 255) : Calls Tryd.prog 9 #[.int .u8 q] w fun e w' => e = .returned (.bool true) ∧ w.grownBy w' none := by
  have hb6 := hb.size
  have Hs := Lib.hid (sane w hb)
  have Hb := Lib.hid hb
  clear hb
  go_enter Tryd.func9, Tryd.ntmps9
  go_wp2_with fail
  refine Hs.out.mono ?_
  rintro e w1 ⟨rfl, g1⟩
  have b1 := Lib.hid (Hb.out.none_ g1)
  go_wp2_with fail
  refine (new_k [] _).mono ?_
  rintro e w2 ⟨rfl, r2, g2, l2⟩
  go_wp2_with fail
  have a1 := World.grownBy_alloc w1 (.cells #[Value.string ⟨#[]⟩, Value.bool false] 53) none
  have r1 : Rd (w1.alloc (.cells #[Value.string ⟨#[]⟩, Value.bool false] 53)) w1.heap.size (some []) := heap_alloc_new w1 _
  have a3 := World.grownBy_alloc w2 (.cells #[Value.pointer none, Value.pointer (some ⟨w1.heap.size, 0, none⟩), Value.pointer (some ⟨w1.heap.size + 1, 0, none⟩)] 32) none
  have hg0 : w.grownBy (w2.alloc (.cells #[Value.pointer none, Value.pointer (some ⟨w1.heap.size, 0, none⟩), Value.pointer (some ⟨w1.heap.size + 1, 0, none⟩)] 32)) none := (g1.trans a1).trans (g2.trans a3)
  have e2 : (w1.alloc (.cells #[Value.string ⟨#[]⟩, Value.bool false] 53)).heap.size = w1.heap.size + 1 := by simp
  rw [e2] at r2 l2
  have hst : NRel w w1.heap.size (w1.heap.size + 1) w2.heap.size (.int .i64 0) (w2.alloc (.cells #[Value.pointer none, Value.pointer (some ⟨w1.heap.size, 0, none⟩), Value.pointer (some ⟨w1.heap.size + 1, 0, none⟩)] 32)) :=
    ⟨0, by omega, rfl, Hb.out.none_ hg0, hg0, fun _ => (r1.grown g2 (by simp)).grown a3 (by simp), fun _ => r2.grown a3 (by simp), heap_alloc_new w2 _⟩
  have hw1 : w.heap.size ≤ w1.heap.size := g1.size
  have Hst := Lib.hid hst
  clear hst a1 r1 a3 hg0 e2 g2 r2
  generalize hn1 : w1.heap.size = n1 at *
  generalize hn3 : w2.heap.size = n3 at *
  clear hn1 hn3
  have hq0 : 0 ≤ q % 4 := by omega
  have hq4 : q % 4 < 4 := by omega
  go_loopg [12] 4 (fun g i wr => (∃ k : Nat, i = .int .i64 k ∧ g = 4 - k) ∧ NRel w n1 (n1 + 1) n3 i wr)
  case atStart => exact ⟨⟨0, rfl, rfl⟩, Hst.out⟩
  case round =>
    obtain ⟨⟨k0, hk0, hgk⟩, k, hk, rfl, hbr, hg, hr1, hr2, hrow⟩ := hrel
    obtain rfl : k0 = k := by injection hk0 with _ e; omega
    have Hbr := Lib.hid hbr
    have c0 : wr.cell? ⟨n3, 0, none⟩ = some (.pointer none) := by simp [World.cell?, hrow]
    have c1 : wr.cell? ⟨n3, 1, none⟩ = some (.pointer (some ⟨n1, 0, none⟩)) := by simp [World.cell?, hrow]
    have c2 : wr.cell? ⟨n3, 2, none⟩ = some (.pointer (some ⟨n1 + 1, 0, none⟩)) := by simp [World.cell?, hrow]
    have Hrow := Lib.hid hrow
    have Hr1 := Lib.hid hr1
    have Hr2 := Lib.hid hr2
    have Hgk := Lib.hid hgk
    have Hg := Lib.hid hg
    clear hrow hr1 hr2 hbr hk0 hgk hg
    match k0, hk with
    | 0, _ =>
      go_wp2_with (first
        | (go_at_call 32; refine (Left_nil _).mono ?_; rintro e w' ⟨rfl, rfl⟩)
        | (go_at_call 34; refine (Bad_nil _).mono ?_; rintro e w' ⟨rfl, rfl⟩)
        | (go_at_call 36; refine (nil_i _ _ hq0 hq4).mono ?_; rintro e w' ⟨rfl, rfl⟩))
      go_roundg 3
      case measure => have := Hgk.out; omega
      case rel => exact ⟨⟨1, rfl, rfl⟩, 1, by omega, rfl, Hbr.out, Hg.out, fun _ => Hr1.out (by omega), fun _ => Hr2.out (by omega), Hrow.out⟩
    | 1, _ =>
      have r1 := Lib.hid (Hr1.out (by omega))
      go_wp2_with fail
      refine (Left_k _ _ _ r1.out).mono ?_
      rintro e w' ⟨rfl, rfl⟩
      go_wp2_with fail
      refine (Bad_k _ _ _ r1.out).mono ?_
      rintro e w' ⟨rfl, rfl⟩
      go_wp2_with fail
      refine (empty_i _ Hbr.out _ (by omega) r1.out _ hq0 hq4).mono ?_
      rintro e w5 ⟨rfl, r5, g5⟩
      go_wp2_with fail
      refine (Bad_k _ _ _ r5).mono ?_
      rintro e w' ⟨rfl, rfl⟩
      go_wp2_with fail
      refine (Left_k _ _ _ r5).mono ?_
      rintro e w' ⟨rfl, rfl⟩
      go_wp2_with fail
      go_roundg 2
      case measure => have := Hgk.out; omega
      case rel => exact ⟨⟨2, rfl, rfl⟩, 2, by omega, rfl, Hbr.out.grown g5 (fun k hk => by injection hk with hk; omega), Hg.out.andThen g5 (fun j hj => .inl (by injection hj with hj; omega)), fun h => by omega, fun _ => (Hr2.out (by omega)).grown g5 (fun e => by injection e with e; omega), (g5.block n3 (Array.getElem?_eq_some_iff.1 Hrow.out).1 (fun e => by injection e with e; omega)).trans Hrow.out⟩
    | 2, _ =>
      have r1 := Lib.hid (Hr2.out (by omega))
      go_wp2_with fail
      refine (Left_k _ _ _ r1.out).mono ?_
      rintro e w' ⟨rfl, rfl⟩
      go_wp2_with fail
      refine (Bad_k _ _ _ r1.out).mono ?_
      rintro e w' ⟨rfl, rfl⟩
      go_wp2_with fail
      refine (empty_i _ Hbr.out _ (by omega) r1.out _ hq0 hq4).mono ?_
      rintro e w5 ⟨rfl, r5, g5⟩
      go_wp2_with fail
      refine (Bad_k _ _ _ r5).mono ?_
      rintro e w' ⟨rfl, rfl⟩
      go_wp2_with fail
      refine (Left_k _ _ _ r5).mono ?_
      rintro e w' ⟨rfl, rfl⟩
      go_wp2_with fail
      go_roundg 1
      case measure => have := Hgk.out; omega
      case rel => exact ⟨⟨3, rfl, rfl⟩, 3, by omega, rfl, Hbr.out.grown g5 (fun k hk => by injection hk with hk; omega), Hg.out.andThen g5 (fun j hj => .inl (by injection hj with hj; omega)), fun h => by omega, fun h => by omega, (g5.block n3 (Array.getElem?_eq_some_iff.1 Hrow.out).1 (fun e => by injection e with e; omega)).trans Hrow.out⟩
    | 3, _ =>
      go_wp2_with fail
      go_ret
      exact ⟨rfl, Hg.out⟩
    | n + 4, hk => omega
end Go.Proofs.YtmohcanfkcopiaaDoor
