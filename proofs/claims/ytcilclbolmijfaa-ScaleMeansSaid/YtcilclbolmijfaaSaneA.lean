/-
  The chapter's examples, which every law asks first.
-/
import Derived.Test.YtcilclbolmijfaaConv
namespace Go.Proofs.Ytcilclbolmijfaa
open Go.RowKit
theorem Nums.new (w : World) (l : List Int) (t : TypeId) (hl : ∀ z ∈ l, i64 z) : Nums (w.alloc (.cells (l.map (Value.int .i64)).toArray t)) (some ⟨w.heap.size, 0, none⟩) l :=
  ⟨hl, fun _ => ⟨_, rfl, by simp, fun j z hz => by
    have e : ((⟨w.heap.size, 0, none⟩ : Addr).add j) = ⟨w.heap.size, j, none⟩ := by simp [Addr.add]; omega
    rw [e, World.cell?_alloc_new]
    simp [hz]⟩⟩
def gvB (u a d r x y p g want : Int) : Bool := coV u a d r x y p [g] [5] == want && coE u a d r x y p [g] [5] == 0
theorem box2 (w : World) (u a d r x y p g : Int) (hg : i64 g) : ∃ w1 w2, w1 = (w.alloc (.cells #[.int .i64 u, .int .i64 a, .int .i64 d, .int .i64 r] 26)).alloc (.cells #[.int .i64 x, .int .i64 y, .int .i64 p] 24) ∧ w2 = (w1.alloc (.cells #[.int .i64 g] 3)).alloc (.cells #[.int .i64 5] 3) ∧ C4 w1 w.heap.size u a d r ∧ S3 w1 (w.heap.size + 1) x y p ∧
    w1.heap.size = w.heap.size + 1 + 1 ∧ Nums w2 (some ⟨w.heap.size + 1 + 1, 0, none⟩) [g] ∧ Nums w2 (some ⟨w.heap.size + 1 + 1 + 1, 0, none⟩) [5] ∧ w.grownBy w2 none := by
  obtain ⟨w1, e1, h1, h2, h3⟩ := boxc w u a d r x y p
  have hs : w1.heap.size = w.heap.size + 1 + 1 := by rw [e1]; simp
  have n1 := Nums.new w1 [g] 3 (by simpa using hg)
  have n2 := Nums.new (w1.alloc (.cells #[.int .i64 g] 3)) [5] 3 (by simp [i64])
  have e2 : (w1.alloc (.cells #[.int .i64 g] 3)).heap.size = w.heap.size + 1 + 1 + 1 := by simp [hs]
  rw [e2] at n2
  rw [hs] at n1
  exact ⟨w1, _, e1, rfl, h1, h2, hs, n1.kept (World.grownBy_alloc _ _ none), n2, h3.trans (grown_al (World.grownBy_alloc _ _ none))⟩
set_option maxRecDepth 100000 in
set_option maxHeartbeats 2000000 in
theorem gives_k (u a d r x y p g want : Int) (hg : i64 g) (w : World) :
    Calls Try.prog 29 #[.agg #[.int .i64 u, .int .i64 a, .int .i64 d, .int .i64 r], .agg #[.int .i64 x, .int .i64 y, .int .i64 p], .int .i64 g, .int .i64 want] w fun e w' => e = .returned (.bool (gvB u a d r x y p g want)) ∧ w.grownBy w' none := by
  obtain ⟨w1, w2, e1, e2, HC, HS, hs, n1, n2, gg⟩ := box2 w u a d r x y p g hg
  have K := Lib.hid (convert_k u a d r x y p [g] [5] _ _ 1 1 1 1 w2 rfl rfl (by decide) (by decide) n1 n2)
  have E : Hid (gvB u a d r x y p g want = (coV u a d r x y p [g] [5] == want && coE u a d r x y p [g] [5] == 0)) := Lib.hid rfl
  generalize gvB u a d r x y p g want = res at *
  generalize coV u a d r x y p [g] [5] = v at *
  generalize coE u a d r x y p [g] [5] = er at *
  have H1 := Lib.hid e1
  have H2 := Lib.hid e2
  have c0 := HC.c0
  have c1 := HC.c1
  have c2 := HC.c2
  have c3 := HC.c3
  have s0 := HS.c0
  have s1 := HS.c1
  have s2 := HS.c2
  have HZ := Lib.hid hs
  clear e1 e2 n1 n2 hg hs
  go_enter Try.func29, Try.ntmps29
  go_upto_region 1 with fail
  rw [← H1.out]
  go_wp2_with fail
  rw [← H2.out, HZ.out]
  refine K.out.mono ?_
  rintro e w3 ⟨rfl, g3⟩
  by_cases h1 : v = want
  · have f1 : (v == want) = true := by simpa using h1
    rw [f1] at E
    clear h1
    go_wp2_with fail
    go_ret
    exact ⟨ret_bool (by rw [E.out]; rfl), gg.trans g3⟩
  · have f1 : (v == want) = false := by simpa using h1
    rw [f1] at E
    clear h1
    go_wp2_with fail
    go_ret
    exact ⟨ret_bool (by rw [E.out]; rfl), gg.trans g3⟩
end Go.Proofs.Ytcilclbolmijfaa
