/-
  The examples of the chapter hold.
-/
import Derived.Test.YtnkemoicgadefaaGreatDoorExa
import Derived.BigQuiet
import Derived.Deep.RegionHeld3
import Derived.Deep.DeepCutAuto
namespace Go.Proofs.YtnkemoicgadefaaGreatDoor
open Go.RowKit
attribute [local go_sem] get_mk extract_mk
theorem offs_row {w : World} {g n : Nat} {cs : Array Value} {vs : List V} {l : List O} (h : Row w g 41 cs) (hc : cs = (vc vs).toArray) (hn : vs.length = l.length) (hl : n = l.length) (h9 : n ≤ 1000) (hi : ∀ (j : Nat) (v : V) (o : O), vs[j]? = some v → l[j]? = some o → VIs w v o) : Offs w (some ⟨g, 0, none⟩) n n vs l :=
  ⟨⟨by rw [vc_len, hn, hl], Nat.le_refl _, by omega, (fun h => by cases h), fun u hu => vc_one hu, fun _ => ⟨_, rfl, h.lt, fun j v hj => by rw [add_zero]; exact h.c j (by rw [hc]; simpa using hj)⟩⟩, hl, hn, hi⟩
theorem ints_row {w : World} {g n : Nat} {cs : Array Value} {l : List Int} (h : Row w g 3 cs) (hc : cs = (l.map (Value.int .i64)).toArray) (hl : n = l.length) (h9 : n ≤ 1000) (ho : ∀ x ∈ l, i64 x) : Ints w (some ⟨g, 0, none⟩) n n l :=
  ⟨⟨by simp [hl], Nat.le_refl _, by omega, (fun h => by cases h), (fun u hu => by obtain ⟨x, _, rfl⟩ := List.mem_map.1 hu; rfl), fun _ => ⟨_, rfl, h.lt, fun j v hj => by rw [add_zero]; exact h.c j (by rw [hc]; simpa using hj)⟩⟩, ho⟩
theorem strs_row {w : World} {g n : Nat} {cs : Array Value} {l : List Str} (h : Row w g 9 cs) (hc : cs = (l.map fun s => Value.string ⟨s.toArray⟩).toArray) (hl : n = l.length) (h9 : n ≤ 1000) (ho : ∀ x ∈ l, x.length ≤ 1152921504606846976) : Strs w (some ⟨g, 0, none⟩) n n l :=
  ⟨⟨by simp [hl], Nat.le_refl _, by omega, (fun h => by cases h), (fun u hu => by obtain ⟨x, _, rfl⟩ := List.mem_map.1 hu; rfl), fun _ => ⟨_, rfl, h.lt, fun j v hj => by rw [add_zero]; exact h.c j (by rw [hc]; simpa using hj)⟩⟩, ho⟩
def exV (s : Nat) : List V := [⟨sA1, 5, 30, some ⟨s, 0, none⟩, 2, 2, none, 0, 0⟩, ⟨sB1, 6, 10, some ⟨s + 2, 0, none⟩, 1, 1, some ⟨s + 3, 0, none⟩, 1, 1⟩, ⟨sB2, 3, 0, none, 0, 0, none, 0, 0⟩, ⟨sC1, 10, 200, some ⟨s + 5, 0, none⟩, 1, 1, some ⟨s + 6, 0, none⟩, 2, 2⟩]
theorem small (n : Int) (h : 0 ≤ n ∧ n ≤ 1000) : i64 n := ⟨by omega, by omega⟩
theorem all4 {l : List O} {vs : List V} {w : World} {a b c d : V} {p q r s : O} (hv : vs = [a, b, c, d]) (hl : l = [p, q, r, s]) (h1 : VIs w a p) (h2 : VIs w b q) (h3 : VIs w c r) (h4 : VIs w d s) : ∀ (j : Nat) (v : V) (o : O), vs[j]? = some v → l[j]? = some o → VIs w v o := by
  subst hv hl
  intro j v o hv ho
  match j, hv, ho with
  | 0, hv, ho => simp at hv ho; subst hv ho; exact h1
  | 1, hv, ho => simp at hv ho; subst hv ho; exact h2
  | 2, hv, ho => simp at hv ho; subst hv ho; exact h3
  | 3, hv, ho => simp at hv ho; subst hv ho; exact h4
  | j + 4, hv, ho => simp at hv
theorem len8 {s : Str} (h : s.length ≤ 8) : s.length ≤ 1152921504606846976 := Nat.le_trans h (by decide)
theorem s12 {w : World} {s : Nat} (h : Ex w s) : Ints w (some ⟨s, 0, none⟩) 2 2 [1, 2] := ints_row h.r0 rfl rfl (by decide) (fun x hx => small x (by simp at hx; omega))
theorem s2_ {w : World} {s : Nat} (h : Ex w s) : Ints w (some ⟨s + 2, 0, none⟩) 1 1 [2] := ints_row h.r2 rfl rfl (by decide) (fun x hx => small x (by simp at hx; omega))
theorem s40 {w : World} {s : Nat} (h : Ex w s) : Ints w (some ⟨s + 5, 0, none⟩) 1 1 [40] := ints_row h.r5 rfl rfl (by decide) (fun x hx => small x (by simp at hx; omega))
theorem nA1 {w : World} {s : Nat} (h : Ex w s) : Strs w (some ⟨s + 3, 0, none⟩) 1 1 [sA1] := strs_row h.r3 rfl rfl (by decide) (fun x hx => len8 (by simp at hx; subst hx; decide))
theorem nBB {w : World} {s : Nat} (h : Ex w s) : Strs w (some ⟨s + 6, 0, none⟩) 2 2 [sB1, sB2] := strs_row h.r6 rfl rfl (by decide) (fun x hx => len8 (by simp at hx; rcases hx with rfl | rfl <;> decide))
theorem vA {w : World} {s : Nat} (h : Ex w s) {A : Option Addr} {n c : Nat} {nd : List Str} (hn : Strs w A n c nd) (h9 : nd.length ≤ 1000) : VIs w ⟨sA1, 5, 30, some ⟨s, 0, none⟩, 2, 2, A, n, c⟩ ⟨sA1, 5, 30, [1, 2], nd⟩ := ⟨rfl, rfl, rfl, ⟨len8 (by first | (simp only; done) | (simp only; decide) | decide), small _ (by first | (simp only; done) | (simp only; decide) | decide), small _ (by first | (simp only; done) | (simp only; decide) | decide)⟩, s12 h, hn, ⟨by first | (simp only; done) | (simp only; decide) | decide, h9⟩⟩
theorem vB {w : World} {s : Nat} (h : Ex w s) (cd : Str) (hc : cd.length ≤ 8) : VIs w ⟨cd, 6, 10, some ⟨s + 2, 0, none⟩, 1, 1, some ⟨s + 3, 0, none⟩, 1, 1⟩ ⟨cd, 6, 10, [2], [sA1]⟩ := ⟨rfl, rfl, rfl, ⟨len8 hc, small _ (by first | (simp only; done) | (simp only; decide) | decide), small _ (by first | (simp only; done) | (simp only; decide) | decide)⟩, s2_ h, nA1 h, ⟨by first | (simp only; done) | (simp only; decide) | decide, by first | (simp only; done) | (simp only; decide) | decide⟩⟩
theorem vB2 {w : World} {A : Option Addr} {n c : Nat} {nd : List Str} (hn : Strs w A n c nd) (h9 : nd.length ≤ 1000) : VIs w ⟨sB2, 3, 0, none, 0, 0, A, n, c⟩ ⟨sB2, 3, 0, [], nd⟩ := ⟨rfl, rfl, rfl, ⟨len8 (by first | (simp only; done) | (simp only; decide) | decide), small _ (by first | (simp only; done) | (simp only; decide) | decide), small _ (by first | (simp only; done) | (simp only; decide) | decide)⟩, Ints.nil_ w, hn, ⟨by first | (simp only; done) | (simp only; decide) | decide, h9⟩⟩
theorem vC {w : World} {s : Nat} (h : Ex w s) (cr : Int) (hc : 0 ≤ cr ∧ cr ≤ 1000) : VIs w ⟨sC1, cr, 200, some ⟨s + 5, 0, none⟩, 1, 1, some ⟨s + 6, 0, none⟩, 2, 2⟩ ⟨sC1, cr, 200, [40], [sB1, sB2]⟩ := ⟨rfl, rfl, rfl, ⟨len8 (by first | (simp only; done) | (simp only; decide) | decide), small _ hc, small _ (by first | (simp only; done) | (simp only; decide) | decide)⟩, s40 h, nBB h, ⟨by first | (simp only; done) | (simp only; decide) | decide, by first | (simp only; done) | (simp only; decide) | decide⟩⟩
theorem exOffs {w : World} {s : Nat} (h : Ex w s) (hr : Row w (s + 7) 41 (exC s)) : Offs w (some ⟨s + 7, 0, none⟩) 4 4 (exV s) exL :=
  offs_row hr rfl rfl rfl (by decide) (all4 rfl rfl (vA h (Strs.nil_ w) (by decide)) (vB h sB1 (by decide)) (vB2 (Strs.nil_ w) (by decide)) (vC h 10 (by decide)))
theorem exOffs2 {w : World} {s : Nat} (h : Ex w s) (hr : Row w (s + 7) 41 ((exC s).setIfInBounds 5 (.string ⟨#[66, 50]⟩))) : ∃ vs, Offs w (some ⟨s + 7, 0, none⟩) 4 4 vs exTwice :=
  ⟨_, offs_row (vs := [⟨sA1, 5, 30, some ⟨s, 0, none⟩, 2, 2, none, 0, 0⟩, ⟨sB2, 6, 10, some ⟨s + 2, 0, none⟩, 1, 1, some ⟨s + 3, 0, none⟩, 1, 1⟩, ⟨sB2, 3, 0, none, 0, 0, none, 0, 0⟩, ⟨sC1, 10, 200, some ⟨s + 5, 0, none⟩, 1, 1, some ⟨s + 6, 0, none⟩, 2, 2⟩]) hr rfl rfl rfl (by decide) (all4 rfl rfl (vA h (Strs.nil_ w) (by decide)) (vB h sB2 (by decide)) (vB2 (Strs.nil_ w) (by decide)) (vC h 10 (by decide)))⟩
theorem exOffs3 {w : World} {s q : Nat} (h : Ex w s) (hr : Row w (s + 7) 41 ((exC s).setIfInBounds 4 (.slice (some ⟨q, 0, none⟩) 1 1))) (hq : Row w q 9 #[.string ⟨#[67, 49]⟩]) : ∃ vs, Offs w (some ⟨s + 7, 0, none⟩) 4 4 vs exCirc :=
  ⟨_, offs_row (vs := [⟨sA1, 5, 30, some ⟨s, 0, none⟩, 2, 2, some ⟨q, 0, none⟩, 1, 1⟩, ⟨sB1, 6, 10, some ⟨s + 2, 0, none⟩, 1, 1, some ⟨s + 3, 0, none⟩, 1, 1⟩, ⟨sB2, 3, 0, none, 0, 0, none, 0, 0⟩, ⟨sC1, 10, 200, some ⟨s + 5, 0, none⟩, 1, 1, some ⟨s + 6, 0, none⟩, 2, 2⟩]) hr rfl rfl rfl (by decide) (all4 rfl rfl (vA h (strs_row (l := [sC1]) hq rfl rfl (by decide) (fun x hx => len8 (by simp at hx; subst hx; decide))) (by decide)) (vB h sB1 (by decide)) (vB2 (Strs.nil_ w) (by decide)) (vC h 10 (by decide)))⟩
theorem exOffs4 {w : World} {s q : Nat} (h : Ex w s) (hr : Row w (s + 7) 41 ((exC s).setIfInBounds 14 (.slice (some ⟨q, 0, none⟩) 1 1))) (hq : Row w q 9 #[.string ⟨#[88]⟩]) : ∃ vs, Offs w (some ⟨s + 7, 0, none⟩) 4 4 vs exNone :=
  ⟨_, offs_row (vs := [⟨sA1, 5, 30, some ⟨s, 0, none⟩, 2, 2, none, 0, 0⟩, ⟨sB1, 6, 10, some ⟨s + 2, 0, none⟩, 1, 1, some ⟨s + 3, 0, none⟩, 1, 1⟩, ⟨sB2, 3, 0, none, 0, 0, some ⟨q, 0, none⟩, 1, 1⟩, ⟨sC1, 10, 200, some ⟨s + 5, 0, none⟩, 1, 1, some ⟨s + 6, 0, none⟩, 2, 2⟩]) hr rfl rfl rfl (by decide) (all4 rfl rfl (vA h (Strs.nil_ w) (by decide)) (vB h sB1 (by decide)) (vB2 (strs_row (l := [sX]) hq rfl rfl (by decide) (fun x hx => len8 (by simp at hx; subst hx; decide))) (by decide)) (vC h 10 (by decide)))⟩
theorem exOffs5 {w : World} {s : Nat} (h : Ex w s) (hr : Row w (s + 7) 41 ((exC s).setIfInBounds 16 (.int .i64 61))) : ∃ vs, Offs w (some ⟨s + 7, 0, none⟩) 4 4 vs exFar :=
  ⟨_, offs_row (vs := [⟨sA1, 5, 30, some ⟨s, 0, none⟩, 2, 2, none, 0, 0⟩, ⟨sB1, 6, 10, some ⟨s + 2, 0, none⟩, 1, 1, some ⟨s + 3, 0, none⟩, 1, 1⟩, ⟨sB2, 3, 0, none, 0, 0, none, 0, 0⟩, ⟨sC1, 61, 200, some ⟨s + 5, 0, none⟩, 1, 1, some ⟨s + 6, 0, none⟩, 2, 2⟩]) hr rfl rfl rfl (by decide) (all4 rfl rfl (vA h (Strs.nil_ w) (by decide)) (vB h sB1 (by decide)) (vB2 (Strs.nil_ w) (by decide)) (vC h 61 (by decide)))⟩
end Go.Proofs.YtnkemoicgadefaaGreatDoor
