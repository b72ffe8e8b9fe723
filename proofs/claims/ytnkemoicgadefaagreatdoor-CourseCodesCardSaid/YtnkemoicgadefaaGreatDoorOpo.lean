/-
  A catalog as it comes, opened to cells.
-/
import Derived.Test.YtnkemoicgadefaaGreatDoorOpi
import Derived.Test.YtnkemoicgadefaaGreatDoorCut
namespace Go.Proofs.YtnkemoicgadefaaGreatDoor
open Go.RowKit
open Go.ChangeShapes Go.WideShapes Go.Deep
section
variable {H : Type} {enc : TypeId × Value → H} {w : World} {base : Nat} {sp : Nat → Bool} {held : Bool}
theorem elem_str : ∀ n cs x, DataW.trod enc Tryz.prog w base sp held n 9 cs = some x → ∃ z : Str, cs = [.string ⟨z.toArray⟩] ∧ z.length ≤ 9223372036854775807 := by
  intro n cs x h
  obtain ⟨⟨⟨z⟩⟩, rfl, _, hw⟩ := DataW.trod_string Tryz.underlying9 h
  exact ⟨z, rfl, by simpa [ByteArray.size, maxLen] using hw⟩
theorem cells35 : Tryz.prog.cellsOf 41 = 5 := by kernel_rfl
theorem open_sl {fuel : Nat} {cs : List Value} {x : DataW H × List MemPlace} (h : DataW.trod enc Tryz.prog w base sp held fuel 37 cs = some x) :
    ∃ (A : Option Addr) (n c : Nat) (l : List Str), cs = [.slice A n c] ∧ RawS w A n c l := by
  obtain ⟨A, n, c, l, e, h1, h2⟩ := open_list (f := fun s : Str => Value.string ⟨s.toArray⟩) Tryz.underlying37 cells9 (fun _ => rfl) elem_str h
  exact ⟨A, n, c, l, e, ⟨h2, h1⟩⟩
set_option maxRecDepth 100000 in
theorem open_offer {fuel : Nat} {cs : List Value} {x : DataW H × List MemPlace} (h : DataW.trod enc Tryz.prog w base sp held fuel 41 cs = some x) : ∃ (v : V) (o : O), cs = v.cells.toList ∧ RV w v o := by
  obtain ⟨xs, n, _, _, hlen, hxl, hf⟩ := DataW.trod_struct Tryz.underlying41 h
  rw [cells35] at hlen
  match cs, hlen with
  | [c0, c1, c2, c3, c4], _ =>
    simp only [List.size_toArray, List.length_cons, List.length_nil] at hxl
    match xs, hxl with
    | [y0, y1, y2, y3, y4], _ =>
      obtain ⟨s, e0, h0⟩ := elem_str _ _ _ (hf 0 _ rfl)
      obtain ⟨a, e1, h1⟩ := elem_int _ _ _ (hf 1 _ rfl)
      obtain ⟨b, e2, h2⟩ := elem_int _ _ _ (hf 2 _ rfl)
      obtain ⟨A, n, c, il, e3, h3⟩ := open_il (hf 3 _ rfl)
      obtain ⟨B, m, d, sl, e4, h4⟩ := open_sl (hf 4 _ rfl)
      have f0 : [c0] = [Value.string ⟨s.toArray⟩] := e0
      have f1 : [c1] = [Value.int .i64 a] := e1
      have f2 : [c2] = [Value.int .i64 b] := e2
      have f3 : [c3] = [Value.slice A n c] := e3
      have f4 : [c4] = [Value.slice B m d] := e4
      injection f0 with f0
      injection f1 with f1
      injection f2 with f2
      injection f3 with f3
      injection f4 with f4
      subst f0 f1 f2 f3 f4
      exact ⟨⟨s, a, b, A, n, c, B, m, d⟩, ⟨s, a, b, il, sl⟩, rfl, ⟨rfl, rfl, rfl, ⟨h0, h1, h2⟩, h3, h4⟩⟩
set_option maxRecDepth 100000 in
theorem open_raws {r : Reach} {b0 : Nat} {v : Value} {d : DataW H} {ps : List MemPlace} (hv : Value.okWide Tryz.prog w r b0 23 v) (h : DataW.Trod enc Tryz.prog w base sp held 23 v d ps) :
    ∃ (A : Option Addr) (n c : Nat) (vs : List V) (l : List O), v = .slice A n c ∧ Raws w A n c vs l := by
  obtain ⟨a, len, cap, rfl⟩ := okWide_slice Tryz.underlying23 hv
  obtain ⟨fuel, hf⟩ := h
  rcases open_slice Tryz.underlying23 hf with ⟨e, _⟩ | ⟨a, len, cap, m, n, D, Pl, e, hb, hl, hm, hmm, _, hi⟩
  · injection e with e _
    exact ⟨none, 0, 0, [], [], e, ⟨Vals.nil_ w 5, rfl, rfl, (fun _ _ _ h => by simp at h)⟩⟩
  · injection e with e _
    have hlm : len ≤ m := by rw [hmm]; split <;> omega
    obtain ⟨l, hll, hq⟩ := list_of (Q := fun i (p : V × O) => RV w p.1 p.2 ∧ ∀ j, j < 5 → w.cell? (a.add (i * 5 + j)) = p.1.cells.toList[j]?) len (fun i hil => by
      obtain ⟨cs', hc, htr⟩ := hi i (by omega)
      obtain ⟨v, o, rfl, hrv⟩ := open_offer htr
      rw [cells35] at hc
      obtain ⟨_, hcl, hat⟩ := World.cells?_some hc
      refine ⟨(v, o), hrv, fun j hj => ?_⟩
      have := hat j hj
      rwa [add_add] at this)
    have hz : ∀ (j : Nat) (v : V) (o : O), (l.map (·.1))[j]? = some v → (l.map (·.2))[j]? = some o → ∃ p : V × O, l[j]? = some p ∧ p.1 = v ∧ p.2 = o := fun j v o h1 h2 => by
      rw [List.getElem?_map] at h1 h2
      obtain ⟨p, hp, rfl⟩ := Option.map_eq_some_iff.1 h1
      rw [hp] at h2
      injection h2 with h2
      exact ⟨p, hp, rfl, h2⟩
    refine ⟨some a, len, cap, l.map (·.1), l.map (·.2), e, ⟨⟨?_, hl, Nat.le_trans hm (by simp [maxLen]), (fun e => by cases e), fun v hv => vc_one hv, fun h0 => ⟨a, rfl, ?_, fun j v hj => ?_⟩⟩, by simp [hll], by simp, fun j v o h1 h2 => ?_⟩⟩
    · rw [vc_len, List.length_map, hll]
    · have h1 : 0 < l.length := by omega
      have h2 := (hq 0 l[0] (List.getElem?_eq_getElem h1)).2 0 (by omega)
      have h3 := World.block_lt_of_cell? w _ h2
      rwa [add_block] at h3
    · have hjl := (List.getElem?_eq_some_iff.1 hj).1
      rw [vc_len, List.length_map] at hjl
      obtain ⟨p, hp⟩ : ∃ p, l[j / 5]? = some p := ⟨_, List.getElem?_eq_getElem (by omega)⟩
      have h1 := (hq (j / 5) p hp).2 (j % 5) (Nat.mod_lt _ (by omega))
      have h5 : p.1.cells.toList.length = 5 := rfl
      obtain ⟨u, hu⟩ : ∃ u, p.1.cells.toList[j % 5]? = some u := ⟨_, List.getElem?_eq_getElem (by rw [h5]; exact Nat.mod_lt _ (by omega))⟩
      have h2 := vc_at (l.map (·.1)) (j / 5) p.1 (by rw [List.getElem?_map, hp]; rfl) (j % 5) u (by simpa using hu)
      rw [show j / 5 * 5 + j % 5 = j by omega] at h1 h2
      rw [h2] at hj
      injection hj with hj
      rw [h1, hu, hj]
    · obtain ⟨p, hp, rfl, rfl⟩ := hz j v o h1 h2
      exact (hq j p hp).1
end
end Go.Proofs.YtnkemoicgadefaaGreatDoor
