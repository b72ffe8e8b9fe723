/-
  The map of the stamps that were seen.
-/
import Derived.Test.YtgfifpbmjkjnpaaSane
import Derived.Maps.Own
import Derived.Maps.Views
import Derived.DeepKeys4
import Derived.DataShut
namespace Go.Proofs.Ytgfifpbmjkjnpaa
open Go.RowKit Go.Maps
theorem law39 : Keyed Try.prog 39 := Keyed.of_law (deep_law_laid (by kernel_rfl) (m := 2) (by omega) (of_decide_eq_true (by kernel_rfl)) (by kernel_rfl) (by kernel_rfl))
def kst (d c s : Int) : Lit := .string (keyBytes [.int .i64 d, .int .i64 c, .int .i64 s])
theorem wf_i64 {n : Int} (h : i64 n) : (Lit.int .i64 n).wf = true := (Lit.wf_int_iff _ _).2 h
theorem types85 : Try.prog.types.size = 84 + 1 := by kernel_rfl
theorem lits3 (n : Int) (h : (Lit.int .i64 n).wf = true) : Try.prog.keyLits 85 3 [.int .i64 n] = some [.int .i64 n] := by
  show Try.prog.keyLits (84 + 1) 3 [.int .i64 n] = some [.int .i64 n]
  unfold Program.keyLits
  simp [Try.underlying3, h]
theorem key_of {d c s : Int} (hd : i64 d) (hc : i64 c) (hs : i64 s) : keyOf Try.prog 39 (.agg #[.int .i64 d, .int .i64 c, .int .i64 s]) = some (kst d c s) := by
  have h1 := wf_i64 hd
  have h2 := wf_i64 hc
  have h3 := wf_i64 hs
  unfold keyOf
  simp only [Try.underlying39]
  rw [if_pos (by kernel_rfl), types85]
  unfold Program.keyLits
  simp only [Try.underlying39, Value.cells]
  rw [if_pos ⟨by kernel_rfl, by kernel_rfl⟩]
  have c3 : Try.prog.cellsOf 3 = 1 := by kernel_rfl
  have e := fun (n : Int) h => lits3 n h
  simp [List.mapM_cons, List.mapM_nil, c3, e, h1, h2, h3, kst]
theorem kst_inj {d c s d' c' s' : Int} (hd : i64 d) (hc : i64 c) (hs : i64 s) (hd' : i64 d') (hc' : i64 c') (hs' : i64 s') (e : kst d c s = kst d' c' s') : d = d' ∧ c = c' ∧ s = s' := by
  have h1 := key_of hd hc hs
  have h2 := key_of hd' hc' hs'
  rw [← e] at h2
  have h := law39.inj h1 h2
  injection h with h
  injection h with h
  injection h with h h4
  injection h4 with h4 h5
  injection h5 with h5
  injection h with _ h
  injection h4 with _ h4
  injection h5 with _ h5
  exact ⟨h, h4, h5⟩
/-- block mb is a map of at most n stamps, which are those of L -/
def Seen (w : World) (mb n : Nat) (L : List (Int × Int × Int)) : Prop :=
  ∃ D : DataW Unit, IsMap D ∧ w.ownsMap Try.prog 39 (plainElem Try.prog 4) mb n D ∧ ∀ d c s : Int, i64 d → i64 c → i64 s → D.atKey (kst d c s) (.lit (.bool false)) = .lit (.bool (decide ((d, c, s) ∈ L)))
theorem Seen.made (w : World) : Seen (w.alloc (.map #[] 0)) w.heap.size 0 [] :=
  ⟨.map [], ⟨[], rfl⟩, World.ownsMap_made w _ _ _, fun _ _ _ _ _ _ => by simp [DataW.atKey]⟩
theorem Seen.lt {w : World} {mb n : Nat} {L : List (Int × Int × Int)} (h : Seen w mb n L) : mb < w.heap.size := by
  obtain ⟨D, _, h2, _⟩ := h
  exact h2.lt
theorem Seen.grown {w w' : World} {mb n : Nat} {L : List (Int × Int × Int)} {row : Option Nat} (h : Seen w mb n L) (g : w.grownBy w' row) (hne : some mb ≠ row) : Seen w' mb n L := by
  obtain ⟨D, h1, h2, h3⟩ := h
  exact ⟨D, h1, h2.kept g hne, h3⟩
theorem Seen.lookup {w : World} {mb n : Nat} {L : List (Int × Int × Int)} (h : Seen w mb n L) {d c s : Int} (hd : i64 d) (hc : i64 c) (hs : i64 s) :
    (Instr.lookup 52 (.map (some mb)) (.agg #[.int .i64 d, .int .i64 c, .int .i64 s]) false).run Try.prog w = .ok (.bool (decide ((d, c, s) ∈ L))) w := by
  obtain ⟨D, h1, h2, h3⟩ := h
  obtain ⟨v, ps, hrun, hv⟩ := h2.lookup law39 Try.underlying52 (z := .bool false) (by kernel_rfl) (plainElem_bool Try.underlying4 false) (key_of hd hc hs)
  rw [h3 d c s hd hc hs] at hv
  rw [hrun]
  have hb : v = .bool (decide ((d, c, s) ∈ L)) := by
    unfold plainElem at hv
    rw [Try.underlying4] at hv
    cases v <;> simp at hv
    rename_i x
    rw [hv.1]
  rw [hb]
theorem Seen.update {w : World} {mb n : Nat} {L : List (Int × Int × Int)} (h : Seen w mb n L) (hn : n < maxLen) {d c s : Int} (hd : i64 d) (hc : i64 c) (hs : i64 s) :
    ∃ w', (Instr.mapUpdate 52 (.map (some mb)) (.agg #[.int .i64 d, .int .i64 c, .int .i64 s]) (.bool true)).run Try.prog w = .ok () w' ∧ Seen w' mb (n + 1) ((d, c, s) :: L) ∧ w.grownBy w' (some mb) := by
  obtain ⟨D, h1, h2, h3⟩ := h
  obtain ⟨w', hrun, ho, hg⟩ := h2.update law39 Try.underlying52 hn (key_of hd hc hs) (plainElem_bool Try.underlying4 true)
  refine ⟨w', hrun, ⟨_, ?_, ho, fun d' c' s' hd' hc' hs' => ?_⟩, hg⟩
  · obtain ⟨es, rfl⟩ := h1
    exact ⟨_, rfl⟩
  · by_cases e : kst d' c' s' = kst d c s
    · obtain ⟨rfl, rfl, rfl⟩ := kst_inj hd' hc' hs' hd hc hs e
      rw [atKey_put_same h1 (law39.key (key_of hd hc hs))]
      simp
    · rw [atKey_put_other e, h3 d' c' s' hd' hc' hs']
      have hne : (d', c', s') ≠ (d, c, s) := fun h => e (by injection h with a h; injection h with b c; rw [a, b, c])
      simp [hne]
end Go.Proofs.Ytgfifpbmjkjnpaa
