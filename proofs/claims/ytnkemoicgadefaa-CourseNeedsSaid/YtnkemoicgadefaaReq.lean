/-
  course.required: the map of what each code requires.
-/
import Derived.Test.YtnkemoicgadefaaNxt
namespace Go.Proofs.Ytnkemoicgadefaa
open Go.RowKit
attribute [local go_sem] get_mk extract_mk
abbrev Sl := Option Addr × Nat × Nat
def slv (s : Sl) : Value := .slice s.1 s.2.1 s.2.2
/-- block b is a map of lists of strings -/
def Dir (w : World) (b : Nat) (m : List (Str × List Str)) : Prop := ∃ z : List (Str × Sl × List Str), Dict encS w b (z.map fun p => (p.1, slv p.2.1)) ∧ m = z.map (fun p => (p.1, p.2.2)) ∧ ∀ p ∈ z, Strs w p.2.1.1 p.2.1.2.1 p.2.1.2.2 p.2.2 ∧ p.2.2.length ≤ 1000
theorem Dir.map {w : World} {b : Nat} {m : List (Str × List Str)} (h : Dir w b m) : MapAt w b := by
  obtain ⟨z, h, _⟩ := h
  exact h.map
theorem Dir.kept {w w' : World} {b : Nat} {m : List (Str × List Str)} (h : Dir w b m) (g : w.grownBy w' none) : Dir w' b m := by
  obtain ⟨z, h1, h2, h3⟩ := h
  exact ⟨z, h1.kept g, h2, fun p hp => ⟨(h3 p hp).1.kept g, (h3 p hp).2⟩⟩
theorem Dir.keptm {w w' : World} {b x : Nat} {m : List (Str × List Str)} (h : Dir w b m) (hm : MapAt w x) (hx : b ≠ x) (g : w.grownBy w' (some x)) : Dir w' b m := by
  obtain ⟨z, h1, h2, h3⟩ := h
  exact ⟨z, h1.keptR g (by simpa using hx), h2, fun p hp => ⟨(h3 p hp).1.keptm hm g, (h3 p hp).2⟩⟩
theorem und65 : Try.prog.underlying 65 = some (.map 9 33) := Try.underlying65
theorem und46 : Try.prog.underlying 46 = some (.map 9 4) := Try.underlying46
theorem und79 : Try.prog.underlying 79 = some (.map 3 4) := Try.underlying79
theorem zero33 (w : World) : (zeroValue 33).run Try.prog w = .ok (.slice none 0 0) w := by kernel_rfl
theorem zero4 (w : World) : (zeroValue 4).run Try.prog w = .ok (.bool false) w := by kernel_rfl
/-- direct[k] -/
theorem Dir.look {w : World} {b : Nat} {m : List (Str × List Str)} (h : Dir w b m) (k : Str) :
    ∃ A n c, (Instr.lookup 65 (.map (some b)) (.string ⟨k.toArray⟩) false).run Try.prog w = .ok (.slice A n c) w ∧ (Instr.lookup 65 (.map (some b)) (.string ⟨k.toArray⟩) true).run Try.prog w = .ok (.tuple #[.slice A n c, .bool (m.lookup k).isSome]) w ∧
      Strs w A n c ((m.lookup k).getD []) ∧ ((m.lookup k).getD []).length ≤ 1000 := by
  obtain ⟨z, h1, h2, h3⟩ := h
  have r1 := h1.look keyS und65 (zero33 w) k false
  have r2 := h1.look keyS und65 (zero33 w) k true
  have e1 : lk (z.map fun p => (p.1, slv p.2.1)) k = (lk z k).map (fun q => slv q.1) := lk_map (fun q : Sl × List Str => slv q.1) z k
  have e2 : m.lookup k = (lk z k).map (·.2) := by rw [lk_lookup, h2]; exact lk_map (fun q : Sl × List Str => q.2) z k
  rw [e1] at r1 r2
  rw [e2]
  cases hz : lk z k with
  | none =>
    rw [hz] at r1 r2
    exact ⟨none, 0, 0, r1, r2, Strs.nil_ w, by simp⟩
  | some q =>
    rw [hz] at r1 r2
    have := h3 _ (mem_of_lk hz)
    exact ⟨_, _, _, r1, r2, this.1, this.2⟩
theorem dir_put {w : World} {b : Nat} {m : List (Str × List Str)} (h : Dir w b m) {k : Str} (hk : (m.lookup k).isSome = false) {A : Option Addr} {n c : Nat} {ns : List Str} (hs : Strs w A n c ns) (hn : ns.length ≤ 1000) :
    ∃ w', (Instr.mapUpdate 65 (.map (some b)) (.string ⟨k.toArray⟩) (.slice A n c)).run Try.prog w = .ok () w' ∧ Dir w' b (m ++ [(k, ns)]) ∧ w.grownBy w' (some b) ∧ w'.heap.size = w.heap.size := by
  have hm := h.map
  obtain ⟨z, h1, h2, h3⟩ := h
  obtain ⟨w', r, hd, g, hz⟩ := h1.put keyS und65 k (.slice A n c)
  refine ⟨w', r, ⟨z ++ [(k, (A, n, c), ns)], ?_, by rw [h2, List.map_append]; rfl, fun p hp => ?_⟩, g, hz⟩
  · have hn : fi (z.map fun p => (p.1, slv p.2.1)) k = none := by
      have e := fi_look (z.map fun p => (p.1, slv p.2.1)) k
      rw [lk_map (fun q : Sl × List Str => slv q.1) z k] at e
      rw [lk_lookup, h2, lk_map (fun q : Sl × List Str => q.2) z k] at hk
      cases hz : lk z k with
      | none =>
        rw [hz] at e
        cases hf : fi (z.map fun p => (p.1, slv p.2.1)) k with
        | none => rfl
        | some x => rw [hf] at e; cases e
      | some x => rw [hz] at hk; cases hk
    rw [putL_none _ _ _ hn] at hd
    rw [List.map_append]
    exact hd
  · rcases List.mem_append.1 hp with hp | hp
    · exact ⟨(h3 p hp).1.keptm hm g, (h3 p hp).2⟩
    · obtain rfl := List.mem_singleton.1 hp
      exact ⟨hs.keptm hm g, hn⟩
theorem dirA_snoc : ∀ (l : List O) (m : List (Str × List Str)) (o : O), dirA (l ++ [o]) m = if ((dirA l m).lookup o.code).isSome then dirA l m else dirA l m ++ [(o.code, o.needs)]
  | [], m, o => rfl
  | x :: l, m, o => by
    show dirA (l ++ [o]) _ = _
    rw [dirA_snoc l _ o]
    rfl
theorem take_snoc {α : Type} {l : List α} {k : Nat} {x : α} (h : l[k]? = some x) : l.take (k + 1) = l.take k ++ [x] := by
  rw [List.take_add_one, h]; rfl
set_option maxRecDepth 100000 in
set_option maxHeartbeats 1000000 in
theorem required_k (A : Option Addr) (n c : Nat) (vs : List V) (l : List O) (w : World) (h : Offs w A n c vs l) :
    Calls Try.prog 39 #[.slice A n c] w fun e w' => ∃ b, e = .returned (.map (some b)) ∧ w.heap.size ≤ b ∧ Dir w' b (dirV l) ∧ w.grownBy w' none := by
  have HO := Lib.hid (fun W (g : w.grownBy W none) => h.kept g)
  have HL := Lib.hid h.len
  have hle := h.v.le
  have hcap := h.v.cap
  clear h
  have hmm := makeMap_k und65 (n : Int)
  go_enter Try.func39, Try.ntmps39
  have hg0 := World.grownBy_alloc w (.map #[] 0) none
  have hd0 : Dir (w.alloc (.map #[] 0)) w.heap.size [] := ⟨[], Dict.made w, rfl, (fun _ h => by cases h)⟩
  generalize hw1 : w.alloc (.map #[] 0) = w1 at *
  have hmm2 := hmm w
  rw [hw1] at hmm2
  clear hmm hw1
  generalize hbb : w.heap.size = b at *
  have HBB := Lib.hid hbb
  clear hbb
  go_wp2_with fail
  go_loopw [13] (fun z wr => ∃ k : Nat, k ≤ n ∧ z = .int .i64 (k : Int) ∧ Hid (Dir wr b (dirV (l.take k))) ∧ w.grownBy wr none) (fun z _ => n - (intOf z).toNat)
  case atStart => exact ⟨0, Nat.zero_le _, rfl, Lib.hid hd0, hg0⟩
  case round =>
    obtain ⟨k, hk, rfl, HD, hg⟩ := hrel
    clear hd0 hmm2 hg0
    by_cases hlt : k < n
    · obtain ⟨ad, v, o, ho, _, rfl, hbl, hv, x0, x1, x2, x3, x4⟩ := (HO.out _ hg).at k hlt
      have HT : Hid (dirV (l.take (k + 1)) = if ((dirV (l.take k)).lookup o.code).isSome then dirV (l.take k) else dirV (l.take k) ++ [(o.code, o.needs)]) := Lib.hid (by rw [take_snoc ho]; exact dirA_snoc _ _ _)
      have HV := Lib.hid hv
      have hcd := hv.code
      obtain ⟨vc, vr, vp, sA, sn, sc, nA, nn, nc⟩ := v
      simp only at x0 x1 x2 x3 x4 hcd
      subst hcd
      clear ho hv
      go_upto_region 5 with fail
      obtain ⟨w2, e2, HC, g2⟩ := row_of wr 35 #[.string ⟨o.code.toArray⟩, .int .i64 vr, .int .i64 vp, .slice sA sn sc, .slice nA nn nc]
      rw [← e2]
      replace hg := hg.trans g2
      have HD2 := Lib.hid (HD.out.kept g2)
      have HS := Lib.hid (HV.out.needs.kept g2)
      clear e2 x0 x1 x2 x3 x4 hbl HD
      generalize wr.heap.size = C at *
      have c0 := HC.c 0 rfl
      have c4 := HC.c 4 rfl
      obtain ⟨LA, ln, lc, _, lk2, _, _⟩ := HD2.out.look o.code
      cases hs : ((dirV (l.take k)).lookup o.code).isSome with
      | true =>
        have HD3 : Hid (Dir w2 b (dirV (l.take (k + 1)))) := Lib.hid (by rw [HT.out, hs]; exact HD2.out)
        rw [hs] at lk2
        clear HD2 HT HS HV g2 HC hs
        go_wp2_with fail
        go_roundw
        case rel => exact ⟨k + 1, by omega, by go_num, HD3, hg⟩
        case measure => simp [intOf]; omega
      | false =>
        obtain ⟨w3, r3, hd3, g3, hz3⟩ := dir_put HD2.out hs HS.out HV.out.few.2
        have HD3 : Hid (Dir w3 b (dirV (l.take (k + 1)))) := Lib.hid (by rw [HT.out, hs]; exact hd3)
        rw [hs] at lk2
        have hg3 : w.grownBy w3 none := hg.andThen g3 (by rintro j ⟨⟩; exact .inl (by rw [HBB.out]; exact Nat.le_refl _))
        clear HD2 HT HS HV g2 HC hs hd3 g3 hz3
        go_wp2_with fail
        go_roundw
        case rel => exact ⟨k + 1, by omega, by go_num, HD3, hg3⟩
        case measure => simp [intOf]; omega
    · obtain rfl : n = k := by omega
      have HD2 : Hid (Dir wr b (dirV l)) := Lib.hid (by
        have := HD.out
        rw [HL.out, List.take_length] at this
        exact this)
      clear HD
      go_wp2_with fail
      go_ret
      exact ⟨b, rfl, Nat.le_refl _, HD2.out, hg⟩
end Go.Proofs.Ytnkemoicgadefaa
