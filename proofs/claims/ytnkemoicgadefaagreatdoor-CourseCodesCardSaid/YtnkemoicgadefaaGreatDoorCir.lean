/-
  course.circular; course.Check.
-/
import Derived.Test.YtnkemoicgadefaaGreatDoorVis
import Derived.Laws.EntriesVeiled
namespace Go.Proofs.YtnkemoicgadefaaGreatDoor
open Go.RowKit
attribute [local go_sem] get_mk extract_mk
theorem map_of (w : World) : ∃ w1, w1 = w.alloc (.map #[] 0) ∧ ColD w1 w.heap.size [] ∧ w.grownBy w1 none := ⟨_, rfl, Dict.made w, World.grownBy_alloc _ _ none⟩
theorem nocol {f : Str → List Str} : Dfs f (lk ([] : List (Str × Bool))) := ⟨(fun _ h => by cases h), (fun _ h => by cases h)⟩
theorem Vis.kept {P1 P2 P3 bo b : Nat} {m : List (Str × List Str)} {w w' : World} {C : List (Str × Bool)} (h : Vis P1 P2 P3 bo b m w C) (g : w.grownBy w' none) : Vis P1 P2 P3 bo b m w' C :=
  ⟨gcell g h.c1, gcell g h.c2, gcell g h.c3, h.dir.kept g, h.col.kept g, h.ne⟩
theorem Vis.off {P1 P2 P3 bo b r : Nat} {m : List (Str × List Str)} {w w' : World} {C : List (Str × Bool)} (h : Vis P1 P2 P3 bo b m w C) (hm : MapAt w r) (h1 : b ≠ r) (h2 : bo ≠ r) (g : w.grownBy w' (some r)) : Vis P1 P2 P3 bo b m w' C :=
  ⟨gcellm hm g h.c1, gcellm hm g h.c2, gcellm hm g h.c3, h.dir.keptm hm h1 g, Dict.keptR h.col g (by simpa using h2), h.ne⟩
theorem plain_all (U : List Str) (col : Str → Option Bool) : plain U col ≤ U.length := List.length_filter_le _ _
set_option maxRecDepth 100000 in
set_option maxHeartbeats 1000000 in
theorem circular_k (b : Nat) (m : List (Str × List Str)) (f : Str → List Str) (hf : ∀ c, f c = (m.lookup c).getD []) (w : World) (h : Dir w b m) :
    Calls Tryz.prog 50 #[.map (some b)] w fun e w' => ∃ r : Bool, e = .returned (.bool r) ∧ (r = true ↔ ∃ x, Leads f x x) ∧ w.grownBy w' none := by
  have HD := Lib.hid (fun W (g : w.grownBy W none) => h.kept g)
  have hbw := h.map
  have hblt : b < w.heap.size := by
    obtain ⟨z, hz, _⟩ := h
    exact hz.lt
  obtain ⟨w1, e1, HP2, g1⟩ := row_of w 75 #[.map (some b)]
  obtain ⟨w2, e2, HC2, g2⟩ := map_of w1
  have s1 : w1.heap.size = w.heap.size + 1 := by rw [e1]; simp
  rw [s1] at HC2
  obtain ⟨w3, e3, HP1, g3⟩ := row_of w2 78 #[.map (some (w.heap.size + 1))]
  have s2 : w2.heap.size = w.heap.size + 1 + 1 := by rw [e2]; simp [s1]
  rw [s2] at HP1
  have s3 : w3.heap.size = w.heap.size + 1 + 1 + 1 := by rw [e3]; simp [s2]
  obtain ⟨w3b, e4, HPN, g3b⟩ := row_of w3 48 #[.nilFunc]
  rw [s3] at HPN
  have E1 := Lib.hid e1
  have E2 := Lib.hid e2
  have E3 := Lib.hid e3
  have E4 := Lib.hid e4
  clear e1 e2 e3 e4 h hbw
  have hmm := @run_makeMap Tryz.prog
  go_enter Tryz.func50, Tryz.ntmps50
  go_upto_region 1 with fail
  rw [← E1.out]
  go_upto_region 2 with fail
  rw [← E2.out, ← E3.out]
  go_upto_region 3 with fail
  rw [← E4.out]
  have n0 := HPN.c 0 rfl
  have n1 := HPN.fz 0
  have n2 := HPN.lt
  go_upto_region 4 with fail
  clear E1 E2 E3 E4 s1 s2 s3 hmm n0 n1 n2
  have HP3 := HPN.set 0 (.func (.func 80) #[] #[.pointer (some ⟨w.heap.size + 1 + 1, 0, none⟩), .pointer (some ⟨w.heap.size, 0, none⟩), .pointer (some ⟨w.heap.size + 1 + 1 + 1, 0, none⟩)])
  have g4 := grown_setCell w3b (w.heap.size + 1 + 1 + 1) 0 (.func (.func 80) #[] #[.pointer (some ⟨w.heap.size + 1 + 1, 0, none⟩), .pointer (some ⟨w.heap.size, 0, none⟩), .pointer (some ⟨w.heap.size + 1 + 1 + 1, 0, none⟩)])
  generalize w3b.setCell ⟨w.heap.size + 1 + 1 + 1, 0, none⟩ (.func (.func 80) #[] #[.pointer (some ⟨w.heap.size + 1 + 1, 0, none⟩), .pointer (some ⟨w.heap.size, 0, none⟩), .pointer (some ⟨w.heap.size + 1 + 1 + 1, 0, none⟩)]) = w4 at *
  replace g3 := g3.trans g3b
  have G4 := Lib.hid (((g1.trans g2).trans g3).andThen g4 (by rintro j ⟨⟩; exact .inl (by omega)))
  have HV : Hid (Vis (w.heap.size + 1 + 1) w.heap.size (w.heap.size + 1 + 1 + 1) (w.heap.size + 1) b m w4 []) := Lib.hid
    ⟨((HP1.kept g3b).keptR g4 (by simp)).c 0 rfl, (((HP2.kept g2).kept g3).keptR g4 (by simp; omega)).c 0 rfl, HP3.c 0 rfl, HD.out _ G4.out, (HC2.kept g3).keptR g4 (by simp), by omega⟩
  clear HPN g3b
  clear HP1 HP2 HP3 HC2 g1 g2 g3 g4
  have hbb : w.heap.size ≤ w.heap.size + 1 := by omega
  generalize w.heap.size + 1 + 1 + 1 = P3 at *
  generalize w.heap.size + 1 + 1 = P1 at *
  generalize w.heap.size + 1 = bo at *
  have HBO := Lib.hid hbb
  have HSZ := Lib.hid (G4.out.size)
  clear hbb hblt
  generalize hP2 : w.heap.size = P2 at *
  have HP2 := Lib.hid hP2
  clear hP2
  obtain ⟨z, hz, hm, hst⟩ := HV.out.dir
  obtain ⟨w5, r5, hR, g5, hs5⟩ := hz.range und65
  have d2 := HV.out.c2
  have HR := Lib.hid hR
  have HM := Lib.hid hm
  have HV5 := Lib.hid (HV.out.kept g5)
  have G5 := Lib.hid (G4.out.trans g5)
  have HRR := Lib.hid (show P2 ≤ w4.heap.size from HSZ.out)
  have hU : ∀ s, ∀ x ∈ f s, x ∈ z.map (·.1) ++ z.flatMap (fun p => p.2.2) := fun s x hx => by
    rw [hf, lk_lookup, hm, lk_map (fun q : Sl × List Str => q.2) z s] at hx
    cases hz : lk z s with
    | none => rw [hz] at hx; cases hx
    | some q =>
      rw [hz] at hx
      exact List.mem_append.2 (.inr (List.mem_flatMap.2 ⟨_, mem_of_lk hz, hx⟩))
  have HU := Lib.hid hU
  have HF := Lib.hid hf
  have HKEY : Hid (∀ x, Leads f x x → ∃ p ∈ z, p.1 = x) := Lib.hid (fun x hx => by
    obtain ⟨c, hc, _⟩ := hx.start
    rw [hf, lk_lookup, hm, lk_map (fun q : Sl × List Str => q.2) z x] at hc
    cases hz : lk z x with
    | none => rw [hz] at hc; cases hc
    | some q => exact ⟨_, mem_of_lk hz, rfl⟩)
  clear hz hm hst hR g5 hs5 HV G4 hf hU HM HSZ HD
  generalize w4.heap.size = R at *
  go_wp2_with fail
  go_loopw [] (fun wr => ∃ left C, Hid (Rng encS wr b R (z.map fun p => (p.1, slv p.2.1)) left ∧ Vis P1 P2 P3 bo b m wr C ∧ Dfs f (lk C) ∧ (∀ s, lk C s ≠ some true) ∧ ∀ p ∈ z, (p.1, slv p.2.1) ∈ left ∨ lk C p.1 = some false) ∧ Hid (w.grownBy wr none)) (fun wr => leftN wr R)
  case atStart => exact ⟨_, [], Lib.hid ⟨HR.out, HV5.out, nocol, (fun s h => by cases h), fun p hp => .inl (List.mem_map.2 ⟨p, hp, rfl⟩)⟩, G5⟩
  case round =>
    clear HV5 G5 HR
    obtain ⟨left, C, HL, HG⟩ := hrel
    generalize wr = wo at *
    rcases HL.out.1.next 0 with ⟨hl0, rn⟩ | ⟨pre, post, p, w6, hl0, rn, hR2, g2, hz2, re⟩
    · have HB : Hid (¬ ∃ x, Leads f x x) := Lib.hid (by
        rintro ⟨x, hx⟩
        obtain ⟨p, hp, rfl⟩ := HKEY.out x hx
        rcases HL.out.2.2.2.2 p hp with h | h
        · rw [hl0] at h; cases h
        · exact HL.out.2.2.1.no _ h hx)
      clear HL hl0 r5 d2
      go_wp2_with fail
      go_ret
      exact ⟨false, rfl, ⟨(fun h => by cases h), fun h => absurd h HB.out⟩, HG.out⟩
    · obtain ⟨q, hq, hqe⟩ := List.mem_map.1 (HL.out.1.sub keyS p (by rw [hl0]; simp))
      subst hqe
      obtain ⟨qk, ⟨qA, qn, qc⟩, qs⟩ := q
      have HLN := Lib.hid HL.out.1.leftN
      have HLL := Lib.hid hl0
      have HR2 := Lib.hid hR2
      have hRb := HL.out.1.ne
      have hRo := HL.out.1.off HL.out.2.1.col
      have HV6 := Lib.hid (HL.out.2.1.off HL.out.1.iter (Ne.symm hRb) (Ne.symm hRo) g2)
      have HG6 := Lib.hid (HG.out.andThen g2 (by rintro j ⟨⟩; exact .inl (by rw [HP2.out]; exact HRR.out)))
      have HC := Lib.hid (visit_k P1 P2 P3 bo b m f HF.out _ HU.out _ w6 qk C HV6.out HL.out.2.2.1 (plain_all _ _) (List.mem_append.2 (.inl (List.mem_map.2 ⟨_, hq, rfl⟩))) (fun g hg => absurd hg (HL.out.2.2.2.1 g)))
      have e3 := HV6.out.c3
      simp only [slv, encS] at rn re
      clear hl0 hR2 g2 hz2 hq r5 d2
      go_wp2_with fail
      refine HC.out.mono ?_
      rintro e w7 ⟨r, rfl, hgr, ht, hfl⟩
      have HGR := Lib.hid hgr
      have HT := Lib.hid ht
      have HFL := Lib.hid hfl
      clear HC hgr ht hfl e3
      have HG7 := Lib.hid (HG6.out.andThen HGR.out (by rintro j ⟨⟩; exact .inl (by rw [HP2.out]; exact HBO.out)))
      cases r with
      | true =>
        go_wp2_with fail
        go_ret
        exact ⟨true, rfl, ⟨fun _ => by simpa using HT.out, fun _ => rfl⟩, HG7.out⟩
      | false =>
        obtain ⟨C', k1, k2, k3, k4⟩ := HFL.out rfl
        have HR7 : Hid (Rng encS w7 b R (z.map fun p => (p.1, slv p.2.1)) (pre ++ post)) := Lib.hid (HR2.out.keptR HGR.out (by simpa using HV6.out.ne) (by simpa using hRo))
        have HN : Hid (Rng encS w7 b R (z.map fun p => (p.1, slv p.2.1)) (pre ++ post) ∧ Vis P1 P2 P3 bo b m w7 C' ∧ Dfs f (lk C') ∧ (∀ s, lk C' s ≠ some true) ∧ ∀ p ∈ z, (p.1, slv p.2.1) ∈ pre ++ post ∨ lk C' p.1 = some false) := Lib.hid
          ⟨HR7.out, HV6.out.next HGR.out k1, k2, fun s h => HL.out.2.2.2.1 s ((k3.grey s).1 h), fun p hp => by
            rcases HL.out.2.2.2.2 p hp with h | h
            · rw [HLL.out] at h
              rcases List.mem_append.1 h with h | h
              · exact .inl (List.mem_append.2 (.inl h))
              · rcases List.mem_cons.1 h with h | h
                · have hk := congrArg Prod.fst h
                  simp only at hk
                  rw [hk]
                  exact .inr k4
                · exact .inl (List.mem_append.2 (.inr h))
            · exact .inr (k3.black _ h)⟩
        have HM2 : Hid (leftN w7 R < leftN wo R) := Lib.hid (by rw [HR7.out.leftN, HLN.out, HLL.out]; simp)
        clear k1 k2 k3 k4 HL rn re hRb hRo
        go_wp2_with fail
        go_roundw
        case rel => exact ⟨pre ++ post, C', HN, HG7⟩
        case measure => exact HM2.out
end Go.Proofs.YtnkemoicgadefaaGreatDoor
