/-
  course.circular: colours, by a closure that calls itself.
-/
import Derived.Test.YtnkemoicgadefaaClo
namespace Go.Proofs.Ytnkemoicgadefaa
open Go.RowKit
attribute [local go_sem] get_mk extract_mk
/-- block b is a map of colours -/
def ColD (w : World) (b : Nat) (C : List (Str × Bool)) : Prop := Dict encS w b (C.map fun p => (p.1, .bool p.2))
theorem putC : ∀ (C : List (Str × Bool)) (k : Str) (v : Bool), ∃ C' : List (Str × Bool), putL (C.map fun p => (p.1, Value.bool p.2)) k (.bool v) = C'.map (fun p => (p.1, Value.bool p.2)) ∧ lk C' = upd (lk C) k v
  | [], k, v => ⟨[(k, v)], rfl, rfl⟩
  | (a, u) :: C, k, v => by
    obtain ⟨C', h1, h2⟩ := putC C k v
    simp only [List.map_cons, putL]
    by_cases e : k = a
    · subst e
      rw [if_pos rfl]
      refine ⟨(k, v) :: C, rfl, ?_⟩
      funext s
      unfold upd lk
      by_cases e2 : s = k
      · rw [if_pos e2, if_pos e2]
      · rw [if_neg e2, if_neg e2, if_neg e2]
    · rw [if_neg e, h1]
      refine ⟨(a, u) :: C', rfl, ?_⟩
      funext s
      have h3 := congrFun h2 s
      unfold upd at h3 ⊢
      unfold lk
      by_cases e2 : s = a
      · subst e2
        rw [if_pos rfl, if_neg (fun h => e h.symm), if_pos rfl]
      · rw [if_neg e2, if_neg e2]
        exact h3
theorem ColD.look {w : World} {b : Nat} {C : List (Str × Bool)} (h : ColD w b C) (k : Str) :
    (Instr.lookup 46 (.map (some b)) (.string ⟨k.toArray⟩) true).run Try.prog w = .ok (.tuple #[.bool ((lk C k).getD false), .bool (lk C k).isSome]) w := by
  have := Dict.look keyS und46 h (zero4 w) k true
  rw [lk_map Value.bool C k] at this
  unfold encS at this
  rw [this]
  cases lk C k <;> rfl
theorem ColD.put {w : World} {b : Nat} {C : List (Str × Bool)} (h : ColD w b C) (k : Str) (v : Bool) :
    ∃ w' C', (Instr.mapUpdate 46 (.map (some b)) (.string ⟨k.toArray⟩) (.bool v)).run Try.prog w = .ok () w' ∧ ColD w' b C' ∧ lk C' = upd (lk C) k v ∧ w.grownBy w' (some b) ∧ w'.heap.size = w.heap.size := by
  obtain ⟨w', r, hd, g, hz⟩ := Dict.put keyS und46 h k (.bool v)
  obtain ⟨C', e, hc⟩ := putC C k v
  rw [e] at hd
  exact ⟨w', C', r, hd, hc, g, hz⟩
structure Vis (P1 P2 P3 bo b : Nat) (m : List (Str × List Str)) (w : World) (C : List (Str × Bool)) : Prop where
  c1 : w.cell? ⟨P1, 0, none⟩ = some (.map (some bo))
  c2 : w.cell? ⟨P2, 0, none⟩ = some (.map (some b))
  c3 : w.cell? ⟨P3, 0, none⟩ = some (.func (.func 61) #[] #[.pointer (some ⟨P1, 0, none⟩), .pointer (some ⟨P2, 0, none⟩), .pointer (some ⟨P3, 0, none⟩)])
  dir : Dir w b m
  col : ColD w bo C
  ne : b ≠ bo
theorem Vis.next {P1 P2 P3 bo b : Nat} {m : List (Str × List Str)} {w w' : World} {C C' : List (Str × Bool)} (h : Vis P1 P2 P3 bo b m w C) (g : w.grownBy w' (some bo)) (hc : ColD w' bo C') : Vis P1 P2 P3 bo b m w' C' :=
  ⟨gcellm h.col.map g h.c1, gcellm h.col.map g h.c2, gcellm h.col.map g h.c3, h.dir.keptm h.col.map h.ne g, hc, h.ne⟩
/-- what a visit gives -/
def VisR (f : Str → List Str) (bo : Nat) (C : List (Str × Bool)) (code : Str) (w : World) (e : Ending) (w' : World) : Prop :=
  ∃ r : Bool, e = .returned (.bool r) ∧ w.grownBy w' (some bo) ∧ (r = true → ∃ x, Leads f x x) ∧ (r = false → ∃ C', ColD w' bo C' ∧ Dfs f (lk C') ∧ Goes (lk C) (lk C') ∧ lk C' code = some false)
set_option maxRecDepth 100000 in
set_option maxHeartbeats 1000000 in
theorem visit_k (P1 P2 P3 bo b : Nat) (m : List (Str × List Str)) (f : Str → List Str) (hf : ∀ c, f c = (m.lookup c).getD []) (U : List Str) (hU : ∀ s, ∀ x ∈ f s, x ∈ U) :
    ∀ (N : Nat) (w : World) (code : Str) (C : List (Str × Bool)), Vis P1 P2 P3 bo b m w C → Dfs f (lk C) → plain U (lk C) ≤ N → code ∈ U → (∀ g, lk C g = some true → Leads f g code) →
      Calls Try.prog 61 #[.string ⟨code.toArray⟩, .pointer (some ⟨P1, 0, none⟩), .pointer (some ⟨P2, 0, none⟩), .pointer (some ⟨P3, 0, none⟩)] w (VisR f bo C code w) := by
  intro N
  induction N with
  | zero =>
    intro w code C hv hd hN hcu hg
    have lk1 := hv.col.look code
    have c1 := hv.c1
    have c2 := hv.c2
    have c3 := hv.c3
    cases hl : lk C code with
    | some v =>
      rw [hl] at lk1
      cases v with
      | true =>
        have HR : Hid (∃ x, Leads f x x) := Lib.hid ⟨code, hg code hl⟩
        clear hv hd hN hcu hg hl c2 c3
        go_enter Try.func61, Try.ntmps61
        go_wp2_with fail
        go_ret
        exact ⟨true, rfl, World.grownBy.refl _ _, fun _ => HR.out, fun h => by cases h⟩
      | false =>
        have HR : Hid (ColD w bo C ∧ Dfs f (lk C) ∧ lk C code = some false) := Lib.hid ⟨hv.col, hd, hl⟩
        clear hv hd hN hcu hg hl c2 c3
        go_enter Try.func61, Try.ntmps61
        go_wp2_with fail
        go_ret
        exact ⟨false, rfl, World.grownBy.refl _ _, (fun h => by cases h), fun _ => ⟨C, HR.out.1, HR.out.2.1, Goes.refl _, HR.out.2.2⟩⟩
    | none =>
      rw [hl] at lk1
      have hlt := plain_lt U hl hcu true
      omega
  | succ N ih =>
    intro w code C hv hd hN hcu hg
    have lk1 := hv.col.look code
    have c1 := hv.c1
    have c2 := hv.c2
    have c3 := hv.c3
    cases hl : lk C code with
    | some v =>
      rw [hl] at lk1
      cases v with
      | true =>
        have HR : Hid (∃ x, Leads f x x) := Lib.hid ⟨code, hg code hl⟩
        clear hv hd hN hcu hg hl c2 c3 ih
        go_enter Try.func61, Try.ntmps61
        go_wp2_with fail
        go_ret
        exact ⟨true, rfl, World.grownBy.refl _ _, fun _ => HR.out, fun h => by cases h⟩
      | false =>
        have HR : Hid (ColD w bo C ∧ Dfs f (lk C) ∧ lk C code = some false) := Lib.hid ⟨hv.col, hd, hl⟩
        clear hv hd hN hcu hg hl c2 c3 ih
        go_enter Try.func61, Try.ntmps61
        go_wp2_with fail
        go_ret
        exact ⟨false, rfl, World.grownBy.refl _ _, (fun h => by cases h), fun _ => ⟨C, HR.out.1, HR.out.2.1, Goes.refl _, HR.out.2.2⟩⟩
    | none =>
      rw [hl] at lk1
      have hlt := plain_lt U hl hcu true
      obtain ⟨w2, C1, r1, hc1, hk1, g1, hz1⟩ := hv.col.put code true
      have hv1 := hv.next g1 hc1
      obtain ⟨LA, ln, lc, lk2, _, hst, _⟩ := hv1.dir.look code
      rw [← hf code] at hst
      have d2 := hv1.c2
      have d3 := hv1.c3
      have HC := Lib.hid (hasS61 (.pointer (some ⟨P1, 0, none⟩)) (.pointer (some ⟨P2, 0, none⟩)) (.pointer (some ⟨P3, 0, none⟩)) LA ln lc (f code)
        (fun k W => ∃ Ck, ColD W bo Ck ∧ Dfs f (lk Ck) ∧ Goes (lk C1) (lk Ck) ∧ (∀ x ∈ (f code).take k, lk Ck x = some false) ∧ w2.grownBy W (some bo))
        (fun k W => (∃ x, Leads f x x) ∧ w2.grownBy W (some bo)) w2
        ⟨C1, hc1, by rw [hk1]; exact dfs_open hd hl, Goes.refl _, (fun x hx => by simp at hx), World.grownBy.refl _ _⟩
        (fun k W ⟨Ck, _, _, _, _, g⟩ => hst.keptm hc1.map g)
        (fun k x W hx ⟨Ck, h1, h2, h3, h4, h5⟩ => by
          have hxm := List.mem_of_getElem? hx
          refine (ih W x Ck (hv1.next h5 h1) h2 ?_ (hU code x hxm) (fun g hgg => ?_)).mono ?_
          · have := plain_le U (a := lk C1) (b := lk Ck) (fun s hs => h3.some hs)
            rw [hk1] at this
            omega
          · have h6 := (h3.grey g).1 hgg
            rw [hk1] at h6
            unfold upd at h6
            by_cases e : g = code
            · subst e; exact .one hxm
            · rw [if_neg e] at h6; exact (hg g h6).tail hxm
          · rintro e W' ⟨r, rfl, hgr, ht, hfl⟩
            refine ⟨r, rfl, fun hr => ?_, fun hr => ⟨ht hr, h5.trans hgr⟩⟩
            obtain ⟨C2, k1, k2, k3, k4⟩ := hfl hr
            refine ⟨C2, k1, k2, h3.trans k3, fun y hy => ?_, h5.trans hgr⟩
            rw [take_snoc hx] at hy
            rcases List.mem_append.1 hy with hy | hy
            · exact k3.black y (h4 y hy)
            · obtain rfl := List.mem_singleton.1 hy
              exact k4))
      have HLN := Lib.hid hst.len
      have HV := Lib.hid hv1
      have HL := Lib.hid hl
      have HK := Lib.hid hk1
      have G1 := Lib.hid g1
      clear hv hv1 hd hN hcu hg hl hlt hst hc1 hk1 hz1 ih c2 c3 g1
      go_enter Try.func61, Try.ntmps61
      go_wp2_with fail
      refine HC.out.mono ?_
      rintro e w3 (⟨rfl, Ck, h1, h2, h3, h4, h5⟩ | ⟨k, hk, rfl, h1, h5⟩)
      · have HV3 := Lib.hid (HV.out.next h5 h1)
        obtain ⟨w4, C4, r4, hc4, hk4, g4, hz4⟩ := h1.put code false
        have e1 := HV3.out.c1
        have H4 : Hid (ColD w4 bo C4 ∧ Dfs f (lk C4) ∧ Goes (lk C) (lk C4) ∧ lk C4 code = some false) := Lib.hid (by
          have hd := dfs_close (f := f) HL.out h2 (by rw [← HK.out]; exact h3) (fun x hx => h4 x (by rw [HLN.out, List.take_length]; exact hx))
          rw [hk4]
          exact ⟨hc4, hd.1, hd.2, by unfold upd; rw [if_pos rfl]⟩)
        have G4 := Lib.hid ((G1.out.trans h5).trans g4)
        clear HC h1 h2 h3 h4 h5 hc4 hk4 g4 hz4 HV3 c1 r1 lk1 lk2 d2 d3
        go_wp2_with fail
        go_ret
        exact ⟨false, rfl, G4.out, (fun h => by cases h), fun _ => ⟨C4, H4.out⟩⟩
      · have G4 := Lib.hid (G1.out.trans h5)
        have H1 := Lib.hid h1
        clear HC h1 h5 c1 r1 lk1 lk2 d2 d3
        go_wp2_with fail
        go_ret
        exact ⟨true, rfl, G4.out, fun _ => H1.out, fun h => by cases h⟩
end Go.Proofs.Ytnkemoicgadefaa
