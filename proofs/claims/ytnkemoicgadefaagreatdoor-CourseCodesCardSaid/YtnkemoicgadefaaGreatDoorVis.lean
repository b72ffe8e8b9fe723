/-
  course.closed: a range over the map.
  course.circular: colours, by a closure that calls itself.
-/
import Derived.Test.YtnkemoicgadefaaGreatDoorReq
namespace Go.Proofs.YtnkemoicgadefaaGreatDoor
open Go.RowKit
attribute [local go_sem] get_mk extract_mk
/-- how many entries a range has still to give -/
def leftN (w : World) (r : Nat) : Nat := match w.heap[r]? with
  | some (.mapIter (some m) _ seen _) => match w.heap[m]? with
    | some (.map es _) => (leftOf es seen).size
    | _ => 0
  | _ => 0
section
variable {κ : Type} [DecidableEq κ] {enc : κ → Value}
omit [DecidableEq κ] in
theorem Rng.leftN {w : World} {b r : Nat} {L left : List (κ × Value)} (h : Rng enc w b r L left) : leftN w r = left.length := by
  obtain ⟨es, k, since, seen, last, he, hi, ho, hs, hsk, hl⟩ := h
  unfold Go.Proofs.YtnkemoicgadefaaGreatDoor.leftN
  rw [hi]
  simp only [he.at_]
  have := congrArg List.length hl
  simpa using this
theorem KeyT.inj {K : TypeId} {d : TypeDesc} (C : KeyT K d enc) {a b : κ} (h : enc a = enc b) : a = b := by
  have h1 := C.same a a
  have h2 := C.same a b
  rw [← h, h1] at h2
  have : decide (a = b) = true := by
    injection h2 with h2
    rw [← h2]
    simp
  simpa using this
theorem Rng.sub {K : TypeId} {d : TypeDesc} (C : KeyT K d enc) {w : World} {b r : Nat} {L left : List (κ × Value)} (h : Rng enc w b r L left) : ∀ p ∈ left, p ∈ L := by
  obtain ⟨es, k, since, seen, last, he, hi, ho, hs, hsk, hl⟩ := h
  intro p hp
  have h1 : encP enc p ∈ (leftOf es seen).toList.map (fun e => (e.key, e.val)) := by rw [hl]; exact List.mem_map.2 ⟨p, hp, rfl⟩
  obtain ⟨e, he1, he2⟩ := List.mem_map.1 h1
  have h2 : encP enc p ∈ es.toList.map (fun e => (e.key, e.val)) := by rw [← he2]; exact List.mem_map.2 ⟨e, (mem_left he1).1, rfl⟩
  rw [he.is] at h2
  obtain ⟨q, hq, e⟩ := List.mem_map.1 h2
  unfold encP at e
  injection e with e1 e2
  have : q = p := Prod.ext (C.inj e1) e2
  exact this ▸ hq
end
theorem Strs.eq {w : World} {A : Option Addr} {n c : Nat} {l r : List Str} (h : Strs w A n c l) (k : Strs w A n c r) : l = r := by
  have h1 := h.len
  have k1 := k.len
  apply List.ext_getElem?
  intro j
  rcases Nat.lt_or_ge j n with hj | hj
  · obtain ⟨ad, x, hx, _, e1, _, c1⟩ := h.at j hj
    obtain ⟨ad2, y, hy, _, e2, _, c2⟩ := k.at j hj
    rw [e1] at e2
    obtain rfl := Option.some.inj e2
    rw [c1] at c2
    injection c2 with c2
    injection c2 with c2
    injection c2 with c2
    rw [hx, hy, List.toArray_inj c2]
  · rw [List.getElem?_eq_none (by omega), List.getElem?_eq_none (by omega)]
def goodP (m : List (Str × List Str)) (ns : List Str) : Bool := ns.all fun s => (m.lookup s).isSome
theorem good_take {m : List (Str × List Str)} {ns : List Str} {k : Nat} {s : Str} (h : ns[k]? = some s) : goodP m (ns.take (k + 1)) = (goodP m (ns.take k) && (m.lookup s).isSome) := by
  unfold goodP
  rw [take_snoc h, List.all_append]
  simp
set_option maxRecDepth 100000 in
set_option maxHeartbeats 1000000 in
theorem closed_k (b : Nat) (m : List (Str × List Str)) (w : World) (h : Dir w b m) : Calls Tryz.prog 49 #[.map (some b)] w fun e w' => e = .returned (.bool (m.all fun p => goodP m p.2)) ∧ w.grownBy w' none := by
  have HD := Lib.hid (fun W (g : w.grownBy W none) => h.kept g)
  obtain ⟨z, hz, hm, hst⟩ := h
  obtain ⟨w1, r1, hR, g1, hs1⟩ := hz.range und65
  have HST := Lib.hid (fun W (g : w.grownBy W none) => fun p hp => (And.intro ((hst p hp).1.kept g) (hst p hp).2))
  have HM := Lib.hid hm
  have HR := Lib.hid hR
  have G1 := Lib.hid g1
  clear hz hst hm hR hs1 g1
  generalize hrr : w.heap.size = R at *
  have HRR := Lib.hid hrr
  clear hrr
  go_enter Tryz.func49, Tryz.ntmps49
  go_wp2_with fail
  go_loopw [] (fun wr => ∃ left, Hid (Rng encS wr b R (z.map fun p => (p.1, slv p.2.1)) left ∧ ∀ p ∈ z, (p.1, slv p.2.1) ∈ left ∨ goodP m p.2.2 = true) ∧ w.grownBy wr none) (fun wr => leftN wr R)
  case atStart => exact ⟨_, Lib.hid ⟨HR.out, fun p hp => .inl (List.mem_map.2 ⟨p, hp, rfl⟩)⟩, G1.out⟩
  case round =>
    obtain ⟨left, HL, hg⟩ := hrel
    generalize wr = wo at *
    rcases HL.out.1.next 0 with ⟨hl0, rn⟩ | ⟨pre, post, p, w2, hl0, rn, hR2, g2, hz2, re⟩
    · have HB : Hid ((m.all fun p => goodP m p.2) = true) := Lib.hid (by
        rw [List.all_eq_true]
        intro q hq
        rw [HM.out] at hq
        obtain ⟨p, hp, rfl⟩ := List.mem_map.1 hq
        rcases HL.out.2 p hp with h | h
        · rw [hl0] at h; cases h
        · exact h)
      clear HL hl0 r1
      go_wp2_with fail
      go_ret
      exact ⟨by rw [HB.out]; rfl, hg⟩
    · have hmem := HL.out.1.sub keyS p (by rw [hl0]; simp)
      obtain ⟨q, hq, hqe⟩ := List.mem_map.1 hmem
      subst hqe
      obtain ⟨qk, ⟨qA, qn, qc⟩, qs⟩ := q
      have hln := HL.out.1.leftN
      have hg2 : w.grownBy w2 none := hg.andThen g2 (by rintro j ⟨⟩; exact .inl (by rw [HRR.out]; exact Nat.le_refl _))
      have hs := HST.out w2 hg2 _ hq
      have HS := Lib.hid (fun W (g : w2.grownBy W none) => hs.1.kept g)
      have HSL := Lib.hid hs.1.len
      have hle := hs.1.v.le
      have hcap := hs.1.v.cap
      simp only [slv, encS] at HS HSL hle hcap rn re
      have H2 := Lib.hid hR2
      have HP := Lib.hid hq
      have HLL := Lib.hid hl0
      have HLN := Lib.hid hln
      clear hmem hq hs hR2 g2 hz2 hln hl0 r1
      go_wp2_with fail
      go_loopw [17] (fun i wr => ∃ k : Nat, k ≤ qn ∧ i = .int .i64 (k : Int) ∧ Hid (goodP m (qs.take k) = true) ∧ w2.grownBy wr none) (fun i _ => qn - (intOf i).toNat)
      case atStart => exact ⟨0, Nat.zero_le _, rfl, Lib.hid rfl, grown_refl _⟩
      case round =>
        obtain ⟨k, hk, rfl, HA, hg3⟩ := hrel
        have hg4 := hg2.trans hg3
        by_cases hlt : k < qn
        · obtain ⟨ad, s, hs, _, rfl, hb, cs⟩ := (HS.out _ hg3).at k hlt
          obtain ⟨LA, ln, lc, _, lk2, _, _⟩ := (HD.out _ hg4).look s
          have HT := Lib.hid (good_take (m := m) hs)
          have HS1 := Lib.hid hs
          clear rn re hs hb
          cases hv : (m.lookup s).isSome with
          | true =>
            rw [hv] at lk2
            have HA2 : Hid (goodP m (qs.take (k + 1)) = true) := Lib.hid (by rw [HT.out, HA.out, hv]; rfl)
            clear HA HT HS1 hv
            go_wp2_with fail
            go_roundw
            case rel => exact ⟨k + 1, by omega, by go_num, HA2, hg3⟩
            case measure => simp [intOf]; omega
          | false =>
            rw [hv] at lk2
            have HB : Hid ((m.all fun p => goodP m p.2) = false) := Lib.hid (by
              rw [Bool.eq_false_iff]
              intro h
              rw [List.all_eq_true] at h
              have h1 := h (qk, qs) (by rw [HM.out]; exact List.mem_map.2 ⟨_, HP.out, rfl⟩)
              unfold goodP at h1
              rw [List.all_eq_true] at h1
              have h2 := h1 s (List.mem_of_getElem? HS1.out)
              rw [hv] at h2
              cases h2)
            clear HA HT HS1 hv
            go_wp2_with fail
            go_ret
            exact ⟨by rw [HB.out]; rfl, hg4⟩
        · obtain rfl : qn = k := by omega
          have HA2 : Hid (goodP m qs = true) := Lib.hid (by
            have := HA.out
            rw [HSL.out, List.take_length] at this
            exact this)
          have HR3 : Hid (Rng encS wr b R (z.map fun p => (p.1, slv p.2.1)) (pre ++ post)) := Lib.hid (H2.out.kept hg3)
          have HG : Hid (∀ p ∈ z, (p.1, slv p.2.1) ∈ pre ++ post ∨ goodP m p.2.2 = true) := Lib.hid (fun p hp => by
            rcases HL.out.2 p hp with h | h
            · rw [HLL.out] at h
              rcases List.mem_append.1 h with h | h
              · exact .inl (List.mem_append.2 (.inl h))
              · rcases List.mem_cons.1 h with h | h
                · have hk := congrArg Prod.fst h
                  have hv := congrArg Prod.snd h
                  obtain ⟨pk, ⟨pA, pn, pc⟩, ps⟩ := p
                  simp only [slv, Value.slice.injEq] at hk hv
                  obtain ⟨v1, v2, v3⟩ := hv
                  subst v1 v2 v3
                  have e1 := (HST.out w2 hg2 _ hp).1.eq (HS.out w2 (grown_refl _))
                  simp only at e1
                  rw [e1]
                  exact .inr HA2.out
                · exact .inl (List.mem_append.2 (.inr h))
            · exact .inr h)
          have HM2 : Hid (leftN wr R < leftN wo R) := Lib.hid (by rw [HR3.out.leftN, HLN.out, HLL.out]; simp)
          clear HA HL rn re
          go_wp2_with fail
          go_roundw
          case rel => exact ⟨pre ++ post, Lib.hid ⟨HR3.out, HG.out⟩, hg4⟩
          case measure => exact HM2.out
end Go.Proofs.YtnkemoicgadefaaGreatDoor
namespace Go.Proofs.YtnkemoicgadefaaGreatDoor
open Go.RowKit
attribute [local go_sem] get_mk extract_mk
/-- block b is a map of colours -/
def ColD (w : World) (b : Nat) (C : List (Str × Bool)) : Prop := Dict encS w b (C.map fun p => (p.1, .bool p.2))
theorem putC : ∀ (C : List (Str × Bool)) (k : Str) (v : Bool), ∃ C' : List (Str × Bool), putL (C.map fun p => (p.1, Value.bool p.2)) k (.bool v) = C'.map (fun p => (p.1, Value.bool p.2)) ∧ lk C' = upd (lk C) k v
  | [], k, v => ⟨[(k, v)], rfl, rfl⟩
  | (a, u) :: C, k, v => by
    obtain ⟨C', h1, h2⟩ := putC C k v
    simp only [List.map_cons, putL]
    by_cases e : k = a
    · subst e
      rw [if_pos rfl]
      refine ⟨(k, v) :: C, rfl, ?_⟩
      funext s
      unfold upd lk
      by_cases e2 : s = k
      · rw [if_pos e2, if_pos e2]
      · rw [if_neg e2, if_neg e2, if_neg e2]
    · rw [if_neg e, h1]
      refine ⟨(a, u) :: C', rfl, ?_⟩
      funext s
      have h3 := congrFun h2 s
      unfold upd at h3 ⊢
      unfold lk
      by_cases e2 : s = a
      · subst e2
        rw [if_pos rfl, if_neg (fun h => e h.symm), if_pos rfl]
      · rw [if_neg e2, if_neg e2]
        exact h3
theorem ColD.look {w : World} {b : Nat} {C : List (Str × Bool)} (h : ColD w b C) (k : Str) :
    (Instr.lookup 78 (.map (some b)) (.string ⟨k.toArray⟩) true).run Tryz.prog w = .ok (.tuple #[.bool ((lk C k).getD false), .bool (lk C k).isSome]) w := by
  have := Dict.look keyS und46 h (zero4 w) k true
  rw [lk_map Value.bool C k] at this
  unfold encS at this
  rw [this]
  cases lk C k <;> rfl
theorem ColD.put {w : World} {b : Nat} {C : List (Str × Bool)} (h : ColD w b C) (k : Str) (v : Bool) :
    ∃ w' C', (Instr.mapUpdate 78 (.map (some b)) (.string ⟨k.toArray⟩) (.bool v)).run Tryz.prog w = .ok () w' ∧ ColD w' b C' ∧ lk C' = upd (lk C) k v ∧ w.grownBy w' (some b) ∧ w'.heap.size = w.heap.size := by
  obtain ⟨w', r, hd, g, hz⟩ := Dict.put keyS und46 h k (.bool v)
  obtain ⟨C', e, hc⟩ := putC C k v
  rw [e] at hd
  exact ⟨w', C', r, hd, hc, g, hz⟩
structure Vis (P1 P2 P3 bo b : Nat) (m : List (Str × List Str)) (w : World) (C : List (Str × Bool)) : Prop where
  c1 : w.cell? ⟨P1, 0, none⟩ = some (.map (some bo))
  c2 : w.cell? ⟨P2, 0, none⟩ = some (.map (some b))
  c3 : w.cell? ⟨P3, 0, none⟩ = some (.func (.func 80) #[] #[.pointer (some ⟨P1, 0, none⟩), .pointer (some ⟨P2, 0, none⟩), .pointer (some ⟨P3, 0, none⟩)])
  dir : Dir w b m
  col : ColD w bo C
  ne : b ≠ bo
theorem Vis.next {P1 P2 P3 bo b : Nat} {m : List (Str × List Str)} {w w' : World} {C C' : List (Str × Bool)} (h : Vis P1 P2 P3 bo b m w C) (g : w.grownBy w' (some bo)) (hc : ColD w' bo C') : Vis P1 P2 P3 bo b m w' C' :=
  ⟨gcellm h.col.map g h.c1, gcellm h.col.map g h.c2, gcellm h.col.map g h.c3, h.dir.keptm h.col.map h.ne g, hc, h.ne⟩
/-- what a visit gives -/
def VisR (f : Str → List Str) (bo : Nat) (C : List (Str × Bool)) (code : Str) (w : World) (e : Ending) (w' : World) : Prop :=
  ∃ r : Bool, e = .returned (.bool r) ∧ w.grownBy w' (some bo) ∧ (r = true → ∃ x, Leads f x x) ∧ (r = false → ∃ C', ColD w' bo C' ∧ Dfs f (lk C') ∧ Goes (lk C) (lk C') ∧ lk C' code = some false)
set_option maxRecDepth 100000 in
set_option maxHeartbeats 1000000 in
theorem visit_k (P1 P2 P3 bo b : Nat) (m : List (Str × List Str)) (f : Str → List Str) (hf : ∀ c, f c = (m.lookup c).getD []) (U : List Str) (hU : ∀ s, ∀ x ∈ f s, x ∈ U) :
    ∀ (N : Nat) (w : World) (code : Str) (C : List (Str × Bool)), Vis P1 P2 P3 bo b m w C → Dfs f (lk C) → plain U (lk C) ≤ N → code ∈ U → (∀ g, lk C g = some true → Leads f g code) →
      Calls Tryz.prog 80 #[.string ⟨code.toArray⟩, .pointer (some ⟨P1, 0, none⟩), .pointer (some ⟨P2, 0, none⟩), .pointer (some ⟨P3, 0, none⟩)] w (VisR f bo C code w) := by
  intro N
  induction N with
  | zero =>
    intro w code C hv hd hN hcu hg
    have lk1 := hv.col.look code
    have c1 := hv.c1
    have c2 := hv.c2
    have c3 := hv.c3
    cases hl : lk C code with
    | some v =>
      rw [hl] at lk1
      cases v with
      | true =>
        have HR : Hid (∃ x, Leads f x x) := Lib.hid ⟨code, hg code hl⟩
        clear hv hd hN hcu hg hl c2 c3
        go_enter Tryz.func80, Tryz.ntmps80
        go_wp2_with fail
        go_ret
        exact ⟨true, rfl, World.grownBy.refl _ _, fun _ => HR.out, fun h => by cases h⟩
      | false =>
        have HR : Hid (ColD w bo C ∧ Dfs f (lk C) ∧ lk C code = some false) := Lib.hid ⟨hv.col, hd, hl⟩
        clear hv hd hN hcu hg hl c2 c3
        go_enter Tryz.func80, Tryz.ntmps80
        go_wp2_with fail
        go_ret
        exact ⟨false, rfl, World.grownBy.refl _ _, (fun h => by cases h), fun _ => ⟨C, HR.out.1, HR.out.2.1, Goes.refl _, HR.out.2.2⟩⟩
    | none =>
      rw [hl] at lk1
      have hlt := plain_lt U hl hcu true
      omega
  | succ N ih =>
    intro w code C hv hd hN hcu hg
    have lk1 := hv.col.look code
    have c1 := hv.c1
    have c2 := hv.c2
    have c3 := hv.c3
    cases hl : lk C code with
    | some v =>
      rw [hl] at lk1
      cases v with
      | true =>
        have HR : Hid (∃ x, Leads f x x) := Lib.hid ⟨code, hg code hl⟩
        clear hv hd hN hcu hg hl c2 c3 ih
        go_enter Tryz.func80, Tryz.ntmps80
        go_wp2_with fail
        go_ret
        exact ⟨true, rfl, World.grownBy.refl _ _, fun _ => HR.out, fun h => by cases h⟩
      | false =>
        have HR : Hid (ColD w bo C ∧ Dfs f (lk C) ∧ lk C code = some false) := Lib.hid ⟨hv.col, hd, hl⟩
        clear hv hd hN hcu hg hl c2 c3 ih
        go_enter Tryz.func80, Tryz.ntmps80
        go_wp2_with fail
        go_ret
        exact ⟨false, rfl, World.grownBy.refl _ _, (fun h => by cases h), fun _ => ⟨C, HR.out.1, HR.out.2.1, Goes.refl _, HR.out.2.2⟩⟩
    | none =>
      rw [hl] at lk1
      have hlt := plain_lt U hl hcu true
      obtain ⟨w2, C1, r1, hc1, hk1, g1, hz1⟩ := hv.col.put code true
      have hv1 := hv.next g1 hc1
      obtain ⟨LA, ln, lc, lk2, _, hst, _⟩ := hv1.dir.look code
      rw [← hf code] at hst
      have d2 := hv1.c2
      have d3 := hv1.c3
      have HC := Lib.hid (hasS61 (.pointer (some ⟨P1, 0, none⟩)) (.pointer (some ⟨P2, 0, none⟩)) (.pointer (some ⟨P3, 0, none⟩)) LA ln lc (f code)
        (fun k W => ∃ Ck, ColD W bo Ck ∧ Dfs f (lk Ck) ∧ Goes (lk C1) (lk Ck) ∧ (∀ x ∈ (f code).take k, lk Ck x = some false) ∧ w2.grownBy W (some bo))
        (fun k W => (∃ x, Leads f x x) ∧ w2.grownBy W (some bo)) w2
        ⟨C1, hc1, by rw [hk1]; exact dfs_open hd hl, Goes.refl _, (fun x hx => by simp at hx), World.grownBy.refl _ _⟩
        (fun k W ⟨Ck, _, _, _, _, g⟩ => hst.keptm hc1.map g)
        (fun k x W hx ⟨Ck, h1, h2, h3, h4, h5⟩ => by
          have hxm := List.mem_of_getElem? hx
          refine (ih W x Ck (hv1.next h5 h1) h2 ?_ (hU code x hxm) (fun g hgg => ?_)).mono ?_
          · have := plain_le U (a := lk C1) (b := lk Ck) (fun s hs => h3.some hs)
            rw [hk1] at this
            omega
          · have h6 := (h3.grey g).1 hgg
            rw [hk1] at h6
            unfold upd at h6
            by_cases e : g = code
            · subst e; exact .one hxm
            · rw [if_neg e] at h6; exact (hg g h6).tail hxm
          · rintro e W' ⟨r, rfl, hgr, ht, hfl⟩
            refine ⟨r, rfl, fun hr => ?_, fun hr => ⟨ht hr, h5.trans hgr⟩⟩
            obtain ⟨C2, k1, k2, k3, k4⟩ := hfl hr
            refine ⟨C2, k1, k2, h3.trans k3, fun y hy => ?_, h5.trans hgr⟩
            rw [take_snoc hx] at hy
            rcases List.mem_append.1 hy with hy | hy
            · exact k3.black y (h4 y hy)
            · obtain rfl := List.mem_singleton.1 hy
              exact k4))
      have HLN := Lib.hid hst.len
      have HV := Lib.hid hv1
      have HL := Lib.hid hl
      have HK := Lib.hid hk1
      have G1 := Lib.hid g1
      clear hv hv1 hd hN hcu hg hl hlt hst hc1 hk1 hz1 ih c2 c3 g1
      go_enter Tryz.func80, Tryz.ntmps80
      go_wp2_with fail
      refine HC.out.mono ?_
      rintro e w3 (⟨rfl, Ck, h1, h2, h3, h4, h5⟩ | ⟨k, hk, rfl, h1, h5⟩)
      · have HV3 := Lib.hid (HV.out.next h5 h1)
        obtain ⟨w4, C4, r4, hc4, hk4, g4, hz4⟩ := h1.put code false
        have e1 := HV3.out.c1
        have H4 : Hid (ColD w4 bo C4 ∧ Dfs f (lk C4) ∧ Goes (lk C) (lk C4) ∧ lk C4 code = some false) := Lib.hid (by
          have hd := dfs_close (f := f) HL.out h2 (by rw [← HK.out]; exact h3) (fun x hx => h4 x (by rw [HLN.out, List.take_length]; exact hx))
          rw [hk4]
          exact ⟨hc4, hd.1, hd.2, by unfold upd; rw [if_pos rfl]⟩)
        have G4 := Lib.hid ((G1.out.trans h5).trans g4)
        clear HC h1 h2 h3 h4 h5 hc4 hk4 g4 hz4 HV3 c1 r1 lk1 lk2 d2 d3
        go_wp2_with fail
        go_ret
        exact ⟨false, rfl, G4.out, (fun h => by cases h), fun _ => ⟨C4, H4.out⟩⟩
      · have G4 := Lib.hid (G1.out.trans h5)
        have H1 := Lib.hid h1
        clear HC h1 h5 c1 r1 lk1 lk2 d2 d3
        go_wp2_with fail
        go_ret
        exact ⟨true, rfl, G4.out, fun _ => H1.out, fun h => by cases h⟩
end Go.Proofs.YtnkemoicgadefaaGreatDoor
