/-
  course.closed: a range over the map.
-/
import Derived.Test.YtnkemoicgadefaaReq
namespace Go.Proofs.Ytnkemoicgadefaa
open Go.RowKit
attribute [local go_sem] get_mk extract_mk
/-- how many entries a range has still to give -/
def leftN (w : World) (r : Nat) : Nat := match w.heap[r]? with
  | some (.mapIter (some m) _ seen _) => match w.heap[m]? with
    | some (.map es _) => (leftOf es seen).size
    | _ => 0
  | _ => 0
section
variable {κ : Type} [DecidableEq κ] {enc : κ → Value}
omit [DecidableEq κ] in
theorem Rng.leftN {w : World} {b r : Nat} {L left : List (κ × Value)} (h : Rng enc w b r L left) : leftN w r = left.length := by
  obtain ⟨es, k, since, seen, last, he, hi, ho, hs, hsk, hl⟩ := h
  unfold Go.Proofs.Ytnkemoicgadefaa.leftN
  rw [hi]
  simp only [he.at_]
  have := congrArg List.length hl
  simpa using this
theorem KeyT.inj {K : TypeId} {d : TypeDesc} (C : KeyT K d enc) {a b : κ} (h : enc a = enc b) : a = b := by
  have h1 := C.same a a
  have h2 := C.same a b
  rw [← h, h1] at h2
  have : decide (a = b) = true := by
    injection h2 with h2
    rw [← h2]
    simp
  simpa using this
theorem Rng.sub {K : TypeId} {d : TypeDesc} (C : KeyT K d enc) {w : World} {b r : Nat} {L left : List (κ × Value)} (h : Rng enc w b r L left) : ∀ p ∈ left, p ∈ L := by
  obtain ⟨es, k, since, seen, last, he, hi, ho, hs, hsk, hl⟩ := h
  intro p hp
  have h1 : encP enc p ∈ (leftOf es seen).toList.map (fun e => (e.key, e.val)) := by rw [hl]; exact List.mem_map.2 ⟨p, hp, rfl⟩
  obtain ⟨e, he1, he2⟩ := List.mem_map.1 h1
  have h2 : encP enc p ∈ es.toList.map (fun e => (e.key, e.val)) := by rw [← he2]; exact List.mem_map.2 ⟨e, (mem_left he1).1, rfl⟩
  rw [he.is] at h2
  obtain ⟨q, hq, e⟩ := List.mem_map.1 h2
  unfold encP at e
  injection e with e1 e2
  have : q = p := Prod.ext (C.inj e1) e2
  exact this ▸ hq
end
theorem Strs.eq {w : World} {A : Option Addr} {n c : Nat} {l r : List Str} (h : Strs w A n c l) (k : Strs w A n c r) : l = r := by
  have h1 := h.len
  have k1 := k.len
  apply List.ext_getElem?
  intro j
  rcases Nat.lt_or_ge j n with hj | hj
  · obtain ⟨ad, x, hx, _, e1, _, c1⟩ := h.at j hj
    obtain ⟨ad2, y, hy, _, e2, _, c2⟩ := k.at j hj
    rw [e1] at e2
    obtain rfl := Option.some.inj e2
    rw [c1] at c2
    injection c2 with c2
    injection c2 with c2
    injection c2 with c2
    rw [hx, hy, List.toArray_inj c2]
  · rw [List.getElem?_eq_none (by omega), List.getElem?_eq_none (by omega)]
def goodP (m : List (Str × List Str)) (ns : List Str) : Bool := ns.all fun s => (m.lookup s).isSome
theorem good_take {m : List (Str × List Str)} {ns : List Str} {k : Nat} {s : Str} (h : ns[k]? = some s) : goodP m (ns.take (k + 1)) = (goodP m (ns.take k) && (m.lookup s).isSome) := by
  unfold goodP
  rw [take_snoc h, List.all_append]
  simp
set_option maxRecDepth 100000 in
set_option maxHeartbeats 1000000 in
theorem closed_k (b : Nat) (m : List (Str × List Str)) (w : World) (h : Dir w b m) : Calls Try.prog 40 #[.map (some b)] w fun e w' => e = .returned (.bool (m.all fun p => goodP m p.2)) ∧ w.grownBy w' none := by
  have HD := Lib.hid (fun W (g : w.grownBy W none) => h.kept g)
  obtain ⟨z, hz, hm, hst⟩ := h
  obtain ⟨w1, r1, hR, g1, hs1⟩ := hz.range und65
  have HST := Lib.hid (fun W (g : w.grownBy W none) => fun p hp => (And.intro ((hst p hp).1.kept g) (hst p hp).2))
  have HM := Lib.hid hm
  have HR := Lib.hid hR
  have G1 := Lib.hid g1
  clear hz hst hm hR hs1 g1
  generalize hrr : w.heap.size = R at *
  have HRR := Lib.hid hrr
  clear hrr
  go_enter Try.func40, Try.ntmps40
  go_wp2_with fail
  go_loopw [] (fun wr => ∃ left, Hid (Rng encS wr b R (z.map fun p => (p.1, slv p.2.1)) left ∧ ∀ p ∈ z, (p.1, slv p.2.1) ∈ left ∨ goodP m p.2.2 = true) ∧ w.grownBy wr none) (fun wr => leftN wr R)
  case atStart => exact ⟨_, Lib.hid ⟨HR.out, fun p hp => .inl (List.mem_map.2 ⟨p, hp, rfl⟩)⟩, G1.out⟩
  case round =>
    obtain ⟨left, HL, hg⟩ := hrel
    generalize wr = wo at *
    rcases HL.out.1.next 0 with ⟨hl0, rn⟩ | ⟨pre, post, p, w2, hl0, rn, hR2, g2, hz2, re⟩
    · have HB : Hid ((m.all fun p => goodP m p.2) = true) := Lib.hid (by
        rw [List.all_eq_true]
        intro q hq
        rw [HM.out] at hq
        obtain ⟨p, hp, rfl⟩ := List.mem_map.1 hq
        rcases HL.out.2 p hp with h | h
        · rw [hl0] at h; cases h
        · exact h)
      clear HL hl0 r1
      go_wp2_with fail
      go_ret
      exact ⟨by rw [HB.out]; rfl, hg⟩
    · have hmem := HL.out.1.sub keyS p (by rw [hl0]; simp)
      obtain ⟨q, hq, hqe⟩ := List.mem_map.1 hmem
      subst hqe
      obtain ⟨qk, ⟨qA, qn, qc⟩, qs⟩ := q
      have hln := HL.out.1.leftN
      have hg2 : w.grownBy w2 none := hg.andThen g2 (by rintro j ⟨⟩; exact .inl (by rw [HRR.out]; exact Nat.le_refl _))
      have hs := HST.out w2 hg2 _ hq
      have HS := Lib.hid (fun W (g : w2.grownBy W none) => hs.1.kept g)
      have HSL := Lib.hid hs.1.len
      have hle := hs.1.v.le
      have hcap := hs.1.v.cap
      simp only [slv, encS] at HS HSL hle hcap rn re
      have H2 := Lib.hid hR2
      have HP := Lib.hid hq
      have HLL := Lib.hid hl0
      have HLN := Lib.hid hln
      clear hmem hq hs hR2 g2 hz2 hln hl0 r1
      go_wp2_with fail
      go_loopw [17] (fun i wr => ∃ k : Nat, k ≤ qn ∧ i = .int .i64 (k : Int) ∧ Hid (goodP m (qs.take k) = true) ∧ w2.grownBy wr none) (fun i _ => qn - (intOf i).toNat)
      case atStart => exact ⟨0, Nat.zero_le _, rfl, Lib.hid rfl, grown_refl _⟩
      case round =>
        obtain ⟨k, hk, rfl, HA, hg3⟩ := hrel
        have hg4 := hg2.trans hg3
        by_cases hlt : k < qn
        · obtain ⟨ad, s, hs, _, rfl, hb, cs⟩ := (HS.out _ hg3).at k hlt
          obtain ⟨LA, ln, lc, _, lk2, _, _⟩ := (HD.out _ hg4).look s
          have HT := Lib.hid (good_take (m := m) hs)
          have HS1 := Lib.hid hs
          clear rn re hs hb
          cases hv : (m.lookup s).isSome with
          | true =>
            rw [hv] at lk2
            have HA2 : Hid (goodP m (qs.take (k + 1)) = true) := Lib.hid (by rw [HT.out, HA.out, hv]; rfl)
            clear HA HT HS1 hv
            go_wp2_with fail
            go_roundw
            case rel => exact ⟨k + 1, by omega, by go_num, HA2, hg3⟩
            case measure => simp [intOf]; omega
          | false =>
            rw [hv] at lk2
            have HB : Hid ((m.all fun p => goodP m p.2) = false) := Lib.hid (by
              rw [Bool.eq_false_iff]
              intro h
              rw [List.all_eq_true] at h
              have h1 := h (qk, qs) (by rw [HM.out]; exact List.mem_map.2 ⟨_, HP.out, rfl⟩)
              unfold goodP at h1
              rw [List.all_eq_true] at h1
              have h2 := h1 s (List.mem_of_getElem? HS1.out)
              rw [hv] at h2
              cases h2)
            clear HA HT HS1 hv
            go_wp2_with fail
            go_ret
            exact ⟨by rw [HB.out]; rfl, hg4⟩
        · obtain rfl : qn = k := by omega
          have HA2 : Hid (goodP m qs = true) := Lib.hid (by
            have := HA.out
            rw [HSL.out, List.take_length] at this
            exact this)
          have HR3 : Hid (Rng encS wr b R (z.map fun p => (p.1, slv p.2.1)) (pre ++ post)) := Lib.hid (H2.out.kept hg3)
          have HG : Hid (∀ p ∈ z, (p.1, slv p.2.1) ∈ pre ++ post ∨ goodP m p.2.2 = true) := Lib.hid (fun p hp => by
            rcases HL.out.2 p hp with h | h
            · rw [HLL.out] at h
              rcases List.mem_append.1 h with h | h
              · exact .inl (List.mem_append.2 (.inl h))
              · rcases List.mem_cons.1 h with h | h
                · have hk := congrArg Prod.fst h
                  have hv := congrArg Prod.snd h
                  obtain ⟨pk, ⟨pA, pn, pc⟩, ps⟩ := p
                  simp only [slv, Value.slice.injEq] at hk hv
                  obtain ⟨v1, v2, v3⟩ := hv
                  subst v1 v2 v3
                  have e1 := (HST.out w2 hg2 _ hp).1.eq (HS.out w2 (grown_refl _))
                  simp only at e1
                  rw [e1]
                  exact .inr HA2.out
                · exact .inl (List.mem_append.2 (.inr h))
            · exact .inr h)
          have HM2 : Hid (leftN wr R < leftN wo R) := Lib.hid (by rw [HR3.out.leftN, HLN.out, HLL.out]; simp)
          clear HA HL rn re
          go_wp2_with fail
          go_roundw
          case rel => exact ⟨pre ++ post, Lib.hid ⟨HR3.out, HG.out⟩, hg4⟩
          case measure => exact HM2.out
end Go.Proofs.Ytnkemoicgadefaa
