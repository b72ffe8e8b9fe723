/-
  course.follow: its closure, which calls itself.
-/
import Derived.Test.YtnkemoicgadefaaGreatDoorMet
namespace Go.Proofs.YtnkemoicgadefaaGreatDoor
open Go.RowKit
attribute [local go_sem] get_mk extract_mk
def colF (F : List Str) : Str → Option Bool := fun s => if s ∈ F then some true else none
theorem colF_add (F : List Str) (s : Str) : colF (addS F s) = upd (colF F) s true := by
  funext x
  show (if x ∈ addS F s then some true else none) = if x = s then some true else (if x ∈ F then some true else none)
  by_cases e : x = s
  · subst e
    rw [if_pos ((addS_mem _ _ _).2 (.inl rfl)), if_pos rfl]
  · rw [if_neg e]
    by_cases h : x ∈ F
    · rw [if_pos ((addS_mem _ _ _).2 (.inr h)), if_pos h]
    · rw [if_neg (fun k => by rcases (addS_mem _ _ _).1 k with k | k; exact e k; exact h k), if_neg h]
theorem colF_mono {F G : List Str} (h : ∀ s ∈ F, s ∈ G) (U : List Str) : plain U (colF G) ≤ plain U (colF F) := plain_le U (fun s hs => by
  unfold colF at hs ⊢
  by_cases e : s ∈ F
  · rw [if_pos (h s e)]; simp
  · rw [if_neg e] at hs; exact absurd rfl hs)
theorem addS_nodup {S : List Str} (h : S.Nodup) (k : Str) : (addS S k).Nodup := by
  unfold addS
  split
  · exact h
  · rename_i hk
    rw [List.nodup_append]
    exact ⟨h, by simp, fun a ha b hb e => by simp at hb; subst hb; subst e; exact hk ha⟩
theorem lookS {w : World} {b : Nat} {S : List Str} (h : SetD encS w b S) (s : Str) (v : Bool) (hv : v = true ↔ s ∈ S) : (Instr.lookup 78 (.map (some b)) (.string ⟨s.toArray⟩) false).run Tryz.prog w = .ok (.bool v) w := by
  have := SetD.look keyS und46 h s
  unfold encS at this
  have e : ∀ i : Decidable (s ∈ S), @decide (s ∈ S) i = v := fun i => by rw [Bool.eq_iff_iff, hv, decide_eq_true_eq]
  rw [this, e]
structure Fol (P1 P2 P3 P4 bf b : Nat) (m : List (Str × List Str)) (w : World) (F : List Str) : Prop where
  c2 : w.cell? ⟨P2, 0, none⟩ = some (.map (some b))
  c3 : w.cell? ⟨P3, 0, none⟩ = some (.map (some bf))
  c4 : w.cell? ⟨P4, 0, none⟩ = some (.func (.func 82) #[] #[.pointer (some ⟨P1, 0, none⟩), .pointer (some ⟨P2, 0, none⟩), .pointer (some ⟨P3, 0, none⟩), .pointer (some ⟨P4, 0, none⟩)])
  dir : Dir w b m
  set : SetD encS w bf F
  ne : b ≠ bf
theorem Fol.next {P1 P2 P3 P4 bf b : Nat} {m : List (Str × List Str)} {w w' : World} {F F' : List Str} (h : Fol P1 P2 P3 P4 bf b m w F) (g : w.grownBy w' (some bf)) (hc : SetD encS w' bf F') : Fol P1 P2 P3 P4 bf b m w' F' :=
  ⟨gcellm (Dict.map h.set) g h.c2, gcellm (Dict.map h.set) g h.c3, gcellm (Dict.map h.set) g h.c4, h.dir.keptm (Dict.map h.set) h.ne g, hc, h.ne⟩
/-- what a visit adds -/
structure Adds (f : Str → List Str) (code : Str) (F F' : List Str) : Prop where
  old : ∀ s ∈ F, s ∈ F'
  nd : F.Nodup → F'.Nodup
  dir : ∀ s ∈ f code, s ∈ F'
  new : ∀ s ∈ F', s ∈ F ∨ (Leads f code s ∧ ∀ x ∈ f s, x ∈ F')
def FolR (f : Str → List Str) (bf : Nat) (F : List Str) (code : Str) (w : World) (e : Ending) (w' : World) : Prop :=
  e = .returned (.tuple #[]) ∧ w.grownBy w' (some bf) ∧ ∃ F', SetD encS w' bf F' ∧ Adds f code F F'
set_option maxRecDepth 100000 in
set_option maxHeartbeats 1000000 in
theorem fol_k (P1 P2 P3 P4 bf b : Nat) (m : List (Str × List Str)) (f : Str → List Str) (hf : ∀ c, f c = (m.lookup c).getD []) (U : List Str) (hU : ∀ s, ∀ x ∈ f s, x ∈ U) :
    ∀ (N : Nat) (w : World) (code : Str) (d : Nat) (F : List Str), Fol P1 P2 P3 P4 bf b m w F → plain U (colF F) ≤ N → d + N ≤ 1000 →
      Calls Tryz.prog 82 #[.string ⟨code.toArray⟩, .int .i64 d, .pointer (some ⟨P1, 0, none⟩), .pointer (some ⟨P2, 0, none⟩), .pointer (some ⟨P3, 0, none⟩), .pointer (some ⟨P4, 0, none⟩)] w (FolR f bf F code w) := by
  intro N
  induction N with
  | zero =>
    intro w code d F hv hN hd
    obtain ⟨LA, ln, lc, lk2, _, hst, _⟩ := hv.dir.look code
    rw [← hf code] at hst
    have c2 := hv.c2
    have HV := Lib.hid hv
    have HSL := Lib.hid hst.len
    have hle := hst.v.le
    have hcap := hst.v.cap
    have HST := Lib.hid (fun W (g : w.grownBy W (some bf)) => hst.keptm (Dict.map hv.set) g)
    have HN := Lib.hid hN
    have hdd : decide ((d : Int) > 1000) = false := decide_eq_false (by omega)
    clear hv hN hst
    go_enter Tryz.func82, Tryz.ntmps82
    go_wp2_with fail
    clear lk2 c2
    go_loopw [20] (fun i wr => ∃ (k : Nat) (Fk : List Str), k ≤ ln ∧ i = .int .i64 (k : Int) ∧ Hid (Fol P1 P2 P3 P4 bf b m wr Fk ∧ ((∀ s ∈ F, s ∈ Fk) ∧ (F.Nodup → Fk.Nodup)) ∧ (∀ s ∈ (f code).take k, s ∈ Fk) ∧ (∀ s ∈ Fk, s ∈ F ∨ (Leads f code s ∧ ∀ x ∈ f s, x ∈ Fk))) ∧ Hid (w.grownBy wr (some bf))) (fun i _ => ln - (intOf i).toNat)
    case atStart => exact ⟨0, F, Nat.zero_le _, rfl, Lib.hid ⟨HV.out, ⟨fun _ h => h, fun h => h⟩, (fun s h => by simp at h), fun s h => .inl h⟩, Lib.hid (World.grownBy.refl _ _)⟩
    case round =>
      obtain ⟨k, Fk, hk, rfl, HR, HG⟩ := hrel
      by_cases hlt : k < ln
      · obtain ⟨ad, s, hs, _, rfl, hb, cs⟩ := (HST.out _ HG.out).at k hlt
        have HS := Lib.hid hs
        have c3 := HR.out.1.c3
        have lk3 := lookS HR.out.1.set s
        clear hs hb
        by_cases hm : s ∈ Fk
        · have lk3 := lk3 true (by simpa using hm)
          have HR2 : Hid (Fol P1 P2 P3 P4 bf b m wr Fk ∧ ((∀ s ∈ F, s ∈ Fk) ∧ (F.Nodup → Fk.Nodup)) ∧ (∀ s ∈ (f code).take (k + 1), s ∈ Fk) ∧ (∀ s ∈ Fk, s ∈ F ∨ (Leads f code s ∧ ∀ x ∈ f s, x ∈ Fk))) := Lib.hid ⟨HR.out.1, HR.out.2.1, fun x hx => by
            rw [take_snoc HS.out] at hx
            rcases List.mem_append.1 hx with hx | hx
            · exact HR.out.2.2.1 x hx
            · obtain rfl := List.mem_singleton.1 hx
              exact hm, HR.out.2.2.2⟩
          clear HR hm HS
          go_wp2_with fail
          go_roundw
          case rel => exact ⟨k + 1, Fk, by omega, by go_num, HR2, HG⟩
          case measure => simp [intOf]; omega
        · have lk3 := lk3 false (by simpa using hm)
          have hsf : s ∈ f code := List.mem_of_getElem? HS.out
          have hpl := plain_lt U (a := colF Fk) (c := s) (by unfold colF; rw [if_neg hm]) (hU code s hsf) true
          rw [← colF_add] at hpl
          have hmono := colF_mono HR.out.2.1.1 U
          have hNN := HN.out
          omega
      · obtain rfl : ln = k := by omega
        have HE : Hid (Fol P1 P2 P3 P4 bf b m wr Fk ∧ Adds f code F Fk) := Lib.hid ⟨HR.out.1, HR.out.2.1.1, HR.out.2.1.2, fun s hs => HR.out.2.2.1 s (by rw [HSL.out, List.take_length]; exact hs), HR.out.2.2.2⟩
        clear HR
        go_wp2_with fail
        first | go_end0 | (refine bodyPost_ret (results_none rfl _ _ _) rfl ?_)
        exact ⟨rfl, HG.out, Fk, HE.out.1.set, HE.out.2⟩
  | succ N ih =>
    intro w code d F hv hN hd
    have IH := Lib.hid ih
    obtain ⟨LA, ln, lc, lk2, _, hst, _⟩ := hv.dir.look code
    rw [← hf code] at hst
    have c2 := hv.c2
    have HV := Lib.hid hv
    have HSL := Lib.hid hst.len
    have hle := hst.v.le
    have hcap := hst.v.cap
    have HST := Lib.hid (fun W (g : w.grownBy W (some bf)) => hst.keptm (Dict.map hv.set) g)
    have HN := Lib.hid hN
    have hdd : decide ((d : Int) > 1000) = false := decide_eq_false (by omega)
    clear hv hN hst ih
    go_enter Tryz.func82, Tryz.ntmps82
    go_wp2_with fail
    clear lk2 c2
    go_loopw [20] (fun i wr => ∃ (k : Nat) (Fk : List Str), k ≤ ln ∧ i = .int .i64 (k : Int) ∧ Hid (Fol P1 P2 P3 P4 bf b m wr Fk ∧ ((∀ s ∈ F, s ∈ Fk) ∧ (F.Nodup → Fk.Nodup)) ∧ (∀ s ∈ (f code).take k, s ∈ Fk) ∧ (∀ s ∈ Fk, s ∈ F ∨ (Leads f code s ∧ ∀ x ∈ f s, x ∈ Fk))) ∧ Hid (w.grownBy wr (some bf))) (fun i _ => ln - (intOf i).toNat)
    case atStart => exact ⟨0, F, Nat.zero_le _, rfl, Lib.hid ⟨HV.out, ⟨fun _ h => h, fun h => h⟩, (fun s h => by simp at h), fun s h => .inl h⟩, Lib.hid (World.grownBy.refl _ _)⟩
    case round =>
      obtain ⟨k, Fk, hk, rfl, HR, HG⟩ := hrel
      by_cases hlt : k < ln
      · obtain ⟨ad, s, hs, _, rfl, hb, cs⟩ := (HST.out _ HG.out).at k hlt
        have HS := Lib.hid hs
        have c3 := HR.out.1.c3
        have lk3 := lookS HR.out.1.set s
        clear hs hb
        by_cases hm : s ∈ Fk
        · have lk3 := lk3 true (by simpa using hm)
          have HR2 : Hid (Fol P1 P2 P3 P4 bf b m wr Fk ∧ ((∀ s ∈ F, s ∈ Fk) ∧ (F.Nodup → Fk.Nodup)) ∧ (∀ s ∈ (f code).take (k + 1), s ∈ Fk) ∧ (∀ s ∈ Fk, s ∈ F ∨ (Leads f code s ∧ ∀ x ∈ f s, x ∈ Fk))) := Lib.hid ⟨HR.out.1, HR.out.2.1, fun x hx => by
            rw [take_snoc HS.out] at hx
            rcases List.mem_append.1 hx with hx | hx
            · exact HR.out.2.2.1 x hx
            · obtain rfl := List.mem_singleton.1 hx
              exact hm, HR.out.2.2.2⟩
          clear HR hm HS
          go_wp2_with fail
          go_roundw
          case rel => exact ⟨k + 1, Fk, by omega, by go_num, HR2, HG⟩
          case measure => simp [intOf]; omega
        · have lk3 := lk3 false (by simpa using hm)
          have hsf : s ∈ f code := List.mem_of_getElem? HS.out
          have hpl := plain_lt U (a := colF Fk) (c := s) (by unfold colF; rw [if_neg hm]) (hU code s hsf) true
          rw [← colF_add] at hpl
          have hmono := colF_mono HR.out.2.1.1 U
          have hNN := HN.out
          obtain ⟨w3, r3, hd3, g3, hz3⟩ := SetD.put keyS und46 HR.out.1.set s
          unfold encS at r3
          have HF3 := Lib.hid (HR.out.1.next g3 hd3)
          have c4 := HF3.out.c4
          have HC := Lib.hid (IH.out w3 s (d + 1) (addS Fk s) HF3.out (by omega) (by omega))
          have hw1 : IntKind.i64.wrap ((d : Int) + 1) = (d : Int) + 1 := by rw [IntKind.wrap_i64]; omega
          have hw2 : ((d + 1 : Nat) : Int) = (d : Int) + 1 := by omega
          rw [hw2] at HC
          have HSF := Lib.hid hsf
          have G3 := Lib.hid g3
          clear hm hsf hpl hmono hNN hd3 g3 hz3 hw2
          go_wp2_with fail
          refine HC.out.mono ?_
          rintro e w4 ⟨rfl, g4, F4, hs4, ha⟩
          have HR2 : Hid (Fol P1 P2 P3 P4 bf b m w4 F4 ∧ ((∀ s ∈ F, s ∈ F4) ∧ (F.Nodup → F4.Nodup)) ∧ (∀ s ∈ (f code).take (k + 1), s ∈ F4) ∧ (∀ s ∈ F4, s ∈ F ∨ (Leads f code s ∧ ∀ x ∈ f s, x ∈ F4))) := Lib.hid (by
            have hin : ∀ x ∈ Fk, x ∈ F4 := fun x hx => ha.old x ((addS_mem _ _ _).2 (.inr hx))
            refine ⟨HF3.out.next g4 hs4, ⟨fun x hx => hin x (HR.out.2.1.1 x hx), fun h => ha.nd (addS_nodup (HR.out.2.1.2 h) s)⟩, fun x hx => ?_, fun x hx => ?_⟩
            · rw [take_snoc HS.out] at hx
              rcases List.mem_append.1 hx with hx | hx
              · exact hin x (HR.out.2.2.1 x hx)
              · obtain rfl := List.mem_singleton.1 hx
                exact ha.old x ((addS_mem _ _ _).2 (.inl rfl))
            · rcases ha.new x hx with h | ⟨h1, h2⟩
              · rcases (addS_mem _ _ _).1 h with h | h
                · subst h
                  exact .inr ⟨.one HSF.out, ha.dir⟩
                · rcases HR.out.2.2.2 x h with h | ⟨h1, h2⟩
                  · exact .inl h
                  · exact .inr ⟨h1, fun y hy => hin y (h2 y hy)⟩
              · exact .inr ⟨h1.head HSF.out, h2⟩)
          have HG4 := Lib.hid ((HG.out.trans G3.out).trans g4)
          clear HC HR HF3 HG G3 g4 hs4 ha c3 c4 r3 lk3 HS HSF
          go_wp2_with fail
          go_roundw
          case rel => exact ⟨k + 1, F4, by omega, by go_num, HR2, HG4⟩
          case measure => simp [intOf]; omega
      · obtain rfl : ln = k := by omega
        have HE : Hid (Fol P1 P2 P3 P4 bf b m wr Fk ∧ Adds f code F Fk) := Lib.hid ⟨HR.out.1, HR.out.2.1.1, HR.out.2.1.2, fun s hs => HR.out.2.2.1 s (by rw [HSL.out, List.take_length]; exact hs), HR.out.2.2.2⟩
        clear HR
        go_wp2_with fail
        first | go_end0 | (refine bodyPost_ret (results_none rfl _ _ _) rfl ?_)
        exact ⟨rfl, HG.out, Fk, HE.out.1.set, HE.out.2⟩
end Go.Proofs.YtnkemoicgadefaaGreatDoor
