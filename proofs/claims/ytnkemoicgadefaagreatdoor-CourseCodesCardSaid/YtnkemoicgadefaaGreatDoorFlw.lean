/-
  course.follow.
-/
import Derived.Test.YtnkemoicgadefaaGreatDoorFol
import Derived.Laws.EntriesVeiled
namespace Go.Proofs.YtnkemoicgadefaaGreatDoor
open Go.RowKit
attribute [local go_sem] get_mk extract_mk
theorem setd_of (w : World) : ∃ w1, w1 = w.alloc (.map #[] 0) ∧ SetD encS w1 w.heap.size [] ∧ w.grownBy w1 none := ⟨_, rfl, Dict.made w, World.grownBy_alloc _ _ none⟩
set_option maxRecDepth 100000 in
set_option maxHeartbeats 1000000 in
theorem follow_k (b : Nat) (m : List (Str × List Str)) (f : Str → List Str) (hf : ∀ c, f c = (m.lookup c).getD []) (U : List Str) (hU : ∀ s, ∀ x ∈ f s, x ∈ U) (hU9 : U.length ≤ 999) (code : Str) (w : World) (h : Dir w b m) :
    Calls Tryz.prog 51 #[.map (some b), .string ⟨code.toArray⟩] w fun e w' => ∃ bf F, e = .returned (.map (some bf)) ∧ w.heap.size ≤ bf ∧ SetD encS w' bf F ∧ F.Nodup ∧ (∀ s, s ∈ F ↔ Leads f code s) ∧ w.grownBy w' none := by
  have HD := Lib.hid (fun W (g : w.grownBy W none) => h.kept g)
  have hblt : b < w.heap.size := by
    obtain ⟨z, hz, _⟩ := h
    exact hz.lt
  obtain ⟨w1, e1, HP2, g1⟩ := row_of w 75 #[.map (some b)]
  obtain ⟨w2, e2, HC2, g2⟩ := setd_of w1
  have s1 : w1.heap.size = w.heap.size + 1 := by rw [e1]; simp
  rw [s1] at HC2
  obtain ⟨w3, e3, HP3, g3⟩ := row_of w2 78 #[.map (some (w.heap.size + 1))]
  have s2 : w2.heap.size = w.heap.size + 1 + 1 := by rw [e2]; simp [s1]
  rw [s2] at HP3
  have s3 : w3.heap.size = w.heap.size + 1 + 1 + 1 := by rw [e3]; simp [s2]
  obtain ⟨w4, e4, HS, g4⟩ := row_of w3 9 #[.string ⟨code.toArray⟩]
  rw [s3] at HS
  have s4 : w4.heap.size = w.heap.size + 1 + 1 + 1 + 1 := by rw [e4]; simp [s3]
  obtain ⟨w5, e5, HP1, g5⟩ := row_of w4 37 #[.slice (some ⟨w.heap.size + 1 + 1 + 1, 0, none⟩) 1 1]
  rw [s4] at HP1
  have s5 : w5.heap.size = w.heap.size + 1 + 1 + 1 + 1 + 1 := by rw [e5]; simp [s4]
  obtain ⟨w6, e6, HPN, g6⟩ := row_of w5 109 #[.nilFunc]
  rw [s5] at HPN
  have E1 := Lib.hid e1
  have E2 := Lib.hid e2
  have E3 := Lib.hid e3
  have E4 := Lib.hid e4
  have E5 := Lib.hid e5
  have E6 := Lib.hid e6
  clear e1 e2 e3 e4 e5 e6 h
  have hmm := @run_makeMap Tryz.prog
  go_enter Tryz.func51, Tryz.ntmps51
  go_upto_region 1 with fail
  rw [← E1.out]
  go_upto_region 2 with fail
  rw [← E2.out, ← E3.out]
  go_upto_region 3 with fail
  rw [← E4.out, ← E5.out]
  go_upto_region 4 with fail
  rw [← E6.out]
  have n0 := HPN.c 0 rfl
  have n1 := HPN.fz 0
  have n2 := HPN.lt
  go_wp2_with fail
  clear E1 E2 E3 E4 E5 E6 s1 s2 s3 s4 s5 hmm n0 n1 n2
  have HP4 := HPN.set 0 (.func (.func 82) #[] #[.pointer (some ⟨w.heap.size + 1 + 1 + 1 + 1, 0, none⟩), .pointer (some ⟨w.heap.size, 0, none⟩), .pointer (some ⟨w.heap.size + 1 + 1, 0, none⟩), .pointer (some ⟨w.heap.size + 1 + 1 + 1 + 1 + 1, 0, none⟩)])
  have g7 := grown_setCell w6 (w.heap.size + 1 + 1 + 1 + 1 + 1) 0 (.func (.func 82) #[] #[.pointer (some ⟨w.heap.size + 1 + 1 + 1 + 1, 0, none⟩), .pointer (some ⟨w.heap.size, 0, none⟩), .pointer (some ⟨w.heap.size + 1 + 1, 0, none⟩), .pointer (some ⟨w.heap.size + 1 + 1 + 1 + 1 + 1, 0, none⟩)])
  generalize w6.setCell ⟨w.heap.size + 1 + 1 + 1 + 1 + 1, 0, none⟩ (.func (.func 82) #[] #[.pointer (some ⟨w.heap.size + 1 + 1 + 1 + 1, 0, none⟩), .pointer (some ⟨w.heap.size, 0, none⟩), .pointer (some ⟨w.heap.size + 1 + 1, 0, none⟩), .pointer (some ⟨w.heap.size + 1 + 1 + 1 + 1 + 1, 0, none⟩)]) = w7 at *
  have G7 := Lib.hid ((((((g1.trans g2).trans g3).trans g4).trans g5).trans g6).andThen g7 (by rintro j ⟨⟩; exact .inl (by omega)))
  have HV : Hid (Fol (w.heap.size + 1 + 1 + 1 + 1) w.heap.size (w.heap.size + 1 + 1) (w.heap.size + 1 + 1 + 1 + 1 + 1) (w.heap.size + 1) b m w7 []) := Lib.hid
    ⟨((((((HP2.kept g2).kept g3).kept g4).kept g5).kept g6).keptR g7 (by simp <;> omega)).c 0 rfl, ((((HP3.kept g4).kept g5).kept g6).keptR g7 (by simp)).c 0 rfl, HP4.c 0 rfl, HD.out _ G7.out, Dict.keptR (((((Dict.kept HC2 g3).kept g4).kept g5).kept g6)) g7 (by simp), by omega⟩
  have HS7 := Lib.hid (((HS.kept g5).kept g6).keptR g7 (by simp))
  have HL7 := Lib.hid ((HP1.kept g6).keptR g7 (by simp))
  have HSZ : Hid (w.heap.size ≤ w.heap.size + 1 ∧ w.heap.size ≤ w.heap.size + 1 + 1 + 1 + 1 ∧ b ≠ w.heap.size + 1 ∧ b ≠ w.heap.size + 1 + 1 + 1 + 1) := Lib.hid ⟨by omega, by omega, by omega, by omega⟩
  have HNE : Hid (w.heap.size ≠ w.heap.size + 1 + 1 + 1 + 1 ∧ w.heap.size + 1 + 1 ≠ w.heap.size + 1 + 1 + 1 + 1 ∧ w.heap.size + 1 + 1 + 1 + 1 + 1 ≠ w.heap.size + 1 + 1 + 1 + 1 ∧ w.heap.size + 1 + 1 + 1 ≠ w.heap.size + 1 + 1 + 1 + 1 ∧ w.heap.size + 1 ≠ w.heap.size + 1 + 1 + 1 + 1) := Lib.hid ⟨by omega, by omega, by omega, by omega, by omega⟩
  clear HP1 HP2 HP3 HPN HP4 HS HC2 g1 g2 g3 g4 g5 g6 g7 hblt
  generalize w.heap.size + 1 + 1 + 1 + 1 + 1 = P4 at *
  generalize w.heap.size + 1 + 1 + 1 + 1 = P1 at *
  generalize w.heap.size + 1 + 1 + 1 = S at *
  generalize w.heap.size + 1 + 1 = P3 at *
  generalize w.heap.size + 1 = bf at *
  generalize hP2 : w.heap.size = P2 at *
  have HP2 := Lib.hid hP2
  have HF := Lib.hid hf
  have HU := Lib.hid hU
  have HU9 := Lib.hid hU9
  clear hP2 hf hU hU9
  go_loopw [] (fun wr => ∃ (j : Nat) (F : List Str), j ≤ 1 ∧ Hid (Fol P1 P2 P3 P4 bf b m wr F ∧ (j = 1 → F = []) ∧ (j = 0 → Adds f code [] F)) ∧ Hid (Row wr S 9 #[.string ⟨code.toArray⟩]) ∧ Hid (Row wr P1 37 #[.slice (some ⟨S, 0, none⟩) j 1]) ∧ Hid (w.grownBy wr none)) (fun wr => match wr.cell? ⟨P1, 0, none⟩ with | some (.slice _ n _) => n | _ => 0)
  case atStart => exact ⟨1, [], by omega, Lib.hid ⟨HV.out, fun _ => rfl, fun h => by cases h⟩, HS7, HL7, G7⟩
  case round =>
    clear HV HS7 HL7 G7
    obtain ⟨j, F, hj, HR, HS, HL, HG⟩ := hrel
    generalize wr = wo at *
    have HML : Hid ((match wo.cell? ⟨P1, 0, none⟩ with | some (.slice _ n _) => n | _ => 0) = j) := Lib.hid (by rw [HL.out.c 0 rfl]; rfl)
    match j, hj with
    | 0, _ =>
      have p0 := HL.out.c 0 rfl
      have c3 := HR.out.1.c3
      have HA := Lib.hid (HR.out.2.2 rfl)
      have HE : Hid (SetD encS wo bf F ∧ F.Nodup ∧ ∀ s, s ∈ F ↔ Leads f code s) := Lib.hid ⟨HR.out.1.set, HA.out.nd (by simp), fun s => ⟨fun hs => by
        rcases HA.out.new s hs with h | h
        · cases h
        · exact h.1, fun hl => hl.inv (P := fun x => x ∈ F) HA.out.dir (fun x hx y hy => by
        rcases HA.out.new x hx with h | h
        · cases h
        · exact h.2 y hy)⟩⟩
      clear HR HA HS HL HML
      go_wp2_with fail
      go_ret
      exact ⟨bf, F, rfl, by rw [HP2.out]; exact HSZ.out.1, HE.out.1, HE.out.2.1, HE.out.2.2, HG.out⟩
    | 1, _ =>
      have p0 := HL.out.c 0 rfl
      have f0 := HL.out.fz 0
      have plt := HL.out.lt
      have q0 := HS.out.c 0 rfl
      have HF0 := Lib.hid (HR.out.2.1 rfl)
      have g8 := grown_setCell wo P1 0 (.slice (some ⟨S, 0, none⟩) 0 1)
      have HL8 := Lib.hid (HL.out.set 0 (.slice (some ⟨S, 0, none⟩) 0 1))
      have HG8 := Lib.hid (HG.out.andThen g8 (by rintro j ⟨⟩; exact .inl (by rw [HP2.out]; exact HSZ.out.2.1)))
      have HS8 := Lib.hid (HS.out.keptR g8 (by simpa using HNE.out.2.2.2.1))
      have HR8 : Hid (Fol P1 P2 P3 P4 bf b m (wo.setCell ⟨P1, 0, none⟩ (.slice (some ⟨S, 0, none⟩) 0 1)) F) := Lib.hid
        ⟨g8.cell HR.out.1.c2 (by simpa using HNE.out.1), g8.cell HR.out.1.c3 (by simpa using HNE.out.2.1), g8.cell HR.out.1.c4 (by simpa using HNE.out.2.2.1), HD.out _ HG8.out, Dict.keptR HR.out.1.set g8 (by simpa using HNE.out.2.2.2.2), HR.out.1.ne⟩
      clear HR HS HL HG g8
      go_upto_region 8 with fail
      generalize wo.setCell ⟨P1, 0, none⟩ (.slice (some ⟨S, 0, none⟩) 0 1) = w8 at *
      have c4 := HR8.out.c4
      have HC := Lib.hid (fol_k P1 P2 P3 P4 bf b m f HF.out U HU.out 999 w8 code 1 F HR8.out (Nat.le_trans (plain_all _ _) HU9.out) (by omega))
      clear p0 f0 plt q0
      go_wp2_with fail
      refine HC.out.mono ?_
      rintro e w9 ⟨rfl, g9, F9, hs9, ha⟩
      have hm := Dict.map HR8.out.set
      have HF9 := Lib.hid (HR8.out.next g9 hs9)
      have HA9 : Hid (Adds f code [] F9) := Lib.hid (by rw [HF0.out] at ha; exact ha)
      have HS9 := Lib.hid (HS8.out.keptm hm g9)
      have HL9 := Lib.hid (HL8.out.keptm hm g9)
      have HG9 := Lib.hid (HG8.out.andThen g9 (by rintro j ⟨⟩; exact .inl (by rw [HP2.out]; exact HSZ.out.1)))
      have HM9 : Hid ((match w9.cell? ⟨P1, 0, none⟩ with | some (.slice _ n _) => n | _ => 0) = 0) := Lib.hid (by rw [HL9.out.c 0 rfl]; rfl)
      clear HC g9 hs9 ha hm HR8 HS8 HL8 HG8 c4 HF0
      go_wp2_with fail
      go_roundw
      case rel => exact ⟨0, F9, by omega, Lib.hid ⟨HF9.out, (fun h => by cases h), fun _ => HA9.out⟩, HS9, HL9, HG9⟩
      case measure =>
        show (match w9.cell? ⟨P1, 0, none⟩ with | some (.slice _ n _) => n | _ => 0) < (match wo.cell? ⟨P1, 0, none⟩ with | some (.slice _ n _) => n | _ => 0)
        rw [HM9.out, HML.out]
        omega
end Go.Proofs.YtnkemoicgadefaaGreatDoor
