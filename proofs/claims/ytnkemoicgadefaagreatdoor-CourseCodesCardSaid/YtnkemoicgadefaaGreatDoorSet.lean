/-
  Sets; where an offer stands; allIn, Met, Clash.
-/
import Derived.Test.YtnkemoicgadefaaGreatDoorChk
namespace Go.Proofs.YtnkemoicgadefaaGreatDoor
open Go.RowKit
attribute [local go_sem] get_mk extract_mk
section
variable {κ : Type} [DecidableEq κ] {K T : TypeId} {d : TypeDesc} {enc : κ → Value}
/-- block b is the set S -/
def SetD (enc : κ → Value) (w : World) (b : Nat) (S : List κ) : Prop := Dict enc w b (S.map fun s => (s, Value.bool true))
def addS (S : List κ) (k : κ) : List κ := if k ∈ S then S else S ++ [k]
theorem putS : ∀ (S : List κ) (k : κ), putL (S.map fun s => (s, Value.bool true)) k (.bool true) = (addS S k).map fun s => (s, Value.bool true)
  | [], k => rfl
  | a :: S, k => by
    have ih := putS S k
    simp only [List.map_cons, putL]
    unfold addS at ih ⊢
    by_cases e : k = a
    · subst e
      rw [if_pos rfl, if_pos (by simp)]
      rfl
    · rw [if_neg e, ih]
      by_cases h : k ∈ S
      · rw [if_pos h, if_pos (by simp [h])]
        rfl
      · rw [if_neg h, if_neg (by simp [h, e])]
        rfl
theorem addS_mem (S : List κ) (k s : κ) : s ∈ addS S k ↔ s = k ∨ s ∈ S := by
  unfold addS
  split
  · rename_i h
    exact ⟨.inr, fun e => by rcases e with rfl | e; exact h; exact e⟩
  · simp [or_comm]
theorem lkS : ∀ (S : List κ) (k : κ), (lk (S.map fun s => (s, Value.bool true)) k).getD (.bool false) = .bool (decide (k ∈ S))
  | [], k => by simp [lk]
  | a :: S, k => by
    simp only [List.map_cons, lk]
    by_cases e : k = a
    · subst e; simp
    · rw [if_neg e, lkS S k]
      simp [e]
theorem SetD.look (C : KeyT K d enc) (hT : Tryz.prog.underlying T = some (.map K 4)) {w : World} {b : Nat} {S : List κ} (h : SetD enc w b S) (k : κ) : (Instr.lookup T (.map (some b)) (enc k) false).run Tryz.prog w = .ok (.bool (decide (k ∈ S))) w := by
  have := Dict.look C hT h (zero4 w) k false
  rw [lkS] at this
  exact this
theorem SetD.put (C : KeyT K d enc) (hT : Tryz.prog.underlying T = some (.map K 4)) {w : World} {b : Nat} {S : List κ} (h : SetD enc w b S) (k : κ) :
    ∃ w', (Instr.mapUpdate T (.map (some b)) (enc k) (.bool true)).run Tryz.prog w = .ok () w' ∧ SetD enc w' b (addS S k) ∧ w.grownBy w' (some b) ∧ w'.heap.size = w.heap.size := by
  obtain ⟨w', r, hd, g, hz⟩ := Dict.put C hT h k (.bool true)
  rw [putS] at hd
  exact ⟨w', r, hd, g, hz⟩
end
set_option maxRecDepth 100000 in
theorem setS_k (A : Option Addr) (n c : Nat) (l : List Str) (w : World) (h : Strs w A n c l) :
    Calls Tryz.prog 57 #[.slice A n c] w fun e w' => ∃ b S, e = .returned (.map (some b)) ∧ w.heap.size ≤ b ∧ SetD encS w' b S ∧ (∀ s, s ∈ S ↔ s ∈ l) ∧ w.grownBy w' none := by
  have HO := Lib.hid (fun W (g : w.grownBy W none) => h.kept g)
  have HL := Lib.hid h.len
  have hle := h.v.le
  have hcap := h.v.cap
  clear h
  have hmm := makeMap_k und46 (n : Int)
  have hg0 := World.grownBy_alloc w (.map #[] 0) none
  have hd0 : SetD encS (w.alloc (.map #[] 0)) w.heap.size [] := Dict.made w
  generalize hw1 : w.alloc (.map #[] 0) = w1 at *
  have hmm2 := hmm w
  rw [hw1] at hmm2
  clear hmm hw1
  generalize hbb : w.heap.size = b at *
  have HBB := Lib.hid hbb
  have HD0 := Lib.hid hd0
  have HG0 := Lib.hid hg0
  clear hbb hd0 hg0
  go_enter Tryz.func57, Tryz.ntmps57
  go_wp2_with fail
  go_loopw [11] (fun z wr => ∃ (k : Nat) (S : List Str), k ≤ n ∧ z = .int .i64 (k : Int) ∧ Hid (SetD encS wr b S ∧ ∀ s, s ∈ S ↔ s ∈ l.take k) ∧ Hid (w.grownBy wr none)) (fun z _ => n - (intOf z).toNat)
  case atStart => exact ⟨0, [], Nat.zero_le _, rfl, Lib.hid ⟨HD0.out, by simp⟩, HG0⟩
  case round =>
    obtain ⟨k, S, hk, rfl, HD, HG⟩ := hrel
    clear hmm2 HD0 HG0
    by_cases hlt : k < n
    · obtain ⟨ad, x, hx, _, rfl, hbl, x0⟩ := (HO.out _ HG.out).at k hlt
      obtain ⟨w3, r3, hd3, g3, hz3⟩ := SetD.put keyS und46 HD.out.1 x
      have HD3 : Hid (SetD encS w3 b (addS S x) ∧ ∀ s, s ∈ addS S x ↔ s ∈ l.take (k + 1)) := Lib.hid ⟨hd3, fun s => by rw [addS_mem, HD.out.2, take_snoc hx]; simp [or_comm]⟩
      have HG3 := Lib.hid (HG.out.andThen g3 (by rintro j ⟨⟩; exact .inl (by rw [HBB.out]; exact Nat.le_refl _)))
      unfold encS at r3
      clear HD HG hd3 g3 hz3 hx hbl
      go_wp2_with fail
      go_roundw
      case rel => exact ⟨k + 1, _, by omega, by go_num, HD3, HG3⟩
      case measure => simp [intOf]; omega
    · obtain rfl : n = k := by omega
      have HD2 : Hid (SetD encS wr b S ∧ ∀ s, s ∈ S ↔ s ∈ l) := Lib.hid (by
        have := HD.out
        rw [HL.out, List.take_length] at this
        exact this)
      clear HD
      go_wp2_with fail
      go_ret
      exact ⟨b, S, rfl, Nat.le_refl _, HD2.out.1, HD2.out.2, HG.out⟩
set_option maxRecDepth 100000 in
theorem setI_k (A : Option Addr) (n c : Nat) (l : List Int) (w : World) (h : Ints w A n c l) :
    Calls Tryz.prog 58 #[.slice A n c] w fun e w' => ∃ b S, e = .returned (.map (some b)) ∧ w.heap.size ≤ b ∧ SetD encI w' b S ∧ (∀ s, s ∈ S ↔ s ∈ l) ∧ w.grownBy w' none := by
  have HO := Lib.hid (fun W (g : w.grownBy W none) => h.kept g)
  have HL := Lib.hid h.len
  have hle := h.v.le
  have hcap := h.v.cap
  clear h
  have hmm := makeMap_k und79 (n : Int)
  have hg0 := World.grownBy_alloc w (.map #[] 0) none
  have hd0 : SetD encI (w.alloc (.map #[] 0)) w.heap.size [] := Dict.made w
  generalize hw1 : w.alloc (.map #[] 0) = w1 at *
  have hmm2 := hmm w
  rw [hw1] at hmm2
  clear hmm hw1
  generalize hbb : w.heap.size = b at *
  have HBB := Lib.hid hbb
  have HD0 := Lib.hid hd0
  have HG0 := Lib.hid hg0
  clear hbb hd0 hg0
  go_enter Tryz.func58, Tryz.ntmps58
  go_wp2_with fail
  go_loopw [11] (fun z wr => ∃ (k : Nat) (S : List Int), k ≤ n ∧ z = .int .i64 (k : Int) ∧ Hid (SetD encI wr b S ∧ ∀ s, s ∈ S ↔ s ∈ l.take k) ∧ Hid (w.grownBy wr none)) (fun z _ => n - (intOf z).toNat)
  case atStart => exact ⟨0, [], Nat.zero_le _, rfl, Lib.hid ⟨HD0.out, by simp⟩, HG0⟩
  case round =>
    obtain ⟨k, S, hk, rfl, HD, HG⟩ := hrel
    clear hmm2 HD0 HG0
    by_cases hlt : k < n
    · obtain ⟨ad, x, hx, _, rfl, hbl, x0⟩ := (HO.out _ HG.out).at k hlt
      obtain ⟨w3, r3, hd3, g3, hz3⟩ := SetD.put keyI und79 HD.out.1 x
      have HD3 : Hid (SetD encI w3 b (addS S x) ∧ ∀ s, s ∈ addS S x ↔ s ∈ l.take (k + 1)) := Lib.hid ⟨hd3, fun s => by rw [addS_mem, HD.out.2, take_snoc hx]; simp [or_comm]⟩
      have HG3 := Lib.hid (HG.out.andThen g3 (by rintro j ⟨⟩; exact .inl (by rw [HBB.out]; exact Nat.le_refl _)))
      unfold encI at r3
      clear HD HG hd3 g3 hz3 hx hbl
      go_wp2_with fail
      go_roundw
      case rel => exact ⟨k + 1, _, by omega, by go_num, HD3, HG3⟩
      case measure => simp [intOf]; omega
    · obtain rfl : n = k := by omega
      have HD2 : Hid (SetD encI wr b S ∧ ∀ s, s ∈ S ↔ s ∈ l) := Lib.hid (by
        have := HD.out
        rw [HL.out, List.take_length] at this
        exact this)
      clear HD
      go_wp2_with fail
      go_ret
      exact ⟨b, S, rfl, Nat.le_refl _, HD2.out.1, HD2.out.2, HG.out⟩
theorem notIn_k (P b : Nat) (S : List Str) (s : Str) (w : World) (hP : w.cell? ⟨P, 0, none⟩ = some (.map (some b))) (hS : SetD encS w b S) : Calls Tryz.prog 85 #[.string ⟨s.toArray⟩, .pointer (some ⟨P, 0, none⟩)] w fun e w' => e = .returned (.bool (!decide (s ∈ S))) ∧ w' = w := by
  have r := SetD.look keyS und46 hS s
  unfold encS at r
  clear hS
  go_enter Tryz.func85, Tryz.ntmps85
  go_wp2_with fail
  go_ret
  exact ⟨ret_bool (by first | rfl | simp | congr), rfl⟩
theorem clash1_k (P b : Nat) (S : List Int) (s : Int) (w : World) (hP : w.cell? ⟨P, 0, none⟩ = some (.map (some b))) (hS : SetD encI w b S) : Calls Tryz.prog 60 #[.int .i64 s, .pointer (some ⟨P, 0, none⟩)] w fun e w' => e = .returned (.bool (decide (s ∈ S))) ∧ w' = w := by
  have r := SetD.look keyI und79 hS s
  unfold encI at r
  clear hS
  go_enter Tryz.func60, Tryz.ntmps60
  go_wp2_with fail
  go_ret
  exact ⟨ret_bool (by first | rfl | simp | congr), rfl⟩
theorem all_snoc {l : List Str} {S : List Str} {k : Nat} {x : Str} (h : l[k]? = some x) : ((l.take (k + 1)).all fun n => decide (n ∈ S)) = (((l.take k).all fun n => decide (n ∈ S)) && decide (x ∈ S)) := by
  rw [take_snoc h, List.all_append]
  simp
set_option maxRecDepth 100000 in
theorem allIn_k (A : Option Addr) (n c : Nat) (l : List Str) (b : Nat) (S : List Str) (w : World) (h : Strs w A n c l) (hS : SetD encS w b S) :
    Calls Tryz.prog 55 #[.slice A n c, .map (some b)] w fun e w' => e = .returned (.bool (l.all fun n => decide (n ∈ S))) ∧ w.grownBy w' none := by
  obtain ⟨w1, e1, HP, g1⟩ := row_of w 78 #[.map (some b)]
  have E1 := Lib.hid e1
  have hn := h.len
  have HC := Lib.hid (hasS63 (.pointer (some ⟨w.heap.size, 0, none⟩)) A n c l (fun k W => w1.grownBy W none ∧ ((l.take k).all fun n => decide (n ∈ S)) = true) (fun k W => w1.grownBy W none ∧ (l.all fun n => decide (n ∈ S)) = false) w1 ⟨grown_refl _, rfl⟩ (fun k W hW => h.kept (g1.trans hW.1)) (fun k x W hx hW => by
    refine (notIn_k _ b S x W (gcell hW.1 (HP.c 0 rfl)) (Dict.kept hS (g1.trans hW.1))).mono ?_
    rintro e W' ⟨rfl, rfl⟩
    refine ⟨_, rfl, fun hb => ⟨hW.1, by rw [all_snoc hx, hW.2]; simpa using hb⟩, fun hb => ⟨hW.1, ?_⟩⟩
    rw [List.all_eq_false]
    exact ⟨x, List.mem_of_getElem? hx, by simpa using hb⟩))
  have HN := Lib.hid hn
  clear e1 h hS hn HP
  go_enter Tryz.func55, Tryz.ntmps55
  go_upto_region 1 with fail
  rw [← E1.out]
  clear E1
  generalize w.heap.size = P at *
  go_wp2_with fail
  refine HC.out.mono ?_
  rintro e w2 (⟨rfl, g, ha⟩ | ⟨k, hk, rfl, g, ha⟩)
  · have H : Hid ((l.all fun n => decide (n ∈ S)) = true) := Lib.hid (by rw [HN.out, List.take_length] at ha; exact ha)
    clear ha HC
    go_wp2_with fail
    go_ret
    exact ⟨by rw [H.out]; rfl, g1.trans g⟩
  · have H := Lib.hid ha
    clear ha HC
    go_wp2_with fail
    go_ret
    exact ⟨by rw [H.out]; rfl, g1.trans g⟩
theorem clash_any {l : List Int} {S : List Int} {k : Nat} {x : Int} (h : l[k]? = some x) : ((l.take (k + 1)).any fun n => decide (n ∈ S)) = (((l.take k).any fun n => decide (n ∈ S)) || decide (x ∈ S)) := by
  rw [take_snoc h, List.any_append]
  simp
set_option maxRecDepth 100000 in
set_option maxHeartbeats 1000000 in
/-- Clash -/
theorem clash_k (u v : V) (a b : List Int) (w : World) (ha : Ints w u.sA u.sn u.sc a) (hb : Ints w v.sA v.sn v.sc b) : Calls Tryz.prog 19 #[.agg u.cells, .agg v.cells] w fun e w' => e = .returned (.bool (b.any fun n => decide (n ∈ a))) ∧ w.grownBy w' none := by
  obtain ⟨uc, ur, up, uA, un, uc2, xA, xn, xc⟩ := u
  obtain ⟨vc, vr, vp, sA, sn, sc, nA, nn, nc⟩ := v
  simp only at ha hb
  obtain ⟨w1, e1, HB, g1⟩ := row_of w 41 #[.string ⟨uc.toArray⟩, .int .i64 ur, .int .i64 up, .slice uA un uc2, .slice xA xn xc]
  obtain ⟨w2, e2, HC, g2⟩ := row_of w1 41 #[.string ⟨vc.toArray⟩, .int .i64 vr, .int .i64 vp, .slice sA sn sc, .slice nA nn nc]
  have hs1 : w1.heap.size = w.heap.size + 1 := by rw [e1]; simp
  have E1 := Lib.hid e1
  have E2 := Lib.hid e2
  rw [hs1] at HC
  replace HB := HB.kept g2
  have gg := g1.trans g2
  have HA := Lib.hid (fun W (g : w.grownBy W none) => ha.kept g)
  have HBI := Lib.hid (fun W (g : w.grownBy W none) => hb.kept g)
  have HN := Lib.hid hb.len
  clear e1 e2 g1 g2 ha hb
  simp only [V.cells]
  go_enter Tryz.func19, Tryz.ntmps19
  go_upto_region 1 with fail
  rw [← E1.out, ← E2.out]
  clear E1 E2 hs1
  generalize w.heap.size = B at *
  have b3 := HB.c 3 rfl
  have c3 := HC.c 3 rfl
  clear HB HC
  go_wp2_with fail
  refine (setI_k uA un uc2 a _ (HA.out _ gg)).mono ?_
  rintro e w3 ⟨M, S, rfl, _, hS, hiff, g⟩
  replace gg := gg.trans g
  replace c3 := gcell g c3
  clear g b3
  go_upto_region 2 with fail
  obtain ⟨w4, e4, HP, g4⟩ := row_of w3 86 #[.map (some M)]
  rw [← e4]
  replace gg := gg.trans g4
  replace c3 := gcell g4 c3
  have hS4 : SetD encI w4 M S := Dict.kept hS g4
  have HC := Lib.hid (hasI56 (.pointer (some ⟨w3.heap.size, 0, none⟩)) sA sn sc b (fun k W => w4.grownBy W none ∧ ((b.take k).any fun n => decide (n ∈ a)) = false) (fun k W => w4.grownBy W none ∧ (b.any fun n => decide (n ∈ a)) = true) w4 ⟨grown_refl _, rfl⟩ (fun k W hW => HBI.out _ (gg.trans hW.1)) (fun k x W hx hW => by
    refine (clash1_k _ M S x W (gcell hW.1 (HP.c 0 rfl)) (Dict.kept hS4 hW.1)).mono ?_
    rintro e W' ⟨rfl, rfl⟩
    refine ⟨_, rfl, fun hb => ⟨hW.1, ?_⟩, fun hb => ⟨hW.1, ?_⟩⟩
    · rw [clash_any hx, hW.2]
      have : ¬ x ∈ S := by simpa using hb
      rw [hiff] at this
      simpa using this
    · rw [List.any_eq_true]
      have : x ∈ S := by simpa using hb
      rw [hiff] at this
      exact ⟨x, List.mem_of_getElem? hx, by simpa using this⟩))
  clear e4 hS hiff HP g4 hS4
  generalize w3.heap.size = Q at *
  go_wp2_with fail
  refine HC.out.mono ?_
  rintro e w5 (⟨rfl, g, hr⟩ | ⟨k, hk, rfl, g, hr⟩)
  · have H : Hid ((b.any fun n => decide (n ∈ a)) = false) := Lib.hid (by rw [HN.out, List.take_length] at hr; exact hr)
    clear hr HC
    go_wp2_with fail
    go_ret
    exact ⟨by rw [H.out]; rfl, gg.trans g⟩
  · have H := Lib.hid hr
    clear hr HC
    go_wp2_with fail
    go_ret
    exact ⟨by rw [H.out]; rfl, gg.trans g⟩
end Go.Proofs.YtnkemoicgadefaaGreatDoor
