/-
  digest.divide, by its contract.
-/
import Derived.Test.YtljjmoeplfcblaaProve
import Derived.Deep.RegionHeld3
import Derived.Deep.QuietTactic
import Derived.BigQuiet
namespace Go.Proofs.Ytljjmoeplfcblaa
open Go.RowKit Go.Shelf
attribute [local go_sem] get_mk extract_mk

theorem Strs.take {w : World} {A : Option Addr} {n c k : Nat} {l : List Str} (h : Strs w A n c l) (hk : k ≤ n) : Strs w A k c (l.take k) := by
  have h1 := h.len
  have h2 := h.le
  refine ⟨by rw [List.length_take]; omega, by omega, h.cap, fun s hs => h.sl s (List.mem_of_mem_take hs), fun h0 => ?_⟩
  obtain ⟨ad, e, hb, hc⟩ := h.cell (by omega)
  refine ⟨ad, e, hb, fun j s hj => hc j s ?_⟩
  rw [List.getElem?_take] at hj
  split at hj
  · exact hj
  · cases hj
theorem Addr.add_add (a : Addr) (m n : Nat) : (a.add m).add n = a.add (m + n) := by
  unfold Addr.add
  by_cases h1 : m = 0
  · subst h1; simp
  · by_cases h2 : n = 0
    · subst h2; simp
    · rw [if_neg h1, if_neg h2, if_neg (by omega)]
      simp only [Addr.mk.injEq, and_true, true_and]
      omega
theorem Strs.drop {w : World} {A : Option Addr} {n c k : Nat} {l : List Str} (h : Strs w A n c l) (hk : k ≤ n) : Strs w (if c = k then A else A.map (fun x => x.add k)) (n - k) (c - k) (l.drop k) := by
  have h1 := h.len
  have h2 := h.le
  have h3 := h.cap
  refine ⟨by rw [List.length_drop]; omega, by omega, by omega, fun s hs => h.sl s (List.mem_of_mem_drop hs), fun h0 => ?_⟩
  obtain ⟨ad, e, hb, hc⟩ := h.cell (by omega)
  rw [if_neg (by omega), e]
  refine ⟨ad.add k, rfl, by rw [add_block]; exact hb, fun j s hj => ?_⟩
  rw [Addr.add_add]
  exact hc _ s (by rw [List.getElem?_drop] at hj; exact hj)
theorem all_take (l : List Str) (k : Nat) (x : Str) (h : (l.take k).all (fun s => s.length == 8) = true) (hx : l[k]? = some x) (h8 : x.length = 8) : (l.take (k + 1)).all (fun s => s.length == 8) = true := by
  rw [take_one l k x hx, List.all_append, h]
  simp [h8]
theorem not_all (l : List Str) (k : Nat) (x : Str) (hx : l[k]? = some x) (h8 : ¬ x.length = 8) : l.all (fun s => s.length == 8) = false := by
  rw [List.all_eq_false]
  exact ⟨x, List.mem_of_getElem? hx, by simpa using h8⟩
def divB (i j n : Nat) (P : List Str) : Bool := (P.length == (blocks 0 i).length + (blocks j n).length) && P.all (fun s => s.length == 8)
def DivR (A : Option Addr) (p c : Nat) (P : List Str) (i j n : Nat) (w' : World) (e : Ending) : Prop :=
  (divB i j n P = true ∧ ∃ A2 c2, e = .returned (.tuple #[.slice A (blocks 0 i).length c, .slice A2 (p - (blocks 0 i).length) c2, .bool true]) ∧ Strs w' A2 (p - (blocks 0 i).length) c2 (P.drop (blocks 0 i).length)) ∨
  (divB i j n P = false ∧ e = .returned (.tuple #[.slice none 0 0, .slice none 0 0, .bool false]))
set_option maxRecDepth 100000 in
set_option maxHeartbeats 4000000 in
/-- digest.divide -/
theorem divide_k (A : Option Addr) (p c : Nat) (P : List Str) (i j n : Nat) (hi : i ≤ 1099511627776) (hn : n ≤ 1099511627776) (w : World) (hP : Strs w A p c P) :
    Calls Try.prog 56 #[.slice A p c, .int .i64 i, .int .i64 j, .int .i64 n] w fun e w' => w.grownBy w' none ∧ DivR A p c P i j n w' e := by
  have hb1 := blocks_len' 0 i
  have hb2 := blocks_len' j n
  have hlen := hP.len
  have hcn := hP.le
  have hc6 := hP.cap
  have HC := Lib.hid (fun w' (g : w.grownBy w' none) => hP.kept g)
  have HD : Hid (divB i j n P = ((P.length == (blocks 0 i).length + (blocks j n).length) && P.all (fun s => s.length == 8))) := Lib.hid rfl
  have HR : Hid (∀ w' e, (divB i j n P = true ∧ ∃ A2 c2, e = Ending.returned (.tuple #[.slice A (blocks 0 i).length c, .slice A2 (p - (blocks 0 i).length) c2, .bool true]) ∧ Strs w' A2 (p - (blocks 0 i).length) c2 (P.drop (blocks 0 i).length)) → DivR A p c P i j n w' e) := Lib.hid (fun _ _ h => .inl h)
  have HR2 : Hid (∀ w' e, divB i j n P = false → e = Ending.returned (.tuple #[.slice none 0 0, .slice none 0 0, .bool false]) → DivR A p c P i j n w' e) := Lib.hid (fun _ _ h h2 => .inr ⟨h, h2⟩)
  have H1 := Lib.hid (fun w1 => count_k 0 i (by omega) w1)
  have H2 := Lib.hid (fun w1 => count_k j n (by omega) w1)
  generalize (blocks 0 i).length = c1 at *
  generalize (blocks j n).length = c2 at *
  have w1 : IntKind.i64.wrap ((c1 : Int) + (c2 : Int)) = (c1 : Int) + (c2 : Int) := by rw [IntKind.wrap_i64]; omega
  have Hlen := Lib.hid hlen
  clear hP hlen
  by_cases hN : p = c1 + c2
  · have Hn := Lib.hid hN
    have t1 : (p : Int) = (c1 : Int) + (c2 : Int) := by omega
    have t2 : ((p : Int) == (c1 : Int) + (c2 : Int)) = true := by simp [t1]
    have t3 : c1 ≤ p := by omega
    have t4 : (c1 : Int) ≤ (p : Int) := by omega
    have t5 : (0 : Int) ≤ (c1 : Int) := by omega
    have t6 : (c1 : Int) ≤ (c : Int) := by omega
    clear hN t1
    go_enter Try.func56, Try.ntmps56
    go_wp2_with fail
    refine (H1.out w).mono ?_
    rintro e wa ⟨rfl, ga⟩
    go_wp2_with fail
    refine (H2.out wa).mono ?_
    rintro e wb ⟨rfl, gb⟩
    go_wp2_with fail
    have gab := ga.trans gb
    go_loopw [26] (fun z wr => ∃ k : Nat, k ≤ p ∧ z = .int .i64 k ∧ (P.take k).all (fun s => s.length == 8) = true ∧ w.grownBy wr none) (fun z _ => p - (intOf z).toNat)
    case atStart => exact ⟨0, Nat.zero_le _, rfl, rfl, gab⟩
    case round =>
      obtain ⟨k, hk, rfl, ha, hg⟩ := hrel
      by_cases hlt : k < p
      · obtain ⟨x, hx⟩ : ∃ x, P[k]? = some x := ⟨_, List.getElem?_eq_getElem (by have := Hlen.out; omega)⟩
        have hst := HC.out _ hg
        obtain ⟨ad, rfl, _, hc⟩ := hst.cell (by omega)
        have hcx := hc k x hx
        have hxl := hst.sl x (List.mem_of_getElem? hx)
        have r1 : (0 : Int) ≤ (k : Int) := by omega
        have r2 : (k : Int) < (p : Int) := by omega
        clear hst hc
        by_cases h8 : x.length = 8
        · have HA := Lib.hid (all_take P k x ha hx h8)
          have r3 : ((x.length : Int) == 8) = true := by simp [h8]
          have r4 : ((x.length : Int) != 8) = false := by simp [h8]
          clear ha hx h8
          go_wp2_with fail
          exact ⟨⟨k + 1, by omega, by go_num, HA.out, hg⟩, by simp [intOf]; omega⟩
        · have HF : Hid (divB i j n P = false) := Lib.hid (by rw [HD.out, not_all P k x hx h8, Bool.and_false])
          have r3 : ¬ (x.length : Int) = 8 := by omega
          clear ha hx h8
          go_wp2_with fail
          refine bodyPost_ret (results_tmp3 rfl _ _ _) rfl ?_
          exact ⟨hg, HR2.out _ _ HF.out rfl⟩
      · have HA : Hid (P.all (fun s => s.length == 8) = true) := Lib.hid (by rw [List.take_of_length_le (by have := Hlen.out; omega)] at ha; exact ha)
        have HT : Hid (divB i j n P = true) := Lib.hid (by
          rw [HD.out, HA.out, Bool.and_true, beq_iff_eq]
          have := Hlen.out
          have := Hn.out
          omega)
        have HG := Lib.hid hg
        have HS := Lib.hid (fun (w' : World) (g : w.grownBy w' none) => (HC.out w' g).drop t3)
        clear ha hg
        by_cases hcc : c = c1
        · subst hcc
          go_wp2_with fail
          go_quiet (fail)
          go_wp2_with fail
          refine bodyPost_ret (results_tmp3 rfl _ _ _) rfl ?_
          have gq := HG.out.trans (grown_drewN wr nq none)
          have hs := HS.out _ gq
          simp only [if_true, Nat.sub_self] at hs
          exact ⟨gq, HR.out _ _ ⟨HT.out, A, 0, by rw [show p - c = 0 by omega]; rfl, hs⟩⟩
        · go_wp2_with fail
          go_quiet (fail)
          go_wp2_with fail
          refine bodyPost_ret (results_tmp3 rfl _ _ _) rfl ?_
          have gq := HG.out.trans (grown_drewN wr nq none)
          have hs := HS.out _ gq
          rw [if_neg hcc] at hs
          exact ⟨gq, HR.out _ _ ⟨HT.out, _, _, rfl, hs⟩⟩
  · have t1 : ¬ (p : Int) = (c1 : Int) + (c2 : Int) := by omega
    have HF : Hid (divB i j n P = false) := Lib.hid (by rw [HD.out, ← Hlen.out]; simp [hN])
    clear hN
    go_enter Try.func56, Try.ntmps56
    go_wp2_with fail
    refine (H1.out w).mono ?_
    rintro e wa ⟨rfl, ga⟩
    go_wp2_with fail
    refine (H2.out wa).mono ?_
    rintro e wb ⟨rfl, gb⟩
    go_wp2_with fail
    refine bodyPost_ret (results_tmp3 rfl _ _ _) rfl ?_
    exact ⟨ga.trans gb, HR2.out _ _ HF.out rfl⟩
end Go.Proofs.Ytljjmoeplfcblaa
