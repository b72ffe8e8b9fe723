/-
  course.index; Met.
-/
import Derived.Test.YtnkemoicgadefaaGreatDoorSet
namespace Go.Proofs.YtnkemoicgadefaaGreatDoor
open Go.RowKit
attribute [local go_sem] get_mk extract_mk
set_option maxRecDepth 100000 in
theorem idxO64 (p : Value) (A : Option Addr) (n c : Nat) (vs : List V) (l : List O) (I Q : Nat → World → Prop) (w : World) (h0 : I 0 w)
    (hS : ∀ k W, I k W → Offs W A n c vs l)
    (hI : ∀ k v x W, vs[k]? = some v → l[k]? = some x → I k W → Calls Tryz.prog 86 #[.agg v.cells, p] W fun e W' => ∃ b : Bool, e = .returned (.bool b) ∧ (b = false → I (k + 1) W') ∧ (b = true → Q k W')) :
    Calls Tryz.prog 53 #[.slice A n c, .func (.func 86) #[] #[p]] w fun e w' => (e = .returned (.int .i64 (-1)) ∧ I n w') ∨ ∃ k : Nat, k < n ∧ e = .returned (.int .i64 k) ∧ Q k w' := by
  have hle := (hS 0 w h0).v.le
  have hcap := (hS 0 w h0).v.cap
  have HS := Lib.hid hS
  have HI := Lib.hid hI
  have H0 := Lib.hid h0
  clear hS hI h0
  go_enter Tryz.func53, Tryz.ntmps53
  go_wp2_with fail
  go_loopw [8] (fun i wr => ∃ k : Nat, k ≤ n ∧ i = .int .i64 k ∧ Hid (I k wr)) (fun i _ => n - (intOf i).toNat)
  case atStart => exact ⟨0, by omega, rfl, H0⟩
  case round =>
    clear H0
    obtain ⟨k, hkn, rfl, HK⟩ := hrel
    by_cases hlt : k < n
    · obtain ⟨ad, v, x, hx, hvx, rfl, hbl, hv, x0, x1, x2, x3, x4⟩ := (HS.out k wr HK.out).at k hlt
      have HC := Lib.hid (HI.out k v x wr hvx hx HK.out)
      obtain ⟨vc, vr, vp, sA, sn, sc, nA, nn, nc⟩ := v
      simp only [V.cells] at HC x0 x1 x2 x3 x4
      clear hx hvx hv HK
      go_wp2_with fail
      refine HC.out.mono ?_
      rintro e w2 ⟨b, rfl, hb0, hb1⟩
      clear x0 x1 x2 x3 x4 HC
      cases b with
      | true =>
        have HQ := Lib.hid (hb1 rfl)
        clear hb0 hb1
        go_wp2_with fail
        go_ret
        exact .inr ⟨k, hlt, rfl, HQ.out⟩
      | false =>
        have HN := Lib.hid (hb0 rfl)
        clear hb0 hb1
        go_wp2_with fail
        go_roundw
        case rel => exact ⟨k + 1, by omega, by go_num, HN⟩
        case measure => simp [intOf]; omega
    · obtain rfl : n = k := by omega
      go_wp2_with fail
      go_ret
      exact .inl ⟨rfl, HK.out⟩
set_option maxRecDepth 100000 in
theorem idxO45 (p : Value) (A : Option Addr) (n c : Nat) (vs : List V) (l : List O) (I Q : Nat → World → Prop) (w : World) (h0 : I 0 w)
    (hS : ∀ k W, I k W → Offs W A n c vs l)
    (hI : ∀ k v x W, vs[k]? = some v → l[k]? = some x → I k W → Calls Tryz.prog 54 #[.agg v.cells, p] W fun e W' => ∃ b : Bool, e = .returned (.bool b) ∧ (b = false → I (k + 1) W') ∧ (b = true → Q k W')) :
    Calls Tryz.prog 53 #[.slice A n c, .func (.func 54) #[] #[p]] w fun e w' => (e = .returned (.int .i64 (-1)) ∧ I n w') ∨ ∃ k : Nat, k < n ∧ e = .returned (.int .i64 k) ∧ Q k w' := by
  have hle := (hS 0 w h0).v.le
  have hcap := (hS 0 w h0).v.cap
  have HS := Lib.hid hS
  have HI := Lib.hid hI
  have H0 := Lib.hid h0
  clear hS hI h0
  go_enter Tryz.func53, Tryz.ntmps53
  go_wp2_with fail
  go_loopw [8] (fun i wr => ∃ k : Nat, k ≤ n ∧ i = .int .i64 k ∧ Hid (I k wr)) (fun i _ => n - (intOf i).toNat)
  case atStart => exact ⟨0, by omega, rfl, H0⟩
  case round =>
    clear H0
    obtain ⟨k, hkn, rfl, HK⟩ := hrel
    by_cases hlt : k < n
    · obtain ⟨ad, v, x, hx, hvx, rfl, hbl, hv, x0, x1, x2, x3, x4⟩ := (HS.out k wr HK.out).at k hlt
      have HC := Lib.hid (HI.out k v x wr hvx hx HK.out)
      obtain ⟨vc, vr, vp, sA, sn, sc, nA, nn, nc⟩ := v
      simp only [V.cells] at HC x0 x1 x2 x3 x4
      clear hx hvx hv HK
      go_wp2_with fail
      refine HC.out.mono ?_
      rintro e w2 ⟨b, rfl, hb0, hb1⟩
      clear x0 x1 x2 x3 x4 HC
      cases b with
      | true =>
        have HQ := Lib.hid (hb1 rfl)
        clear hb0 hb1
        go_wp2_with fail
        go_ret
        exact .inr ⟨k, hlt, rfl, HQ.out⟩
      | false =>
        have HN := Lib.hid (hb0 rfl)
        clear hb0 hb1
        go_wp2_with fail
        go_roundw
        case rel => exact ⟨k + 1, by omega, by go_num, HN⟩
        case measure => simp [intOf]; omega
    · obtain rfl : n = k := by omega
      go_wp2_with fail
      go_ret
      exact .inl ⟨rfl, HK.out⟩
set_option maxRecDepth 100000 in
theorem isCode_k (P : Nat) (v : V) (code : Str) (w : World) (hP : w.cell? ⟨P, 0, none⟩ = some (.string ⟨code.toArray⟩)) : Calls Tryz.prog 86 #[.agg v.cells, .pointer (some ⟨P, 0, none⟩)] w fun e w' => e = .returned (.bool (v.code == code)) ∧ w.grownBy w' none := by
  obtain ⟨vc, vr, vp, sA, sn, sc, nA, nn, nc⟩ := v
  obtain ⟨w1, e1, HB, g1⟩ := row_of w 41 #[.string ⟨vc.toArray⟩, .int .i64 vr, .int .i64 vp, .slice sA sn sc, .slice nA nn nc]
  have E1 := Lib.hid e1
  replace hP := gcell g1 hP
  clear e1
  simp only [V.cells]
  go_enter Tryz.func86, Tryz.ntmps86
  go_upto_region 1 with fail
  rw [← E1.out]
  clear E1
  generalize w.heap.size = B at *
  have b0 := HB.c 0 rfl
  clear HB
  go_wp2_with fail
  go_ret
  exact ⟨rfl, g1⟩
theorem fnd_take {c : Str} {l : List O} {k : Nat} {o : O} (h : l[k]? = some o) (hn : fnd (l.take k) c = none) (he : o.code = c) : fnd l c = some o := by
  obtain ⟨hk, hx⟩ := List.getElem?_eq_some_iff.1 h
  have e : l = l.take k ++ o :: l.drop (k + 1) := by rw [← hx, ← List.drop_eq_getElem_cons hk, List.take_append_drop]
  rw [e]
  unfold fnd at hn ⊢
  rw [List.find?_append, hn, List.find?_cons]
  simp [he]
theorem fnd_snoc {c : Str} {l : List O} {k : Nat} {o : O} (h : l[k]? = some o) (hn : fnd (l.take k) c = none) (he : (o.code == c) = false) : fnd (l.take (k + 1)) c = none := by
  rw [take_snoc h]
  unfold fnd at hn ⊢
  rw [List.find?_append, hn]
  simp [he]
set_option maxRecDepth 100000 in
/-- course.index -/
theorem index_k (A : Option Addr) (n c : Nat) (vs : List V) (l : List O) (code : Str) (w : World) (h : Offs w A n c vs l) :
    Calls Tryz.prog 56 #[.slice A n c, .string ⟨code.toArray⟩] w fun e w' => (e = .returned (.int .i64 (-1)) ∧ fnd l code = none ∧ w.grownBy w' none) ∨ ∃ (k : Nat) (o : O), k < n ∧ e = .returned (.int .i64 k) ∧ l[k]? = some o ∧ fnd l code = some o ∧ w.grownBy w' none := by
  obtain ⟨w1, e1, HP, g1⟩ := row_of w 9 #[.string ⟨code.toArray⟩]
  have E1 := Lib.hid e1
  have HN := Lib.hid h.len
  have HC := Lib.hid (idxO64 (.pointer (some ⟨w.heap.size, 0, none⟩)) A n c vs l (fun k W => w1.grownBy W none ∧ fnd (l.take k) code = none) (fun k W => w1.grownBy W none ∧ ∃ o, l[k]? = some o ∧ fnd l code = some o) w1 ⟨grown_refl _, rfl⟩ (fun k W hW => h.kept (g1.trans hW.1)) (fun k v x W hv hx hW => by
    have hc := (h.is k v x hv hx).code
    refine (isCode_k _ v code W (gcell hW.1 (HP.c 0 rfl))).mono ?_
    rintro e W' ⟨rfl, g⟩
    rw [hc]
    exact ⟨_, rfl, fun hb => ⟨hW.1.trans g, fnd_snoc hx hW.2 hb⟩, fun hb => ⟨hW.1.trans g, x, hx, fnd_take hx hW.2 (by simpa using hb)⟩⟩))
  clear e1 h HP
  go_enter Tryz.func56, Tryz.ntmps56
  go_upto_region 1 with fail
  rw [← E1.out]
  clear E1
  generalize w.heap.size = P at *
  go_wp2_with fail
  refine HC.out.mono ?_
  rintro e w2 (⟨rfl, g, ha⟩ | ⟨k, hk, rfl, g, o, ho, hf⟩)
  · have H : Hid (fnd l code = none) := Lib.hid (by rw [HN.out, List.take_length] at ha; exact ha)
    clear ha HC
    go_wp2_with fail
    go_ret
    exact .inl ⟨rfl, H.out, g1.trans g⟩
  · have H := Lib.hid (And.intro ho hf)
    clear ho hf HC
    go_wp2_with fail
    go_ret
    exact .inr ⟨k, o, hk, rfl, H.out.1, H.out.2, g1.trans g⟩
end Go.Proofs.YtnkemoicgadefaaGreatDoor
