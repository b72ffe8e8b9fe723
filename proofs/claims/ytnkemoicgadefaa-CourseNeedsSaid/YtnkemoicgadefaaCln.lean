/-
  slices.Clone.
-/
import Derived.Test.YtnkemoicgadefaaRcd
namespace Go.Proofs.Ytnkemoicgadefaa
open Go.RowKit
attribute [local go_sem] get_mk extract_mk
set_option maxRecDepth 100000 in
theorem cloneI_k (A : Option Addr) (n c : Nat) (l : List Int) (w : World) (h : Ints w A n c l) (hn : n ≤ 1000) :
    Calls Try.prog 48 #[.slice A n c] w fun e w' => ∃ v, e = .returned v ∧ OwnI w' w.heap.size v l ∧ w.grownBy w' none := by
  cases A with
  | none =>
    have h1 := h.v.nil rfl
    have h2 := h.v.le
    have h3 := h.len
    subst h1
    obtain rfl : n = 0 := by omega
    obtain rfl : l = [] := List.eq_nil_of_length_eq_zero h3.symm
    clear h2 h3 h
    have hq : ∀ w, (binOp BinOp.eql 22 (Value.slice none 0 0) (Value.slice none 0 0)).run Try.prog w = .ok (.bool true) w := fun _ => by kernel_rfl
    go_enter Try.func48, Try.ntmps48
    go_wp2_with fail
    go_ret
    exact ⟨_, rfl, World.ownsRow_nil _ _ 3 1, grown_refl _⟩
  | some ad =>
    have HL := Lib.hid h.len
    have HV := Lib.hid (h.v.kept (World.grownBy_alloc w (.cells #[] 3) none))
    have HM : Hid ((w.alloc (.cells #[] 3)).ownsRow w.heap.size 3 1 (.slice (some ⟨w.heap.size, 0, none⟩) 0 0) 0 []) := Lib.hid (World.ownsRow_made (base := w.heap.size) (e := 3) (size := 1) w #[] 0 (Nat.le_refl _) (by decide) rfl)
    clear h
    have hq : ∀ w, (binOp BinOp.eql 22 (Value.slice (some ad) n c) (Value.slice none 0 0)).run Try.prog w = .ok (.bool false) w := fun _ => by kernel_rfl
    go_enter Try.func48, Try.ntmps48
    go_wp2_with (at_builtin; refine wpList_append_vals elt3 rfl (.tmp 5) (.tmp 6) rfl w.heap.size _ 0 [] rfl HM.out (some ad) n c _ rfl HV.out (by omega) (by simp) ?_; intro v' w1 ho hg hb hv)
    go_ret
    exact ⟨_, rfl, by unfold OwnI; rw [← HL.out]; simpa using ho, (World.grownBy_alloc w _ none).andThen hg (fun r e => .inl (by have e : some w.heap.size = some r := e; injection e with e; omega))⟩
set_option maxRecDepth 100000 in
theorem cloneS_k (A : Option Addr) (n c : Nat) (l : List Str) (w : World) (h : Strs w A n c l) (hn : n ≤ 1000) :
    Calls Try.prog 49 #[.slice A n c] w fun e w' => ∃ v, e = .returned v ∧ OwnS w' w.heap.size v l ∧ w.grownBy w' none := by
  cases A with
  | none =>
    have h1 := h.v.nil rfl
    have h2 := h.v.le
    have h3 := h.len
    subst h1
    obtain rfl : n = 0 := by omega
    obtain rfl : l = [] := List.eq_nil_of_length_eq_zero h3.symm
    clear h2 h3 h
    have hq : ∀ w, (binOp BinOp.eql 33 (Value.slice none 0 0) (Value.slice none 0 0)).run Try.prog w = .ok (.bool true) w := fun _ => by kernel_rfl
    go_enter Try.func49, Try.ntmps49
    go_wp2_with fail
    go_ret
    exact ⟨_, rfl, World.ownsRow_nil _ _ 9 1, grown_refl _⟩
  | some ad =>
    have HL := Lib.hid h.len
    have HV := Lib.hid (h.v.kept (World.grownBy_alloc w (.cells #[] 9) none))
    have HM : Hid ((w.alloc (.cells #[] 9)).ownsRow w.heap.size 9 1 (.slice (some ⟨w.heap.size, 0, none⟩) 0 0) 0 []) := Lib.hid (World.ownsRow_made (base := w.heap.size) (e := 9) (size := 1) w #[] 0 (Nat.le_refl _) (by decide) rfl)
    clear h
    have hq : ∀ w, (binOp BinOp.eql 33 (Value.slice (some ad) n c) (Value.slice none 0 0)).run Try.prog w = .ok (.bool false) w := fun _ => by kernel_rfl
    go_enter Try.func49, Try.ntmps49
    go_wp2_with (at_builtin; refine wpList_append_vals elt9 rfl (.tmp 5) (.tmp 6) rfl w.heap.size _ 0 [] rfl HM.out (some ad) n c _ rfl HV.out (by omega) (by simp) ?_; intro v' w1 ho hg hb hv)
    go_ret
    exact ⟨_, rfl, by unfold OwnS; rw [← HL.out]; simpa using ho, (World.grownBy_alloc w _ none).andThen hg (fun r e => .inl (by have e : some w.heap.size = some r := e; injection e with e; omega))⟩
end Go.Proofs.Ytnkemoicgadefaa
