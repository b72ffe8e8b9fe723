/-
  WirePrefix: what its walks share.
-/
import Derived.Test.YtmohcanfkcopiaaDoorVal
import Derived.Deep.DeepCutAuto
import Derived.Deep.QuietTactic
import Derived.BigQuiet
import Derived.Deep.RegionWith
import Derived.Test.YtmohcanfkcopiaaDoorMono
import Derived.Test.YtmohcanfkcopiaaDoorPrefix
namespace Go.Proofs.YtmohcanfkcopiaaDoor
open Go.RowKit
attribute [local go_sem] get_mk extract_mk

theorem own_al {w : World} {B e size n : Nat} {v : Value} {xs : List Value} (h : w.ownsRow B e size v n xs) (o : Obj) : (w.alloc o).ownsRow B e size v n xs :=
  h.kept (World.grownBy_alloc w o none) (Classical.em _)

theorem own_cl {α : Type} {w : World} {B e n c : Nat} {A : Option Addr} {l : List α} {f : α → Value} (h : w.ownsRow B e 1 (.slice A n c) n (l.map f)) :
    0 < n → ∃ ad, A = some ad ∧ ∀ j x, l[j]? = some x → w.cell? (ad.add j) = some (f x) := fun h0 => by
  obtain ⟨ad, e, _, hc⟩ := own_read h h0
  exact ⟨ad, e, hc⟩
theorem cell_tk {w : World} {A : Option Addr} {l : List Int} {n : Nat} (h : 0 < n → ∃ ad, A = some ad ∧ ad.block < w.heap.size ∧ ∀ j x, l[j]? = some x → w.cell? (ad.add j) = some (.int .i64 x)) :
    0 < (min (n : Int) 20).toNat → ∃ ad, A = some ad ∧ ∀ j x, (l.take 20)[j]? = some x → w.cell? (ad.add j) = some (.int .i64 x) := fun h0 => by
  obtain ⟨ad, e, _, h2⟩ := h (by omega)
  refine ⟨ad, e, fun j x hx => h2 j x ?_⟩
  rw [List.getElem?_take] at hx
  split at hx
  · exact hx
  · cases hx
theorem same_ints (v u : Val) (w : World) (hv : v.ok w) (hu : u.ok w) :
    Calls Tryd.prog 26 #[.slice v.A (min (v.ln : Int) 20).toNat v.lc, .slice u.A (min (u.ln : Int) 20).toNat u.lc] w fun e w' => e = .returned (.bool (decide (v.l.take 20 = u.l.take 20))) ∧ w.grownBy w' none :=
  isame_k v.A u.A v.lc u.lc _ _ _ _ w (take_min20 v.l v.ln hv.ll) (take_min20 u.l u.ln hu.ll) (by omega) (by omega) (cell_tk hv.lcell) (cell_tk hu.lcell)
theorem same_texts (A B : Option Addr) (c d : Nat) (x y : List (List UInt8)) (w : World) (E F : Nat)
    (h1 : w.ownsRow E 9 1 (.slice A x.length c) x.length (x.map fun x => .string ⟨x.toArray⟩)) (h2 : w.ownsRow F 9 1 (.slice B y.length d) y.length (y.map fun x => .string ⟨x.toArray⟩)) :
    Calls Tryd.prog 29 #[.slice A x.length c, .slice B y.length d] w fun e w' => e = .returned (.bool (decide (x = y))) ∧ w.grownBy w' none := by
  obtain ⟨A3, c3, e3, n3, m3⟩ := own_slice h1
  obtain ⟨A4, c4, e4, n4, m4⟩ := own_slice h2
  simp only [maxLen] at m3 m4
  exact tsame_k A B c d _ _ x y w rfl rfl (by omega) (by omega) (own_cl h1) (own_cl h2)
end Go.Proofs.YtmohcanfkcopiaaDoor
