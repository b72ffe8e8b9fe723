/-
  What the laws' own type Value reads as, and its serialization.
-/
import Derived.Test.YtmohcanfkcopiaaDoorCanonical
import Derived.Test.YtmohcanfkcopiaaDoorCut
import Derived.Deep.RegionHeld3
namespace Go.Proofs.YtmohcanfkcopiaaDoor
open Go.RowKit
attribute [local go_sem] get_mk extract_mk

/-- what an argument of the laws' type Value reads as -/
structure Val where
  kd : Nat
  n : Int
  s : List UInt8
  A : Option Addr
  ln : Nat
  lc : Nat
  l : List Int
  B : Option Addr
  tn : Nat
  tc : Nat
  t : List (List UInt8)

def Val.cells (v : Val) : Array Value := #[.int .u8 v.kd, .int .i64 v.n, .string ⟨v.s.toArray⟩, .slice v.A v.ln v.lc, .slice v.B v.tn v.tc]

structure Val.ok (v : Val) (w : World) : Prop where
  k : v.kd ≤ 255
  i : I64 v.n
  sl : v.s.length ≤ 9223372036854775807
  ll : v.ln = v.l.length
  lle : v.ln ≤ v.lc
  lcm : v.lc ≤ maxLen
  li : ∀ x ∈ v.l, I64 x
  lcell : 0 < v.ln → ∃ ad, v.A = some ad ∧ ad.block < w.heap.size ∧ ∀ j x, v.l[j]? = some x → w.cell? (ad.add j) = some (.int .i64 x)
  tl : v.tn = v.t.length
  tle : v.tn ≤ v.tc
  tcm : v.tc ≤ maxLen
  ti : ∀ x ∈ v.t, x.length ≤ 9223372036854775807
  tcell : 0 < v.tn → ∃ ad, v.B = some ad ∧ ad.block < w.heap.size ∧ ∀ j x, v.t[j]? = some x → w.cell? (ad.add j) = some (.string ⟨x.toArray⟩)

/-- a value's serialization, cut as the laws cut it -/
def Val.ser (v : Val) : List UInt8 := match v.kd % 4 with
  | 0 => serI v.n
  | 1 => serT (v.s.take 100)
  | 2 => serL serI (v.l.take 20)
  | _ => serL serT (cutL v.t)

theorem grown_al {a w : World} {o : Obj} (h : a.grownBy w none) : a.grownBy (w.alloc o) none := h.trans (World.grownBy_alloc w o none)
theorem grown_dr {a w : World} (h : a.grownBy w none) : a.grownBy w.drew none := ⟨h.os, h.tape, h.output, h.size, h.block⟩

theorem Val.ok.kept {v : Val} {w w' : World} (h : v.ok w) (hg : w.grownBy w' none) : v.ok w' :=
  { h with
    lcell := fun hn => by
      obtain ⟨ad, e, hb, hc⟩ := h.lcell hn
      exact ⟨ad, e, Nat.lt_of_lt_of_le hb hg.size, fun j x hx => ((below_of_grown hg).cell (p := ad.add j) (by rw [add_block]; exact hb)).trans (hc j x hx)⟩
    tcell := fun hn => by
      obtain ⟨ad, e, hb, hc⟩ := h.tcell hn
      exact ⟨ad, e, Nat.lt_of_lt_of_le hb hg.size, fun j x hx => ((below_of_grown hg).cell (p := ad.add j) (by rw [add_block]; exact hb)).trans (hc j x hx)⟩ }

theorem flat_bound {α : Type} (f : α → List UInt8) (k : Nat) : ∀ (l : List α), (∀ x ∈ l, (f x).length ≤ k) → (l.flatMap f).length ≤ l.length * k := by
  intro l
  induction l with
  | nil => intro _; simp
  | cons x l ih =>
    intro h
    have h1 := h x List.mem_cons_self
    have h2 := ih (fun y hy => h y (List.mem_cons_of_mem _ hy))
    simp only [List.flatMap_cons, List.length_append, List.length_cons, Nat.succ_mul]
    omega
theorem take_min20 {α : Type} (l : List α) (n : Nat) (h : n = l.length) : (min (n : Int) 20).toNat = (l.take 20).length := by
  rw [List.length_take]; omega
theorem ser_text (v : Val) (w : World) (hb : Base w) (_ : v.ok w) :
    Calls Tryd.prog 14 #[.string ⟨(List.take (min (v.s.length : Int) 100).toNat v.s).toArray⟩] w fun e w' => e = .returned (.string ⟨(serT (v.s.take 100)).toArray⟩) ∧ w.grownBy w' none := by
  rw [take_min']
  exact wText _ (by rw [List.length_take]; omega) w hb
theorem ser_ints (v : Val) (w : World) (hb : Base w) (hv : v.ok w) :
    Calls Tryd.prog 16 #[.slice v.A (min (v.ln : Int) 20).toNat v.lc] w fun e w' => e = .returned (.string ⟨(serL serI (v.l.take 20)).toArray⟩) ∧ w.grownBy w' none := by
  have hln := take_min20 v.l v.ln hv.ll
  have hle := hv.lle
  have hll := hv.ll
  have h20 : (v.l.take 20).length ≤ 20 := by rw [List.length_take]; omega
  have hi : ∀ x ∈ v.l.take 20, I64 x := fun x hx => hv.li x (List.mem_of_mem_take hx)
  have hf := flat_bound serI 21 (v.l.take 20) (fun x hx => by have := itoa_len (hi x hx); unfold serI; simp; omega)
  refine wInts v.A v.lc _ (v.l.take 20) w hb hln hi (by have := Nat.mul_le_mul_right 21 h20; omega) (by omega) hv.lcm (fun h0 => ?_)
  obtain ⟨ad, e, h1, h2⟩ := hv.lcell (by omega)
  refine ⟨ad, e, h1, fun j x hx => h2 j x ?_⟩
  rw [List.getElem?_take] at hx
  split at hx
  · exact hx
  · cases hx
theorem cut_len (l : List (List UInt8)) : (cutL l).length ≤ 20 ∧ ∀ x ∈ cutL l, x.length ≤ 100 := by
  unfold cutL
  refine ⟨by rw [List.length_map, List.length_take]; omega, fun x hx => ?_⟩
  obtain ⟨y, _, rfl⟩ := List.mem_map.1 hx
  rw [List.length_take]
  omega
theorem ser_cut (v : Val) (w : World) (hv : v.ok w) :
    Calls Tryd.prog 11 #[.slice v.B v.tn v.tc] w fun e w' => ∃ A c, e = .returned (.slice A (cutL v.t).length c) ∧ w'.ownsRow w.heap.size 9 1 (.slice A (cutL v.t).length c) (cutL v.t).length ((cutL v.t).map fun x => .string ⟨x.toArray⟩) ∧ w.grownBy w' none :=
  (cut_k v.B v.tc v.tn v.t w hv.tl hv.tcm hv.tle hv.ti hv.tcell).mono fun _ _ ⟨_, he, ho, hg⟩ => by
    obtain ⟨A, c, rfl, _⟩ := own_slice ho
    exact ⟨A, c, he, ho, hg⟩
theorem ser_texts (l : List (List UInt8)) (B : Nat) (A : Option Addr) (c : Nat) (w : World) (hb : Base w) (ho : w.ownsRow B 9 1 (.slice A (cutL l).length c) (cutL l).length ((cutL l).map fun x => .string ⟨x.toArray⟩)) :
    Calls Tryd.prog 18 #[.slice A (cutL l).length c] w fun e w' => e = .returned (.string ⟨(serL serT (cutL l)).toArray⟩) ∧ w.grownBy w' none := by
  obtain ⟨A', c', e, h1, h2⟩ := own_slice ho
  injection e with e1 e2 e3
  subst e1
  subst e3
  have hc := cut_len l
  have hf := flat_bound serT 121 (cutL l) (fun x hx => by
    have := hc.2 x hx
    have := itoa_len (n := (x.length : Int)) ⟨by omega, by omega⟩
    unfold serT; simp; omega)
  exact wTexts A c _ (cutL l) w hb rfl (fun x hx => Nat.le_trans (hc.2 x hx) (by decide)) (by have := Nat.mul_le_mul_right 121 hc.1; omega) h1 h2 (fun h => own_read ho h)

theorem trunc_none {α : Type} {p : List UInt8 → Option (α × List UInt8)} {f : α → List UInt8} {g : α → Prop} (d : ∀ s v t, p s = some (v, t) ↔ g v ∧ s = f v ++ t) {v : α} (hg : g v) {m : Nat} (hm : m < (f v).length) : p ((f v).take m) = none := by
  cases hp : p ((f v).take m) with
  | none => rfl
  | some x =>
    obtain ⟨a, t⟩ := x
    obtain ⟨h1, h2⟩ := (d _ _ _).1 hp
    have h3 : f v = f a ++ (t ++ (f v).drop m) := by rw [← List.append_assoc, ← h2, List.take_append_drop]
    have h4 := (d (f v) a (t ++ (f v).drop m)).2 ⟨h1, h3⟩
    have h5 := (d (f v) v []).2 ⟨hg, by simp⟩
    rw [h4] at h5
    injection h5 with h5
    injection h5 with _ h6
    have h7 := congrArg List.length h6
    simp only [List.length_append, List.length_drop, List.length_nil] at h7
    omega
theorem Val.ser_pos {v : Val} : 0 < v.ser.length := by
  unfold Val.ser
  split
  · exact serI_ne _
  · exact serT_ne _
  · simp [serL]
  · simp [serL]
theorem Val.ser_len {v : Val} {w : World} (h : v.ok w) : v.ser.length ≤ 10000 := by
  unfold Val.ser
  split
  · have := itoa_len h.i; unfold serI; simp; omega
  · have h1 : (v.s.take 100).length ≤ 100 := by rw [List.length_take]; omega
    have := itoa_len (n := ((v.s.take 100).length : Int)) ⟨by omega, by omega⟩
    unfold serT; simp only [List.length_append, List.length_cons]; omega
  · have h20 : (v.l.take 20).length ≤ 20 := by rw [List.length_take]; omega
    have hf := flat_bound serI 21 (v.l.take 20) (fun x hx => by have := itoa_len (h.li x (List.mem_of_mem_take hx)); unfold serI; simp; omega)
    have := Nat.mul_le_mul_right 21 h20
    unfold serL; simp only [List.length_cons, List.length_append, List.length_nil]; omega
  · have hc := cut_len v.t
    have hf := flat_bound serT 121 (cutL v.t) (fun x hx => by
      have := hc.2 x hx
      have := itoa_len (n := (x.length : Int)) ⟨by omega, by omega⟩
      unfold serT; simp; omega)
    have := Nat.mul_le_mul_right 121 hc.1
    unfold serL; simp only [List.length_cons, List.length_append, List.length_nil]; omega
theorem none_zero (k : Nat) : zeroB none k = true ∧ leftB none k = none := by
  match k with
  | 0 => exact ⟨rfl, rfl⟩
  | 1 => exact ⟨rfl, rfl⟩
  | 2 => exact ⟨rfl, rfl⟩
  | _ + 3 => exact ⟨rfl, rfl⟩
theorem Val.trunc {v : Val} {w : World} (h : v.ok w) (m : Nat) (hm : m < v.ser.length) : zeroB (some (v.ser.take m)) (v.kd % 4) = true ∧ leftB (some (v.ser.take m)) (v.kd % 4) = none := by
  have hlt : v.kd % 4 < 4 := by omega
  unfold Val.ser at hm ⊢
  match hk : v.kd % 4, hlt with
  | 0, _ =>
    simp only [hk] at hm ⊢
    have hp : intP (List.take m (serI v.n)) = none := trunc_none intP_iff h.i hm
    simp [zeroB, leftB, valOf, restOf, hp]
  | 1, _ =>
    simp only [hk] at hm ⊢
    have hp : textP (List.take m (serT (v.s.take 100))) = none := trunc_none (v := v.s.take 100) textP_iff ⟨by omega, by rw [List.length_take]; omega⟩ hm
    simp [zeroB, leftB, valOf, restOf, hp, dflt]
  | 2, _ =>
    simp only [hk] at hm ⊢
    have hp : listP intP (List.take m (serL serI (v.l.take 20))) = none := trunc_none (v := v.l.take 20) (list_iff intD) (fun x hx => h.li x (List.mem_of_mem_take hx)) hm
    simp [zeroB, leftB, valOf, restOf, hp, dflt']
  | 3, _ =>
    simp only [hk] at hm ⊢
    have hp : listP textP (List.take m (serL serT (cutL v.t))) = none := trunc_none (v := cutL v.t) (list_iff textD) (fun x hx => by
      have := (cut_len v.t).2 x hx
      exact ⟨by omega, by omega⟩) hm
    simp [zeroB, leftB, valOf, restOf, hp, dflt']
end Go.Proofs.YtmohcanfkcopiaaDoor
