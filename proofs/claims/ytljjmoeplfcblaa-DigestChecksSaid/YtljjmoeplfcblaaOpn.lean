/-
  What the laws' arguments read as, opened to cells; what every card of this seat needs.
-/
import Derived.Below
import Derived.ChangeStays
import Derived.ReadAgain
import Derived.WideShapes
import Derived.ProofKit
import Derived.OpenShut
import Derived.Test.YtljjmoeplfcblaaRows
import Derived.Test.YtljjmoeplfcblaaBase
import Derived.ChangeMaps
import Derived.SizedLaws
import Derived.Test.YtljjmoeplfcblaaSum
import Derived.Deep.Slices
import Derived.DataShut
import Derived.Test.YtljjmoeplfcblaaVerify
namespace Go.Proofs.Ytljjmoeplfcblaa
open Go.ChangeShapes Go.WideShapes Go.RowKit
section
variable {H : Type} {enc : TypeId × Value → H} {P : Program} {w w' : World} {base : Nat} {sp : Nat → Bool} {T : TypeId → Prop}

theorem trodAll_stays (K : Kids P T) (hz : ∀ {t e : TypeId}, T t → P.underlying t = some (.slice e) → 0 < P.cellsOf e) : ∀ {ts : List TypeId} {vs : List Value} {ds : List (DataW H)} {ps : List MemPlace}, (∀ t ∈ ts, T t) →
    DataW.TrodAll enc P w base (fun _ => true) true ts vs ds ps → (∀ p ∈ ps, w.sameAt w' p) → (∀ p ∈ ps, sp p.block = true) → DataW.TrodAll enc P w' base sp true ts vs ds ps
  | [], [], [], _, _, h, _, _ => h
  | t :: _, _ :: _, _ :: _, _, hT, ⟨p, q, ⟨n, h1⟩, h2, e⟩, hs, hb =>
    ⟨p, q, ⟨n, DataW.trod_stays K hz (fun h => by cases h) (hT t (List.mem_cons.2 (.inl rfl))) h1 (fun x hx => hs x (by rw [e]; exact List.mem_append_left _ hx)) (fun x hx => hb x (by rw [e]; exact List.mem_append_left _ hx))⟩,
      trodAll_stays K hz (fun u hu => hT u (List.mem_cons.2 (.inr hu))) h2 (fun x hx => hs x (by rw [e]; exact List.mem_append_right _ hx)) (fun x hx => hb x (by rw [e]; exact List.mem_append_right _ hx)), e⟩

theorem law_post {f : Func} {s : ChangeSpec} {W W' : World} {args : Array Value} {ds gs : List (DataW H)} {before : List MemPlace} {tb : TypeId}
    (K : Kids P (· < P.types.size)) (hz : ∀ t e, t < P.types.size → P.underlying t = some (.slice e) → 0 < P.cellsOf e) (hts : ∀ t ∈ f.params.toList, t < P.types.size)
    (hr : f.resultTypes = #[tb]) (hb : P.underlying tb = some .bool) (hv : s.vars = []) (hs : s.fn H (ds ++ gs) = { results := [.lit (.bool true)], args := ds })
    (hW : DataW.Whole enc P f.params.toList s.vars false W args.toList ds gs before) (hg : Below W.heap.size W W') :
    s.post enc P f false true false false W args (.bool true) W' := by
  have hlt : ∀ p ∈ before, p.block < W.heap.size := fun p hp => hW.lt p hp
  have hW' := hW
  obtain ⟨p, q, hA, hV, rfl, _, _⟩ := hW
  rw [hv] at hV
  obtain ⟨rfl, rfl⟩ := trodVars_none hV
  refine ⟨ds, [], p ++ [], [], p, [], hW', ?_, ?_, ?_, ?_, fun h => by cases h⟩
  · rw [hs, hr]
    exact trodAll_cons_mk (shut_bool hb _) trodAll_mk0
  · rw [hs]
    refine trodAll_stays K (fun ht => hz _ _ ht) hts hA (fun x hx => hg.same (hlt x (by simpa using hx))) (fun x hx => by simpa using hlt x (by simpa using hx))
  · rw [hs, hv]
    rfl
  · exact hg.frame _
end
end Go.Proofs.Ytljjmoeplfcblaa

namespace Go.Proofs.Ytljjmoeplfcblaa
open Go.ChangeShapes Go.WideShapes Go.ChangeAt Go.RowKit
theorem own : ownKnob Try.prog.godebug = none := by kernel_rfl
theorem kids : Kids Try.prog (· < Try.prog.types.size) := kids_rows (by kernel_rfl) (by kernel_rfl)
theorem full : ∀ t e, t < Try.prog.types.size → Try.prog.underlying t = some (.slice e) → 0 < Try.prog.cellsOf e := slices_full_of Try.prog (by kernel_rfl)
theorem types : Try.prog.types.size = 109 := by kernel_rfl
end Go.Proofs.Ytljjmoeplfcblaa

namespace Go.Proofs.Ytljjmoeplfcblaa
open Go.ChangeShapes Go.WideShapes Go.RowKit Go.Deep
theorem list_of {α : Type} {Q : Nat → α → Prop} : ∀ n, (∀ i, i < n → ∃ x, Q i x) → ∃ l : List α, n = l.length ∧ ∀ j x, l[j]? = some x → Q j x := by
  intro n
  induction n with
  | zero => intro _; exact ⟨[], rfl, fun j x h => by simp at h⟩
  | succ n ih =>
    intro h
    obtain ⟨l, hl, hq⟩ := ih (fun i hi => h i (by omega))
    obtain ⟨x, hx⟩ := h n (by omega)
    refine ⟨l ++ [x], by simp; omega, fun j y hy => ?_⟩
    rcases Nat.lt_or_ge j l.length with hj | hj
    · rw [List.getElem?_append_left hj] at hy
      exact hq j y hy
    · rw [List.getElem?_append_right hj] at hy
      obtain ⟨k, hk⟩ : ∃ k, j - l.length = k := ⟨_, rfl⟩
      rw [hk] at hy
      match k, hk with
      | 0, hk =>
        simp at hy
        subst hy
        obtain rfl : j = n := by omega
        exact hx
      | k + 1, _ => simp at hy
section
variable {H : Type} {enc : TypeId × Value → H} {w : World} {base : Nat} {sp : Nat → Bool} {held : Bool}
/-- a slice of strings of whatever lengths -/
structure Raw (w : World) (A : Option Addr) (n c : Nat) (l : List (List UInt8)) : Prop where
  len : n = l.length
  le : n ≤ c
  cap : c ≤ maxLen
  sl : ∀ s ∈ l, s.length ≤ 9223372036854775807
  cell : 0 < n → ∃ ad, A = some ad ∧ ad.block < w.heap.size ∧ ∀ j s, l[j]? = some s → w.cell? (ad.add j) = some (.string ⟨s.toArray⟩)
theorem cells9 : Try.prog.cellsOf 9 = 1 := by kernel_rfl
theorem open_rawl {fuel : Nat} {cs : List Value} {x : DataW H × List MemPlace} (h : DataW.trod enc Try.prog w base sp held fuel 29 cs = some x) :
    ∃ (A : Option Addr) (n c : Nat) (l : List (List UInt8)), cs = [.slice A n c] ∧ Raw w A n c l := by
  rcases open_slice Try.underlying29 h with ⟨rfl, rfl⟩ | ⟨a, len, cap, m, n, D, Pl, rfl, hb, hl, hm, hmm, rfl, hi⟩
  · exact ⟨none, 0, 0, [], rfl, rfl, Nat.le_refl _, by decide, (by intro z hz; cases hz), fun h => by omega⟩
  · have hlm : len ≤ m := by rw [hmm]; split <;> omega
    obtain ⟨l, hll, hq⟩ := list_of (Q := fun i (z : List UInt8) => w.cell? (a.add i) = some (.string ⟨z.toArray⟩) ∧ z.length ≤ 9223372036854775807) len (fun i hil => by
      obtain ⟨cs', hc, htr⟩ := hi i (by omega)
      obtain ⟨⟨⟨z⟩⟩, rfl, _, hw⟩ := DataW.trod_string Try.underlying9 htr
      rw [cells9, Nat.mul_one] at hc
      obtain ⟨_, hcl, hat⟩ := World.cells?_some hc
      have h0 := hat 0 (by omega)
      have e0 : (a.add i).add 0 = a.add i := by simp [Addr.add]
      rw [e0] at h0
      exact ⟨z, by simpa using h0, by simpa [ByteArray.size, maxLen] using hw⟩)
    refine ⟨some a, len, cap, l, rfl, hll, hl, hm, fun z hz => ?_, fun h0 => ⟨a, rfl, ?_, fun j z hz => (hq j z hz).1⟩⟩
    · obtain ⟨j, hj⟩ := List.getElem?_of_mem hz
      exact (hq j z hj).2
    · have h1 : 0 < l.length := by omega
      have h2 := (hq 0 l[0] (List.getElem?_eq_getElem h1)).1
      have h3 := World.block_lt_of_cell? w _ h2
      rwa [add_block] at h3
theorem open_raw {r : Reach} {b0 : Nat} {v : Value} {d : DataW H} {ps : List MemPlace} (hv : Value.okWide Try.prog w r b0 29 v) (h : DataW.Trod enc Try.prog w base sp held 29 v d ps) :
    ∃ (A : Option Addr) (n c : Nat) (l : List (List UInt8)), v = .slice A n c ∧ Raw w A n c l := by
  obtain ⟨a, len, cap, rfl⟩ := okWide_slice Try.underlying29 hv
  obtain ⟨fuel, hf⟩ := h
  obtain ⟨A, n, c, l, hx, ho⟩ := open_rawl hf
  refine ⟨A, n, c, l, ?_, ho⟩
  simpa [Value.cells] using hx
end
end Go.Proofs.Ytljjmoeplfcblaa

namespace Go.Proofs.Ytljjmoeplfcblaa
open Go.ChangeShapes Go.WideShapes Go.RowKit Go.Deep
section
variable {H : Type} {enc : TypeId × Value → H} {w : World} {base : Nat} {sp : Nat → Bool} {held : Bool}
theorem cells44 : Try.prog.cellsOf 44 = 4 := by kernel_rfl
theorem okWide_arr44 {r : Reach} {b0 : Nat} {v : Value} (h : Value.okWide Try.prog w r b0 44 v) : ∃ cs : Array Value, v = .agg cs := by
  simp only [Value.okWide, Try.underlying44] at h
  obtain ⟨cs, h1, _⟩ := h
  exact ⟨cs, h1⟩
theorem nat255 {z : Int} (h : 0 ≤ z ∧ z ≤ 255) : ∃ k : Nat, z = k ∧ k ≤ 255 := by
  obtain ⟨k, rfl⟩ := Int.eq_ofNat_of_zero_le h.1
  exact ⟨k, rfl, by omega⟩
theorem open_arr44 {r : Reach} {b0 : Nat} {v : Value} {d : DataW H} {ps : List MemPlace} (hv : Value.okWide Try.prog w r b0 44 v) (h : DataW.Trod enc Try.prog w base sp held 44 v d ps) :
    ∃ (a b c d : Nat), v = .agg #[.int .u8 a, .int .u8 b, .int .u8 c, .int .u8 d] ∧ a ≤ 255 ∧ b ≤ 255 ∧ c ≤ 255 ∧ d ≤ 255 := by
  obtain ⟨cs, rfl⟩ := okWide_arr44 hv
  obtain ⟨fuel, hf⟩ := h
  obtain ⟨xs, n, _, _, hlen, hxl, hf⟩ := DataW.trod_array Try.underlying44 hf
  rw [cells44] at hlen
  obtain ⟨cs⟩ := cs
  have hcl : (Value.agg ⟨cs⟩).cells.toList = cs := by simp [Value.cells]
  rw [hcl] at hlen hf
  match cs, hlen with
  | [c0, c1, c2, c3], _ =>
    match xs, hxl with
    | [y0, y1, y2, y3], _ =>
      have h0 := hf 0 (by omega)
      have h1 := hf 1 (by omega)
      have h2 := hf 2 (by omega)
      have h3 := hf 3 (by omega)
      simp only [List.getElem?_cons_zero, List.getElem?_cons_succ] at h0 h1 h2 h3
      obtain ⟨a, e0, _, ha⟩ := DataW.trod_int Try.underlying5 h0
      obtain ⟨b, e1, _, hb⟩ := DataW.trod_int Try.underlying5 h1
      obtain ⟨c, e2, _, hc⟩ := DataW.trod_int Try.underlying5 h2
      obtain ⟨d, e3, _, hd⟩ := DataW.trod_int Try.underlying5 h3
      injection e0 with e0
      injection e1 with e1
      injection e2 with e2
      injection e3 with e3
      subst e0 e1 e2 e3
      obtain ⟨a, rfl, ka⟩ := nat255 ((Lit.wf_int_iff _ _).1 ha)
      obtain ⟨b, rfl, kb⟩ := nat255 ((Lit.wf_int_iff _ _).1 hb)
      obtain ⟨c, rfl, kc⟩ := nat255 ((Lit.wf_int_iff _ _).1 hc)
      obtain ⟨d, rfl, kd⟩ := nat255 ((Lit.wf_int_iff _ _).1 hd)
      exact ⟨a, b, c, d, rfl, ka, kb, kc, kd⟩
end
end Go.Proofs.Ytljjmoeplfcblaa

namespace Go.Proofs.Ytljjmoeplfcblaa
open Go.ChangeShapes Go.WideShapes Go.RowKit Go.Deep
section
variable {H : Type} {enc : TypeId × Value → H} {w : World} {base : Nat} {sp : Nat → Bool} {held : Bool}
theorem cells30 : Try.prog.cellsOf 30 = 2 := by kernel_rfl
theorem cells31 : Try.prog.cellsOf 31 = 2 := by kernel_rfl
theorem okWide_arr30 {r : Reach} {b0 : Nat} {v : Value} (h : Value.okWide Try.prog w r b0 30 v) : ∃ cs : Array Value, v = .agg cs := by
  simp only [Value.okWide, Try.underlying30] at h
  obtain ⟨cs, h1, _⟩ := h
  exact ⟨cs, h1⟩
theorem okWide_arr31 {r : Reach} {b0 : Nat} {v : Value} (h : Value.okWide Try.prog w r b0 31 v) : ∃ cs : Array Value, v = .agg cs := by
  simp only [Value.okWide, Try.underlying31] at h
  obtain ⟨cs, h1, _⟩ := h
  exact ⟨cs, h1⟩
theorem open_arr30 {r : Reach} {b0 : Nat} {v : Value} {d : DataW H} {ps : List MemPlace} (hv : Value.okWide Try.prog w r b0 30 v) (h : DataW.Trod enc Try.prog w base sp held 30 v d ps) :
    ∃ (a b : Int), v = .agg #[.int .i64 a, .int .i64 b] ∧ (-9223372036854775808 ≤ a ∧ a ≤ 9223372036854775807) ∧ (-9223372036854775808 ≤ b ∧ b ≤ 9223372036854775807) := by
  obtain ⟨cs, rfl⟩ := okWide_arr30 hv
  obtain ⟨fuel, hf⟩ := h
  obtain ⟨xs, n, _, _, hlen, hxl, hf⟩ := DataW.trod_array Try.underlying30 hf
  rw [cells30] at hlen
  obtain ⟨cs⟩ := cs
  have hcl : (Value.agg ⟨cs⟩).cells.toList = cs := by simp [Value.cells]
  rw [hcl] at hlen hf
  match cs, hlen with
  | [c0, c1], _ =>
    match xs, hxl with
    | [y0, y1], _ =>
      have h0 := hf 0 (by omega)
      have h1 := hf 1 (by omega)
      simp only [List.getElem?_cons_zero, List.getElem?_cons_succ] at h0 h1
      obtain ⟨a, e0, _, ha⟩ := DataW.trod_int Try.underlying3 h0
      obtain ⟨b, e1, _, hb⟩ := DataW.trod_int Try.underlying3 h1
      injection e0 with e0
      injection e1 with e1
      subst e0 e1
      exact ⟨a, b, rfl, (Lit.wf_int_iff _ _).1 ha, (Lit.wf_int_iff _ _).1 hb⟩
theorem open_arr31 {r : Reach} {b0 : Nat} {v : Value} {d : DataW H} {ps : List MemPlace} (hv : Value.okWide Try.prog w r b0 31 v) (h : DataW.Trod enc Try.prog w base sp held 31 v d ps) :
    ∃ (a b : List UInt8), v = .agg #[.string ⟨a.toArray⟩, .string ⟨b.toArray⟩] ∧ a.length ≤ 9223372036854775807 ∧ b.length ≤ 9223372036854775807 := by
  obtain ⟨cs, rfl⟩ := okWide_arr31 hv
  obtain ⟨fuel, hf⟩ := h
  obtain ⟨xs, n, _, _, hlen, hxl, hf⟩ := DataW.trod_array Try.underlying31 hf
  rw [cells31] at hlen
  obtain ⟨cs⟩ := cs
  have hcl : (Value.agg ⟨cs⟩).cells.toList = cs := by simp [Value.cells]
  rw [hcl] at hlen hf
  match cs, hlen with
  | [c0, c1], _ =>
    match xs, hxl with
    | [y0, y1], _ =>
      have h0 := hf 0 (by omega)
      have h1 := hf 1 (by omega)
      simp only [List.getElem?_cons_zero, List.getElem?_cons_succ] at h0 h1
      obtain ⟨⟨⟨a⟩⟩, e0, _, ha⟩ := DataW.trod_string Try.underlying9 h0
      obtain ⟨⟨⟨b⟩⟩, e1, _, hb⟩ := DataW.trod_string Try.underlying9 h1
      injection e0 with e0
      injection e1 with e1
      subst e0 e1
      exact ⟨a, b, rfl, by simpa [ByteArray.size, maxLen] using ha, by simpa [ByteArray.size, maxLen] using hb⟩
end
end Go.Proofs.Ytljjmoeplfcblaa

namespace Go.Proofs.Ytljjmoeplfcblaa
open Go.ChangeShapes Go.WideShapes Go.RowKit Go.Deep
section
variable {H : Type} {enc : TypeId × Value → H} {w : World} {base : Nat} {sp : Nat → Bool} {held : Bool}
theorem cells46 : Try.prog.cellsOf 46 = 6 := by kernel_rfl
theorem open_claiml {fuel : Nat} {cs : List Value} {x : DataW H × List MemPlace} (h : DataW.trod enc Try.prog w base sp held fuel 46 cs = some x) :
    ∃ (N I : Int) (LA : Option Addr) (lm lc : Nat) (LL : List (List UInt8)) (PA : Option Addr) (pm pc : Nat) (PL : List (List UInt8)) (a b : List UInt8),
      cs = [.int .i64 N, .int .i64 I, .slice LA lm lc, .slice PA pm pc, .string ⟨a.toArray⟩, .string ⟨b.toArray⟩] ∧ I64 N ∧ I64 I ∧ Raw w LA lm lc LL ∧ Raw w PA pm pc PL ∧ a.length ≤ 9223372036854775807 ∧ b.length ≤ 9223372036854775807 := by
  obtain ⟨xs, n, _, _, hlen, hxl, hf⟩ := DataW.trod_struct Try.underlying46 h
  rw [cells46] at hlen
  match cs, hlen with
  | [c0, c1, c2, c3, c4, c5], _ =>
    simp only [List.size_toArray, List.length_cons, List.length_nil] at hxl
    match xs, hxl with
    | [y0, y1, y2, y3, y4, y5], _ =>
      have h0 := hf 0 _ rfl
      have h1 := hf 1 _ rfl
      have h2 := hf 2 _ rfl
      have h3 := hf 3 _ rfl
      have h4 := hf 4 _ rfl
      have h5 := hf 5 _ rfl
      simp only [List.getElem?_cons_zero, List.getElem?_cons_succ] at h0 h1 h2 h3 h4 h5
      obtain ⟨N, e0, _, hN⟩ := DataW.trod_int Try.underlying3 h0
      obtain ⟨I, e1, _, hI⟩ := DataW.trod_int Try.underlying3 h1
      obtain ⟨LA, lm, lc, LL, e2, hL⟩ := open_rawl h2
      obtain ⟨PA, pm, pc, PL, e3, hP⟩ := open_rawl h3
      obtain ⟨⟨⟨a⟩⟩, e4, _, ha⟩ := DataW.trod_string Try.underlying9 h4
      obtain ⟨⟨⟨b⟩⟩, e5, _, hb⟩ := DataW.trod_string Try.underlying9 h5
      injection e0 with e0
      injection e1 with e1
      injection e2 with e2
      injection e3 with e3
      injection e4 with e4
      injection e5 with e5
      subst e0 e1 e2 e3 e4 e5
      exact ⟨N, I, LA, lm, lc, LL, PA, pm, pc, PL, a, b, rfl, (Lit.wf_int_iff _ _).1 hN, (Lit.wf_int_iff _ _).1 hI, hL, hP, by simpa [ByteArray.size, maxLen] using ha, by simpa [ByteArray.size, maxLen] using hb⟩
theorem okWide_agg46 {r : Reach} {b0 : Nat} {v : Value} (h : Value.okWide Try.prog w r b0 46 v) : ∃ cs : Array Value, v = .agg cs := by
  simp only [Value.okWide, Try.underlying46] at h
  obtain ⟨cs, h1, _⟩ := h
  exact ⟨cs, h1⟩
theorem open_claim {r : Reach} {b0 : Nat} {v : Value} {d : DataW H} {ps : List MemPlace} (hv : Value.okWide Try.prog w r b0 46 v) (h : DataW.Trod enc Try.prog w base sp held 46 v d ps) :
    ∃ (N I : Int) (LA : Option Addr) (lm lc : Nat) (LL : List (List UInt8)) (PA : Option Addr) (pm pc : Nat) (PL : List (List UInt8)) (a b : List UInt8),
      v = .agg #[.int .i64 N, .int .i64 I, .slice LA lm lc, .slice PA pm pc, .string ⟨a.toArray⟩, .string ⟨b.toArray⟩] ∧ I64 N ∧ I64 I ∧ Raw w LA lm lc LL ∧ Raw w PA pm pc PL ∧ a.length ≤ 9223372036854775807 ∧ b.length ≤ 9223372036854775807 := by
  obtain ⟨⟨cs⟩, rfl⟩ := okWide_agg46 hv
  obtain ⟨fuel, hf⟩ := h
  obtain ⟨N, I, LA, lm, lc, LL, PA, pm, pc, PL, a, b, e, h1, h2, h3, h4, h5, h6⟩ := open_claiml hf
  have e2 : cs = [.int .i64 N, .int .i64 I, .slice LA lm lc, .slice PA pm pc, .string ⟨a.toArray⟩, .string ⟨b.toArray⟩] := by simpa [Value.cells] using e
  subst e2
  exact ⟨N, I, LA, lm, lc, LL, PA, pm, pc, PL, a, b, rfl, h1, h2, h3, h4, h5, h6⟩
end
end Go.Proofs.Ytljjmoeplfcblaa
