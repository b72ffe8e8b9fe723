/-
  ScaleOrder answers true: of two different grades on a scale exactly one is better, Worst is better than none, none is better than Best, and with all signs changed nothing changes. Conditions: none (every argument).
-/
import Derived.Test.YtcilclbolmijfaaOrder
import Derived.Test.YtcilclbolmijfaaOpen
import Derived.Test.YtcilclbolmijfaaLaid
import Derived.DataShut
namespace Go.Proofs.Ytcilclbolmijfaa.fnOrder
open Go.ChangeShapes Go.WideShapes Go.ChangeAt Go.RowKit
open Go.ChangeMaps (open_string)
set_option maxRecDepth 100000 in
theorem lifted (os : Os) (started : os.Started) (H : Type) (enc : TypeId × Value → H) :
    ReturnsInHanded {} Try.checked os 5 .any (Rows.scaleOrderSpec.pre6 enc Try.prog Try.f5 Rows.scaleOrderRow.domain false) (Rows.scaleOrderSpec.post enc Try.prog Try.f5 false true false false) := by
  refine returnsInHanded_of_change (C := Try.checked) own started (by kernel_rfl) Try.func5
    (ChangeSpec.witness6 (enc := enc) (C := Try.checked) false ⟨#[], #[.slice none 0 0, .int .u16 0, .int .u16 0], []⟩ 8 (by kernel_rfl) (by kernel_rfl) (by kernel_rfl) (by kernel_rfl)) ?_
  intro W base args ds gs before hval0 hW _ _
  have hval : ∀ (j : Nat) t v, Try.f5.params[j]? = some t → args[j]? = some v → Value.okWide Try.prog W .any base t v := hval0
  have hW' := hW
  obtain ⟨p, q, hA0, hV, rfl, hfz, hnd⟩ := hW
  have hA : DataW.TrodAll enc Try.prog W 0 (fun _ => true) true Try.f5.params.toList args.toList ds p := hA0
  rw [Try.params5] at hA hval
  obtain ⟨v0, vs0, d0, ds0, p0, q0, hargs0, rfl, rfl, h0, r0⟩ := trodAll_cons hA
  obtain ⟨v1, vs1, d1, ds1, p1, q1, hargs1, rfl, rfl, h1, r1⟩ := trodAll_cons r0
  obtain ⟨v2, vs2, d2, ds2, p2, q2, hargs2, rfl, rfl, h2, r2⟩ := trodAll_cons r1
  obtain ⟨rfl, rfl, rfl⟩ := trodAll_nil r2
  obtain rfl : args = #[v0, v1, v2] := by cases args; simp_all
  obtain ⟨rfl, rfl⟩ := trodVars_none hV
  obtain ⟨A0, n0, c0, l0, rfl, hn0, hc0, hm0, hN0⟩ := open_ints (hval 0 22 v0 rfl rfl) h0
  obtain ⟨P, rfl, rfl, rfl, hP⟩ := open_int Try.underlying52 (hval 1 52 v1 rfl rfl) h1
  obtain ⟨Q, rfl, rfl, rfl, hQ⟩ := open_int Try.underlying52 (hval 2 52 v2 rfl rfl) h2
  refine (order_walk A0 n0 c0 l0 P Q ((Lit.wf_int_iff _ _).1 hP) ((Lit.wf_int_iff _ _).1 hQ) W hn0 (Nat.le_trans hc0 hm0) hN0).mono fun e W' ⟨he, hg⟩ => ?_
  subst he
  exact ⟨_, rfl, law_post kids full (by rw [show Try.checked.prog.types.size = 100 from types, Try.params5]; decide) (by kernel_rfl) Try.underlying4 rfl rfl hW' (below_of_grown hg)⟩

theorem said : Rows.ScaleOrderSaid :=
  OpenClaim.holds_of_wide 5 Try.f5 rfl rfl rfl rfl rfl rfl rfl ⟨rfl, rfl, rfl, rfl, rfl⟩ rfl rfl rfl rfl rfl (by kernel_rfl) Try.func5 (by kernel_rfl)
    (of_decide_eq_true (by kernel_rfl)) (by unfold Func.isWrapper; first | (rw [if_pos (by decide +kernel)]; kernel_rfl) | (rw [if_neg (by decide +kernel)]; exact ⟨rfl, rfl⟩))
    (fun os started H enc _ => lifted os started H enc)
end Go.Proofs.Ytcilclbolmijfaa.fnOrder
