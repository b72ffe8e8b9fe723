/-
  DigestBetween answers true: what Around returns for a sorted list shows exactly its strings between two others, and a changed claim is refused, unless it leads to the same digest. Conditions: none.
-/
import Derived.Test.YtljjmoeplfcblaaDBtw
import Derived.Test.YtljjmoeplfcblaaOpn
import Derived.DataShut
namespace Go.Proofs.Ytljjmoeplfcblaa.fnBetween
open Go.ChangeShapes Go.WideShapes Go.ChangeAt Go.RowKit
open Go.ChangeMaps (open_string)
set_option maxRecDepth 100000 in
theorem lifted (os : Os) (started : os.Started) (H : Type) (enc : TypeId × Value → H) :
    ReturnsInHanded {} Try.checked os 9 .any (Rows.digestBetweenSpec.pre6 enc Try.prog Try.f9 Rows.digestBetweenRow.domain false) (Rows.digestBetweenSpec.post enc Try.prog Try.f9 false true false false) := by
  refine returnsInHanded_of_change (C := Try.checked) own started (by kernel_rfl) Try.func9
    (ChangeSpec.witness6 (enc := enc) (C := Try.checked) false ⟨#[], #[.slice none 0 0, .agg #[.string ⟨#[]⟩, .string ⟨#[]⟩], .agg #[.int .u8 0, .int .u8 0, .int .u8 0, .int .u8 0]], []⟩ 8 (by kernel_rfl) (by kernel_rfl) (by kernel_rfl) (by kernel_rfl)) ?_
  intro W base args ds gs before hval0 hW _ _
  have hval : ∀ (j : Nat) t v, Try.f9.params[j]? = some t → args[j]? = some v → Value.okWide Try.prog W .any base t v := hval0
  have hW' := hW
  obtain ⟨p, q, hA0, hV, rfl, hfz, hnd⟩ := hW
  have hA : DataW.TrodAll enc Try.prog W 0 (fun _ => true) true Try.f9.params.toList args.toList ds p := hA0
  rw [Try.params9] at hA hval
  obtain ⟨v0, vs0, d0, ds0, p0, q0, hargs0, rfl, rfl, h0, r0⟩ := trodAll_cons hA
  obtain ⟨v1, vs1, d1, ds1, p1, q1, hargs1, rfl, rfl, h1, r1⟩ := trodAll_cons r0
  obtain ⟨v2, vs2, d2, ds2, p2, q2, hargs2, rfl, rfl, h2, r2⟩ := trodAll_cons r1
  obtain ⟨rfl, rfl, rfl⟩ := trodAll_nil r2
  obtain rfl : args = #[v0, v1, v2] := by cases args; simp_all
  obtain ⟨rfl, rfl⟩ := trodVars_none hV
  obtain ⟨A, n, c, l, rfl, hl⟩ := open_raw (hval 0 29 v0 rfl rfl) h0
  obtain ⟨a, b, rfl, la, lb⟩ := open_arr31 (hval 1 31 v1 rfl rfl) h1
  obtain ⟨q0, q1, q2, q3, rfl, b0, b1, b2, b3⟩ := open_arr44 (hval 2 44 v2 rfl rfl) h2
  refine (btw_walk A n c l a b la lb q0 q1 q2 q3 b0 b1 b2 b3 W hl.len hl.cap hl.le hl.sl hl.cell).mono fun e W' ⟨he, hg⟩ => ?_
  subst he
  exact ⟨_, rfl, law_post kids full (by rw [show Try.checked.prog.types.size = 109 from types, Try.params9]; decide) (by kernel_rfl) Try.underlying4 rfl rfl hW' (below_of_grown hg)⟩

theorem said : Rows.DigestBetweenSaid :=
  OpenClaim.holds_of_wide 9 Try.f9 rfl rfl rfl rfl rfl rfl rfl ⟨rfl, rfl, rfl, rfl, rfl⟩ rfl rfl rfl rfl rfl (by kernel_rfl) Try.func9 (by kernel_rfl)
    (of_decide_eq_true (by kernel_rfl)) (by unfold Func.isWrapper; first | (rw [if_pos (by decide +kernel)]; kernel_rfl) | (rw [if_neg (by decide +kernel)]; exact ⟨rfl, rfl⟩))
    (fun os started H enc _ => lifted os started H enc)
end Go.Proofs.Ytljjmoeplfcblaa.fnBetween
