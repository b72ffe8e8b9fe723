/-
  DigestChecks answers true: Verify, Extends and Within return what the reference returns, for proofs of lists, changed ones, and any claim. Conditions: none.
-/
import Derived.Test.YtljjmoeplfcblaaDChecks
import Derived.Test.YtljjmoeplfcblaaOpn
import Derived.DataShut
namespace Go.Proofs.Ytljjmoeplfcblaa.fnChecks
open Go.ChangeShapes Go.WideShapes Go.ChangeAt Go.RowKit
open Go.ChangeMaps (open_string)
set_option maxRecDepth 100000 in
theorem lifted (os : Os) (started : os.Started) (H : Type) (enc : TypeId × Value → H) :
    ReturnsInHanded {} Try.checked os 6 .any (Rows.digestChecksSpec.pre6 enc Try.prog Try.f6 Rows.digestChecksRow.domain false) (Rows.digestChecksSpec.post enc Try.prog Try.f6 false true false false) := by
  refine returnsInHanded_of_change (C := Try.checked) own started (by kernel_rfl) Try.func6
    (ChangeSpec.witness6 (enc := enc) (C := Try.checked) false ⟨#[], #[.slice none 0 0, .agg #[.int .u8 0, .int .u8 0, .int .u8 0, .int .u8 0], .agg #[.int .i64 0, .int .i64 0, .slice none 0 0, .slice none 0 0, .string ⟨#[]⟩, .string ⟨#[]⟩]], []⟩ 8 (by kernel_rfl) (by kernel_rfl) (by kernel_rfl) (by kernel_rfl)) ?_
  intro W base args ds gs before hval0 hW _ _
  have hval : ∀ (j : Nat) t v, Try.f6.params[j]? = some t → args[j]? = some v → Value.okWide Try.prog W .any base t v := hval0
  have hW' := hW
  obtain ⟨p, q, hA0, hV, rfl, hfz, hnd⟩ := hW
  have hA : DataW.TrodAll enc Try.prog W 0 (fun _ => true) true Try.f6.params.toList args.toList ds p := hA0
  rw [Try.params6] at hA hval
  obtain ⟨v0, vs0, d0, ds0, p0, q0, hargs0, rfl, rfl, h0, r0⟩ := trodAll_cons hA
  obtain ⟨v1, vs1, d1, ds1, p1, q1, hargs1, rfl, rfl, h1, r1⟩ := trodAll_cons r0
  obtain ⟨v2, vs2, d2, ds2, p2, q2, hargs2, rfl, rfl, h2, r2⟩ := trodAll_cons r1
  obtain ⟨rfl, rfl, rfl⟩ := trodAll_nil r2
  obtain rfl : args = #[v0, v1, v2] := by cases args; simp_all
  obtain ⟨rfl, rfl⟩ := trodVars_none hV
  obtain ⟨A, n, c, l, rfl, hl⟩ := open_raw (hval 0 29 v0 rfl rfl) h0
  obtain ⟨q0, q1, q2, q3, rfl, b0, b1, b2, b3⟩ := open_arr44 (hval 1 44 v1 rfl rfl) h1
  obtain ⟨cN, cI, LA, lm, lc, LL, PA, pm, pc, PL, a, b, rfl, k0, k1, hL, hP, la, lb⟩ := open_claim (hval 2 46 v2 rfl rfl) h2
  refine (checks_walk A n c l q0 q1 q2 q3 b0 b1 b2 b3 cN cI k0 k1 LA lm lc LL PA pm pc PL a b la lb W hl hL hP).mono fun e W' ⟨he, hg⟩ => ?_
  subst he
  exact ⟨_, rfl, law_post kids full (by rw [show Try.checked.prog.types.size = 109 from types, Try.params6]; decide) (by kernel_rfl) Try.underlying4 rfl rfl hW' (below_of_grown hg)⟩

theorem said : Rows.DigestChecksSaid :=
  OpenClaim.holds_of_wide 6 Try.f6 rfl rfl rfl rfl rfl rfl rfl ⟨rfl, rfl, rfl, rfl, rfl⟩ rfl rfl rfl rfl rfl (by kernel_rfl) Try.func6 (by kernel_rfl)
    (of_decide_eq_true (by kernel_rfl)) (by unfold Func.isWrapper; first | (rw [if_pos (by decide +kernel)]; kernel_rfl) | (rw [if_neg (by decide +kernel)]; exact ⟨rfl, rfl⟩))
    (fun os started H enc _ => lifted os started H enc)
end Go.Proofs.Ytljjmoeplfcblaa.fnChecks
