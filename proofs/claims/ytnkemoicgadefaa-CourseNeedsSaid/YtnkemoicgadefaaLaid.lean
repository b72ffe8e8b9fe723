/-
  What every card of this seat needs.
-/
import Derived.Test.YtnkemoicgadefaaRows
import Derived.Test.YtnkemoicgadefaaPost
import Derived.Test.YtnkemoicgadefaaFew
import Derived.ProofKit
import Derived.OpenShut
import Derived.ChangeMaps
import Derived.SizedLaws
namespace Go.Proofs.Ytnkemoicgadefaa
open Go.ChangeShapes Go.WideShapes Go.ChangeAt Go.RowKit
theorem below_of_grown {w w' : World} (h : w.grownBy w' none) : Below w.heap.size w w' := ⟨h.os, h.tape, h.output, h.size, fun i hi => h.block i hi (by simp)⟩
theorem own : ownKnob Try.prog.godebug = none := by kernel_rfl
theorem kids : Kids Try.prog (· < Try.prog.types.size) := kids_rows (by kernel_rfl) (by kernel_rfl)
theorem full : ∀ t e, t < Try.prog.types.size → Try.prog.underlying t = some (.slice e) → 0 < Try.prog.cellsOf e := slices_full_of Try.prog (by kernel_rfl)
theorem types : Try.prog.types.size = 131 := by kernel_rfl
end Go.Proofs.Ytnkemoicgadefaa
