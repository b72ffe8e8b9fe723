/-
  What every card of this seat needs.
-/
import Derived.Test.YtljjmoeplfcblaaRows
import Derived.Test.YtljjmoeplfcblaaPost
import Derived.Test.YtljjmoeplfcblaaBase
import Derived.ProofKit
import Derived.OpenShut
import Derived.ChangeMaps
import Derived.SizedLaws
namespace Go.Proofs.Ytljjmoeplfcblaa
open Go.ChangeShapes Go.WideShapes Go.ChangeAt Go.RowKit
theorem own : ownKnob Try.prog.godebug = none := by kernel_rfl
theorem kids : Kids Try.prog (· < Try.prog.types.size) := kids_rows (by kernel_rfl) (by kernel_rfl)
theorem full : ∀ t e, t < Try.prog.types.size → Try.prog.underlying t = some (.slice e) → 0 < Try.prog.cellsOf e := slices_full_of Try.prog (by kernel_rfl)
theorem types : Try.prog.types.size = 109 := by kernel_rfl
end Go.Proofs.Ytljjmoeplfcblaa
