/-
  What every row of this seat needs: the program sets no knob of its own. No condition.
-/
import Derived.Test.YtoablgcbjcgdcaaRows
import Derived.Test.YtoablgcbjcgdcaaClock
import Derived.ProofKit
import Derived.OpenShut
import Derived.ShutString
namespace Go.Proofs.Ytoablgcbjcgdcaa
theorem own : ownKnob Try.prog.godebug = none := by kernel_rfl
end Go.Proofs.Ytoablgcbjcgdcaa
