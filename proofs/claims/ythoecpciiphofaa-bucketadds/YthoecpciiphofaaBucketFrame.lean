/-
  What every proof of a row of stage 12 uses.
-/
import Derived.Test.YthoecpciiphofaaRows
import Derived.Test.YthoecpciiphofaaBucket2
import Derived.ProofKit
import Derived.OpenShut
import Derived.ShutString
import Derived.ChangeOld
import Derived.Below
import Derived.BigQuiet
import Derived.SizedLaws
namespace Go.Proofs.Ythoecpciiphofaa
open Go.ChangeShapes Go.WideShapes Go.ChangeAt Go.RowKit

theorem own : ownKnob Try.prog.godebug = none := by kernel_rfl
theorem laidOut : laidOutB Try.prog = true := by kernel_rfl

end Go.Proofs.Ythoecpciiphofaa
