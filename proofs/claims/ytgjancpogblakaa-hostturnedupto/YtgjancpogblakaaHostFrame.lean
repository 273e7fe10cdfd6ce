/-
  What every proof of a row of stage 7 uses.
-/
import Derived.Test.YtgjancpogblakaaRows
import Derived.Test.YtgjancpogblakaaHostAwake
import Derived.Test.YtgjancpogblakaaHostOpen
import Derived.Test.YtgjancpogblakaaRefHost2
import Derived.ProofKit
import Derived.OpenShut
import Derived.ShutString
import Derived.ChangeOld
import Derived.Below
import Derived.BigQuiet
import Derived.SizedLaws
namespace Go.Proofs.Ytgjancpogblakaa
open Go.ChangeShapes Go.WideShapes Go.ChangeAt Go.RowKit

theorem own : ownKnob Try.prog.godebug = none := by kernel_rfl
theorem laidOut : laidOutB Try.prog = true := by kernel_rfl

end Go.Proofs.Ytgjancpogblakaa
