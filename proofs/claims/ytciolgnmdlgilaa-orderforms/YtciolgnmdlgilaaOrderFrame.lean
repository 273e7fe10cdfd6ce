/-
  What every proof of a row of stage 3 uses.
-/
import Derived.Test.YtciolgnmdlgilaaRows
import Derived.Test.YtciolgnmdlgilaaOrder2
import Derived.Test.YtciolgnmdlgilaaKeyOpen
import Derived.ProofKit
import Derived.OpenShut
import Derived.ShutString
import Derived.ChangeOld
import Derived.Below
import Derived.BigQuiet
import Derived.SizedLaws
namespace Go.Proofs.Ytciolgnmdlgilaa
open Go.ChangeShapes Go.WideShapes Go.ChangeAt Go.RowKit

theorem own : ownKnob Try.prog.godebug = none := by kernel_rfl
theorem laidOut : laidOutB Try.prog = true := by kernel_rfl

end Go.Proofs.Ytciolgnmdlgilaa
