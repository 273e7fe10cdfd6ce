/-
  What every proof of a row of stage 8 uses.
-/
import Derived.Test.YtcafjjfaamjipaaRows
import Derived.Test.YtcafjjfaamjipaaTableAwake
import Derived.Test.YtcafjjfaamjipaaHostsOpen
import Derived.ProofKit
import Derived.OpenShut
import Derived.ShutString
import Derived.ChangeOld
import Derived.Below
import Derived.BigQuiet
import Derived.SizedLaws
namespace Go.Proofs.Ytcafjjfaamjipaa
open Go.ChangeShapes Go.WideShapes Go.ChangeAt Go.RowKit

theorem own : ownKnob Try.prog.godebug = none := by kernel_rfl
theorem laidOut : laidOutB Try.prog = true := by kernel_rfl

end Go.Proofs.Ytcafjjfaamjipaa
