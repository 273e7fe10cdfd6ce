/-
  What every proof of a row of this seat uses: how a number, a slice of numbers, that came in is opened.
-/
import Derived.Test.YtkhklfbgfikeoaaRows
import Derived.Test.YtkhklfbgfikeoaaAwake
import Derived.ProofKit
import Derived.OpenShut
import Derived.ShutString
import Derived.ChangeOld
import Derived.Below
import Derived.BigQuiet
import Derived.SizedLaws
namespace Go.Proofs.Ytkhklfbgfikeoaa
open Go.ChangeShapes Go.WideShapes Go.ChangeAt Go.RowKit
open Go.ChangeMaps (open_string shut_string)

theorem own : ownKnob Try.prog.godebug = none := by kernel_rfl
theorem laidOut : laidOutB Try.prog = true := by kernel_rfl

end Go.Proofs.Ytkhklfbgfikeoaa
