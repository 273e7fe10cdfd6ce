/-
  The contract of the statements' own Parts (package triageref1): the parts of a text.
-/
import Derived.Test.YtjknflpclniiiaaDoorBase
import Derived.Test.YtjknflpclniiiaaDoorChecked
import Derived.WalkSmall
namespace Go.Proofs.YtjknflpclniiiaaDoor
open Go.RowKit

theorem infoStr0 : (Tryd.prog.info? 9).map (fun i => (i.zero, i.size, i.bytes)) = some (some (.string ByteArray.empty), 1, 16) := by kernel_rfl

end Go.Proofs.YtjknflpclniiiaaDoor
