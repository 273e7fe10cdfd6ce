/-
  The contract of the statements' own Parts (package triageref1): the parts of a text.
-/
import Derived.Test.YtomhmndpjkfppaaDoorBase
import Derived.Test.YtomhmndpjkfppaaDoorChecked
import Derived.WalkSmall
namespace Go.Proofs.YtomhmndpjkfppaaDoor
open Go.RowKit

theorem infoStr0 : (Tryd.prog.info? 9).map (fun i => (i.zero, i.size, i.bytes)) = some (some (.string ByteArray.empty), 1, 16) := by kernel_rfl

end Go.Proofs.YtomhmndpjkfppaaDoor
