/-
  Boxes: a block that holds one host.
-/
import Derived.Test.YthmfmeibjpgokaaHostPlain
import Derived.Test.YthmfmeibjpgokaaBoxOne
namespace Go.Proofs.Ythmfmeibjpgokaa
open Go.RowKit Go.ChangeShapes

/-- The cells of a host. -/
abbrev hcells (h : HostT) (mv : Value) : Array Value := #[.int .i64 h.id, .string h.addr, .int .i64 h.prio, .string h.zone, .int .i64 h.weight, mv]
abbrev noHost : HostT := ⟨0, ByteArray.empty, 0, ByteArray.empty, 0, []⟩

end Go.Proofs.Ythmfmeibjpgokaa
