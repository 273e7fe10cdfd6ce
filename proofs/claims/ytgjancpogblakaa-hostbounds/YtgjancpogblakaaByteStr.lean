/-
  'string([]byte{c})'.
-/
import Derived.Test.YtgjancpogblakaaChecked
import Derived.WalkKit
import Derived.WalkSpells
import Derived.ChangeOld
import Derived.Laws.Bits64
namespace Go.Proofs.Ytgjancpogblakaa
open Go.RowKit

/-- 'string([]byte{c})', wherever the row lies. -/
theorem conv_at (w : World) (g : Nat) (c : UInt8) (h : w.cell? ⟨g, 0, none⟩ = some (.int .u8 (c.toNat : Int))) :
    (convert 37 9 (.slice (some ⟨g, 0, none⟩) 1 1)).run Try.prog w = .ok (.string ⟨[c].toArray⟩) w := by
  refine run_convert_bytes_back (P := Try.prog) _ 37 9 5 ⟨g, 0, none⟩ 1 [c] Try.underlying37 Try.underlying5 Try.underlying9 (fun j hj => ?_)
  obtain rfl : j = 0 := by simpa using hj
  simpa [Addr.add] using h

end Go.Proofs.Ytgjancpogblakaa
