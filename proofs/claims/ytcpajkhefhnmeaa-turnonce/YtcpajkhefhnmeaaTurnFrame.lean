/-
  What every proof of a row of stage 4 uses.
-/
import Derived.Test.YtcpajkhefhnmeaaRows
import Derived.Test.YtcpajkhefhnmeaaTurnKit
import Derived.Test.YtcpajkhefhnmeaaRefTurn
import Derived.ProofKit
import Derived.OpenShut
import Derived.ShutString
import Derived.ChangeOld
import Derived.Below
import Derived.BigQuiet
import Derived.SizedLaws
namespace Go.Proofs.Ytcpajkhefhnmeaa
open Go.ChangeShapes Go.WideShapes Go.ChangeAt Go.RowKit

theorem own : ownKnob Try.prog.godebug = none := by kernel_rfl
theorem laidOut : laidOutB Try.prog = true := by kernel_rfl

theorem u_mod (f : Int) (m : Nat) (hm : 0 < m) : ∃ F : Nat, F < m ∧ (IntKind.u64.wrap f).tmod (m : Int) = (F : Int) := by
  rw [IntKind.wrap_u64, Int.tmod_eq_emod_of_nonneg (by omega)]
  have h1 := Int.emod_nonneg (f % 18446744073709551616) (show (m : Int) ≠ 0 by omega)
  have h2 := Int.emod_lt_of_pos (f % 18446744073709551616) (show (0 : Int) < (m : Int) by omega)
  exact ⟨(f % 18446744073709551616 % (m : Int)).toNat, by omega, by omega⟩

end Go.Proofs.Ytcpajkhefhnmeaa
