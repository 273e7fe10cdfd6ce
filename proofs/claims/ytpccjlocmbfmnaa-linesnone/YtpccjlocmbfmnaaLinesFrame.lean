/-
  What every proof of a row of stage 5 uses.
-/
import Derived.Test.YtpccjlocmbfmnaaRows
import Derived.Test.YtpccjlocmbfmnaaLines2
import Derived.Test.YtpccjlocmbfmnaaByteStr
import Derived.ProofKit
import Derived.OpenShut
import Derived.ShutString
import Derived.ChangeOld
import Derived.Below
import Derived.BigQuiet
import Derived.SizedLaws
namespace Go.Proofs.Ytpccjlocmbfmnaa
open Go.ChangeShapes Go.WideShapes Go.ChangeAt Go.RowKit

theorem own : ownKnob Try.prog.godebug = none := by kernel_rfl
theorem laidOut : laidOutB Try.prog = true := by kernel_rfl

theorem Try.bytes3 : Try.prog.bytesOf 3 = 8 := by kernel_rfl

theorem u_mod (f : Int) (m : Nat) (hm : 0 < m) : ∃ F : Nat, F < m ∧ (IntKind.u64.wrap f).tmod (m : Int) = (F : Int) := by
  rw [IntKind.wrap_u64, Int.tmod_eq_emod_of_nonneg (by omega)]
  have h1 := Int.emod_nonneg (f % 18446744073709551616) (show (m : Int) ≠ 0 by omega)
  have h2 := Int.emod_lt_of_pos (f % 18446744073709551616) (show (0 : Int) < (m : Int) by omega)
  exact ⟨(f % 18446744073709551616 % (m : Int)).toNat, by omega, by omega⟩

theorem u8_of (a : Int) (h : 0 ≤ a ∧ a ≤ 255) : ∃ c : UInt8, a = (c.toNat : Int) := ⟨UInt8.ofNat a.toNat, by rw [UInt8.toNat_ofNat_of_lt' (by simp [UInt8.size]; omega)]; omega⟩

end Go.Proofs.Ytpccjlocmbfmnaa
