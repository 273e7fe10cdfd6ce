/-
  Contracts of package host: names that rise.
-/
import Derived.Test.YthmfmeibjpgokaaHost1
import Derived.Deep.RegionHeld3
namespace Go.Proofs.Ythmfmeibjpgokaa
open Go.RowKit

theorem below_drewN {n : Nat} {w w' : World} (h : Below n w w') (k : Nat) : Below n w (w'.drewN k) := by
  induction k with
  | zero => simpa [World.drewN] using h
  | succ k ih => exact ih.drew

theorem geq_str (t : TypeId) (a b : ByteArray) : binOp .geq t (.string a) (.string b) = pure (.bool !(Op.bytesLess a.toList b.toList)) := by simp [binOp, Op.stringOp]
theorem leq_str (t : TypeId) (a b : ByteArray) : binOp .leq t (.string a) (.string b) = pure (.bool (Op.bytesLess a.toList b.toList || a.toList == b.toList)) := by simp [binOp, Op.stringOp]


end Go.Proofs.Ythmfmeibjpgokaa
