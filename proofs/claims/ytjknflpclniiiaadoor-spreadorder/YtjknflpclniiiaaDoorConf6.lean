/-
  The contracts of package config's Default and May.
-/
import Derived.Test.YtjknflpclniiiaaDoorConf5
import Derived.Laws.Tables
namespace Go.Proofs.YtjknflpclniiiaaDoor
open Go.RowKit

/-- The numbers as far as Default has come. -/
def defN (k : Nat) : List Int := defNums.take k ++ (List.replicate 23 0).drop k
theorem defN_step (k : Nat) (hk : k < 23) : (defN k).set k (numR k (mkS (rowK k).2.2.2)) = defN (k + 1) ∧ zonR ByteArray.empty k (mkS (rowK k).2.2.2) = ByteArray.empty ∧ (defN k).length = 23 ∧ (mkS (rowK k).2.2.2).size ≤ 9 := by
  have h : ∀ k : Fin 23, (defN k.1).set k.1 (numR k.1 (mkS (rowK k.1).2.2.2)) = defN (k.1 + 1) ∧ zonR ByteArray.empty k.1 (mkS (rowK k.1).2.2.2) = ByteArray.empty ∧ (defN k.1).length = 23 ∧ (mkS (rowK k.1).2.2.2).size ≤ 9 := by decide +kernel
  exact h ⟨k, hk⟩


end Go.Proofs.YtjknflpclniiiaaDoor
