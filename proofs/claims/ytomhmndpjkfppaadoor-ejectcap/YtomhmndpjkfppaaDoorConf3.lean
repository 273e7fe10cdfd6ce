/-
  The contract of package config's find.
-/
import Derived.Test.YtomhmndpjkfppaaDoorConf2
import Derived.Test.YtomhmndpjkfppaaDoorBase
namespace Go.Proofs.YtomhmndpjkfppaaDoor
open Go.RowKit

theorem find_at {s : ByteArray} (k : Nat) (hk : k < 23) (hn : ∀ j, j < k → (nameC j == s) = false) (hy : (nameC k == s) = true) : findC s = some k := by
  unfold findC
  rw [List.find?_eq_some_iff_getElem]
  refine ⟨hy, k, by simpa using hk, by simp, fun j hj => ?_⟩
  have := hn j hj
  simp [this]
theorem find_no {s : ByteArray} (hn : ∀ j, j < 23 → (nameC j == s) = false) : findC s = none := by
  unfold findC
  rw [List.find?_eq_none]
  intro j hj
  have := hn j (by simpa using hj)
  simp [this]

end Go.Proofs.YtomhmndpjkfppaaDoor
