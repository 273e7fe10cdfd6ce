/-
  'int(uint64(f) % m)': below m. No program stands in it.
-/
import Derived.Test.YtomhmndpjkfppaaDoorBase
namespace Go.Proofs.YtomhmndpjkfppaaDoor

theorem u_modl (f : Int) (m : Nat) (hm : 0 < m) : ∃ F : Nat, F < m ∧ (IntKind.u64.wrap f).tmod (m : Int) = (F : Int) := by
  rw [IntKind.wrap_u64, Int.tmod_eq_emod_of_nonneg (by omega)]
  have h1 := Int.emod_nonneg (f % 18446744073709551616) (show (m : Int) ≠ 0 by omega)
  have h2 := Int.emod_lt_of_pos (f % 18446744073709551616) (show (0 : Int) < m by omega)
  exact ⟨((f % 18446744073709551616) % (m : Int)).toNat, by omega, by omega⟩

end Go.Proofs.YtomhmndpjkfppaaDoor
