/-
  What every proof of a row of stage 15 uses; the plain mathematics of drains.
-/
import Derived.Test.YthmfmeibjpgokaaRows
import Derived.Test.YthmfmeibjpgokaaDrainAwake
import Derived.Test.YthmfmeibjpgokaaStatOpen
import Derived.Test.YthmfmeibjpgokaaHostLaw
import Derived.Test.YthmfmeibjpgokaaHostMP
import Derived.ProofKit
import Derived.OpenShut
import Derived.ShutString
import Derived.ChangeOld
import Derived.Below
import Derived.BigQuiet
import Derived.SizedLaws
namespace Go.Proofs.Ythmfmeibjpgokaa
open Go.ChangeShapes Go.WideShapes Go.ChangeAt Go.RowKit

theorem own : ownKnob Try.prog.godebug = none := by kernel_rfl
theorem laidOut : laidOutB Try.prog = true := by kernel_rfl

theorem timeE_le {a b : Int} (h : a ≤ b) : timeE a ≤ timeE b := by
  unfold timeE
  repeat' split
  all_goals omega
theorem leftD_falls {s : StatT} {a b : Int} (h : a ≤ b) : leftD s b ≤ leftD s a := by
  have := timeE_le h
  unfold leftD
  repeat' split
  all_goals omega
theorem overD_stays {s : StatT} {a b : Int} (h : a ≤ b) (ho : overD s a = true) : overD s b = true := by
  have := timeE_le h
  unfold overD at ho ⊢
  simp only [Bool.and_eq_true, Bool.or_eq_true, decide_eq_true_eq] at ho ⊢
  exact ⟨ho.1, ho.2.imp_right fun h2 => by omega⟩
theorem leftD_end (s : StatT) : leftD s 4611686018427387904 = 0 := by
  have := timeE_bd s.gone
  unfold leftD
  rw [timeE_self (n := 4611686018427387904) (by omega)]
  repeat' split
  all_goals omega
theorem leftD_none {s : StatT} (h : s.drains = false) (n : Int) : leftD s n = 0 := by unfold leftD; rw [h]; rfl
theorem overD_none {s : StatT} (h : s.drains = false) (n : Int) : overD s n = false := by unfold overD; rw [h]; rfl
/-- 'int(uint64(f) % m)'. -/
theorem u_modI (f m : Int) (hm : 0 < m) (hM : m ≤ 4611686018427387904) : ∃ X : Int, (IntKind.u64.wrap f).tmod m = X ∧ IntKind.u64.wrap X = X ∧ IntKind.i64.wrap X = X ∧ 0 ≤ X ∧ X < m := by
  rw [IntKind.wrap_u64, Int.tmod_eq_emod_of_nonneg (by omega)]
  have h1 := Int.emod_nonneg (f % 18446744073709551616) (show m ≠ 0 by omega)
  have h2 := Int.emod_lt_of_pos (f % 18446744073709551616) hm
  refine ⟨_, rfl, ?_, ?_, h1, h2⟩
  · rw [IntKind.wrap_u64]; omega
  · rw [IntKind.wrap_i64]; omega

end Go.Proofs.Ythmfmeibjpgokaa
