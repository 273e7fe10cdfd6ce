/-
  An outing; a time, the nearest. No program stands in it.
-/
import Derived.Test.YthmfmeibjpgokaaPlain
namespace Go.Proofs.Ythmfmeibjpgokaa

/-- An outing. -/
structure Og where
  out : Bool
  from_ : Int
  until_ : Int
  times : Int
deriving DecidableEq
abbrev noOg : Og := ⟨false, 0, 0, 0⟩
/-- A time, the nearest. -/
def timeE (n : Int) : Int := if n < 0 then 0 else if 4611686018427387904 < n then 4611686018427387904 else n

theorem timeE_bd (n : Int) : 0 ≤ timeE n ∧ timeE n ≤ 4611686018427387904 := by unfold timeE; split <;> (try split) <;> omega
theorem timeE_self {n : Int} (h : 0 ≤ n ∧ n ≤ 4611686018427387904) : timeE n = n := by unfold timeE; rw [if_neg (by omega), if_neg (by omega)]

end Go.Proofs.Ythmfmeibjpgokaa
