/-
  The reference's answers to chapter 6: the table, its numbers, what may be.
-/
import Derived.Test.YtomhmndpjkfppaaDoorBase
import Derived.Test.YtomhmndpjkfppaaDoorRefWord
import Derived.Deep.RegionHeld3
namespace Go.Proofs.YtomhmndpjkfppaaDoor
open Go.RowKit

/-- A configuration as a value. -/
def Cfg.cells (c : Cfg) : List Value := [.int .i64 c.f0, .int .i64 c.f1, .int .i64 c.f2, .int .i64 c.f3, .int .i64 c.f4, .int .i64 c.f5, .int .i64 c.f6, .int .i64 c.f7, .int .i64 c.f8, .int .i64 c.f9, .int .i64 c.f10, .int .i64 c.f11, .int .i64 c.f12, .int .i64 c.f13, .int .i64 c.f14, .bool c.one, .int .i64 c.f16, .int .i64 c.f17, .int .i64 c.f18, .int .i64 c.f19, .int .i64 c.f20, .string c.zone, .bool c.fb]
def Cfg.val (c : Cfg) : Value := .agg #[.int .i64 c.f0, .int .i64 c.f1, .int .i64 c.f2, .int .i64 c.f3, .int .i64 c.f4, .int .i64 c.f5, .int .i64 c.f6, .int .i64 c.f7, .int .i64 c.f8, .int .i64 c.f9, .int .i64 c.f10, .int .i64 c.f11, .int .i64 c.f12, .int .i64 c.f13, .int .i64 c.f14, .bool c.one, .int .i64 c.f16, .int .i64 c.f17, .int .i64 c.f18, .int .i64 c.f19, .int .i64 c.f20, .string c.zone, .bool c.fb]

def rowsV : List Value := tabC.flatMap fun r => [.string (mkS r.1), .int .i64 r.2.1, .int .i64 r.2.2.1, .int .i64 r.2.2.2]

set_option maxRecDepth 100000 in
set_option maxHeartbeats 2000000 in
theorem rRows_any (w : World) :
    Calls Tryd.prog 16 #[] w fun e w' => ∃ v, e = .returned v ∧ IsRow 4 w' v 23 rowsV ∧ Below w.heap.size w w' := by
  go_enter Tryd.func16, Tryd.ntmps16
  go_wp2
  go_ret
  exact ⟨_, rfl, IsRow.fresh w rowsV 4 23 _ 23 rfl (by omega) (by unfold maxLen; omega) (by omega), (Below.refl _ _).alloc (Nat.le_refl _) _⟩

set_option maxHeartbeats 1000000 in
theorem rBit_any (b : Bool) (w : World) :
    Calls Tryd.prog 24 #[.bool b] w fun e w' => e = .returned (.int .i64 (bitV b)) ∧ w' = w := by
  cases b
  all_goals
    go_enter Tryd.func24, Tryd.ntmps24
    go_wp2
    go_ret
    exact ⟨rfl, rfl⟩

end Go.Proofs.YtomhmndpjkfppaaDoor
