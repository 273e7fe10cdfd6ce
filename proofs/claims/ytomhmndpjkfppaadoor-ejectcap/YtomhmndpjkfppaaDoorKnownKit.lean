/-
  The configuration that a configuration counts as: what package after package asks of it; loads and stores of it as a whole.
-/
import Derived.Test.YtomhmndpjkfppaaDoorConf7
import Derived.Test.YtomhmndpjkfppaaDoorBase
import Derived.BigFrame
namespace Go.Proofs.YtomhmndpjkfppaaDoor
open Go.RowKit

/-- The configuration that c counts as. -/
def knownC (c : Cfg) : Cfg := if mayC c then c else defC
theorem arr_one (c : Cfg) : c.arr.all (·.oneCell') = true := by unfold Cfg.arr Cfg.cells; simp [Value.oneCell']
theorem arr_inf (c : Cfg) : (Tryd.prog.info? 23).map (·.size) = some c.arr.size := by rw [arr_size]; kernel_rfl
theorem wrap_in {x : Int} (h0 : -9223372036854775808 ≤ x) (h1 : x ≤ 9223372036854775807) : IntKind.i64.wrap x = x := by
  rw [IntKind.wrap_i64]; omega
theorem defC_may : mayC defC = true := by decide +kernel
theorem known_may (c : Cfg) : mayC (knownC c) = true := by
  unfold knownC
  split
  · assumption
  · exact defC_may
theorem known_self {c : Cfg} (h : mayC c = true) : knownC c = c := if_pos h
theorem may_num0 {c : Cfg} (h : mayC c = true) : 10 ≤ c.f0 ∧ c.f0 ≤ 10000 := of_decide_eq_true ((may_parts h).1 0 (by decide))
theorem may_num1 {c : Cfg} (h : mayC c = true) : 1 ≤ c.f1 ∧ c.f1 ≤ 10000 := of_decide_eq_true ((may_parts h).1 1 (by decide))
theorem may_num2 {c : Cfg} (h : mayC c = true) : 0 ≤ c.f2 ∧ c.f2 ≤ 1000 := of_decide_eq_true ((may_parts h).1 2 (by decide))
theorem may_num3 {c : Cfg} (h : mayC c = true) : 1 ≤ c.f3 ∧ c.f3 ≤ 10 := of_decide_eq_true ((may_parts h).1 3 (by decide))
theorem may_num4 {c : Cfg} (h : mayC c = true) : 1 ≤ c.f4 ∧ c.f4 ≤ 10 := of_decide_eq_true ((may_parts h).1 4 (by decide))
theorem may_num5 {c : Cfg} (h : mayC c = true) : 0 ≤ c.f5 ∧ c.f5 ≤ 100 := of_decide_eq_true ((may_parts h).1 5 (by decide))
theorem may_num6 {c : Cfg} (h : mayC c = true) : 100 ≤ c.f6 ∧ c.f6 ≤ 1000 := of_decide_eq_true ((may_parts h).1 6 (by decide))
theorem may_num7 {c : Cfg} (h : mayC c = true) : 0 ≤ c.f7 ∧ c.f7 ≤ 100 := of_decide_eq_true ((may_parts h).1 7 (by decide))
theorem may_num8 {c : Cfg} (h : mayC c = true) : 10 ≤ c.f8 ∧ c.f8 ≤ 10000 := of_decide_eq_true ((may_parts h).1 8 (by decide))
theorem may_num9 {c : Cfg} (h : mayC c = true) : 1 ≤ c.f9 ∧ c.f9 ≤ 64 := of_decide_eq_true ((may_parts h).1 9 (by decide))
theorem may_num10 {c : Cfg} (h : mayC c = true) : 1 ≤ c.f10 ∧ c.f10 ≤ 1000 := of_decide_eq_true ((may_parts h).1 10 (by decide))
theorem may_num11 {c : Cfg} (h : mayC c = true) : 0 ≤ c.f11 ∧ c.f11 ≤ 10000 := of_decide_eq_true ((may_parts h).1 11 (by decide))
theorem may_num12 {c : Cfg} (h : mayC c = true) : 0 ≤ c.f12 ∧ c.f12 ≤ 100 := of_decide_eq_true ((may_parts h).1 12 (by decide))
theorem may_num13 {c : Cfg} (h : mayC c = true) : 1 ≤ c.f13 ∧ c.f13 ≤ 10000 := of_decide_eq_true ((may_parts h).1 13 (by decide))
theorem may_num14 {c : Cfg} (h : mayC c = true) : 0 ≤ c.f14 ∧ c.f14 ≤ 100 := of_decide_eq_true ((may_parts h).1 14 (by decide))
theorem may_num16 {c : Cfg} (h : mayC c = true) : 0 ≤ c.f16 ∧ c.f16 ≤ 10000 := of_decide_eq_true ((may_parts h).1 16 (by decide))
theorem may_num17 {c : Cfg} (h : mayC c = true) : 1 ≤ c.f17 ∧ c.f17 ≤ 10000 := of_decide_eq_true ((may_parts h).1 17 (by decide))
theorem may_num18 {c : Cfg} (h : mayC c = true) : 1 ≤ c.f18 ∧ c.f18 ≤ 1000 := of_decide_eq_true ((may_parts h).1 18 (by decide))
theorem may_num19 {c : Cfg} (h : mayC c = true) : 1 ≤ c.f19 ∧ c.f19 ≤ 10000 := of_decide_eq_true ((may_parts h).1 19 (by decide))
theorem may_num20 {c : Cfg} (h : mayC c = true) : 1 ≤ c.f20 ∧ c.f20 ≤ 3 := of_decide_eq_true ((may_parts h).1 20 (by decide))
theorem def_zone : defC.zone.size ≤ 9223372036854775807 := by decide
theorem known_zone {c : Cfg} (h : c.zone.size ≤ 9223372036854775807) : (knownC c).zone.size ≤ 9223372036854775807 := by
  unfold knownC
  split
  · exact h
  · exact def_zone

end Go.Proofs.YtomhmndpjkfppaaDoor
