/-
  How outings lie in memory; '==' and '!=' of two that are the same.
-/
import Derived.Test.YtomhmndpjkfppaaDoorBase
import Derived.Test.YtomhmndpjkfppaaDoorChecked
namespace Go.Proofs.YtomhmndpjkfppaaDoor
open Go.RowKit

abbrev ogcells (o : Og) : Array Value := #[.bool o.out, .int .i64 o.from_, .int .i64 o.until_, .int .i64 o.times]
abbrev ogval (o : Og) : Value := .agg (ogcells o)
def inOg (o : Og) : Prop := (-9223372036854775808 ≤ o.from_ ∧ o.from_ ≤ 9223372036854775807) ∧ (-9223372036854775808 ≤ o.until_ ∧ o.until_ ≤ 9223372036854775807) ∧ (-9223372036854775808 ≤ o.times ∧ o.times ≤ 9223372036854775807)
theorem infoOuting : (Tryd.prog.info? 32).map (·.size) = some 4 := by kernel_rfl
theorem guard_outing : Tryd.prog.eqGuardType Tryd.prog.depth 32 = false := by kernel_rfl
theorem run_sameO (p : Og) (w : World) : (binOp .eql 32 (.agg (ogcells p)) (.agg (ogcells p))).run Tryd.prog w = .ok (.bool true) w := by
  rw [run_eql_struct]
  have h : (Op.equalIn (9999 + 1) 32 (.agg (ogcells p)) (.agg (ogcells p))).run Tryd.prog w = .ok ((p.out == p.out) && ((p.from_ == p.from_) && ((p.until_ == p.until_) && ((p.times == p.times) && true)))) w := by
    rw [run_equalIn_struct w 9999 32 _ _ (by kernel_rfl) (by kernel_rfl)]
    have hf : Tryd.prog.fieldsOf 32 = (match Tryd.prog.underlying 32 with | some (.struct fs) => fs | _ => #[]) := rfl
    rw [hf, Tryd.underlying32]
    simp only
    refine eqFields_step (by decide) (part_plain Tryd.underlying4 rfl rfl) (part_plain Tryd.underlying4 rfl rfl) (run_equalIn_bool' w 9998 _ _ _ Tryd.underlying4) ?_
    refine eqFields_step (by decide) (part_plain Tryd.underlying3 rfl rfl) (part_plain Tryd.underlying3 rfl rfl) (run_equalIn_int w 9998 _ .i64 .i64 _ _ Tryd.underlying3) ?_
    refine eqFields_step (by decide) (part_plain Tryd.underlying3 rfl rfl) (part_plain Tryd.underlying3 rfl rfl) (run_equalIn_int w 9998 _ .i64 .i64 _ _ Tryd.underlying3) ?_
    refine eqFields_step (by decide) (part_plain Tryd.underlying3 rfl rfl) (part_plain Tryd.underlying3 rfl rfl) (run_equalIn_int w 9998 _ .i64 .i64 _ _ Tryd.underlying3) ?_
    rfl
  rw [show (10000 : Nat) = 9999 + 1 from rfl, h]
  simp [go_sem]
theorem run_diffO (p : Og) (w : World) : (binOp .neq 32 (.agg (ogcells p)) (.agg (ogcells p))).run Tryd.prog w = .ok (.bool false) w := by
  rw [run_neq_struct]
  have h : (Op.equalIn (9999 + 1) 32 (.agg (ogcells p)) (.agg (ogcells p))).run Tryd.prog w = .ok ((p.out == p.out) && ((p.from_ == p.from_) && ((p.until_ == p.until_) && ((p.times == p.times) && true)))) w := by
    rw [run_equalIn_struct w 9999 32 _ _ (by kernel_rfl) (by kernel_rfl)]
    have hf : Tryd.prog.fieldsOf 32 = (match Tryd.prog.underlying 32 with | some (.struct fs) => fs | _ => #[]) := rfl
    rw [hf, Tryd.underlying32]
    simp only
    refine eqFields_step (by decide) (part_plain Tryd.underlying4 rfl rfl) (part_plain Tryd.underlying4 rfl rfl) (run_equalIn_bool' w 9998 _ _ _ Tryd.underlying4) ?_
    refine eqFields_step (by decide) (part_plain Tryd.underlying3 rfl rfl) (part_plain Tryd.underlying3 rfl rfl) (run_equalIn_int w 9998 _ .i64 .i64 _ _ Tryd.underlying3) ?_
    refine eqFields_step (by decide) (part_plain Tryd.underlying3 rfl rfl) (part_plain Tryd.underlying3 rfl rfl) (run_equalIn_int w 9998 _ .i64 .i64 _ _ Tryd.underlying3) ?_
    refine eqFields_step (by decide) (part_plain Tryd.underlying3 rfl rfl) (part_plain Tryd.underlying3 rfl rfl) (run_equalIn_int w 9998 _ .i64 .i64 _ _ Tryd.underlying3) ?_
    rfl
  rw [show (10000 : Nat) = 9999 + 1 from rfl, h]
  simp [go_sem]

end Go.Proofs.YtomhmndpjkfppaaDoor
