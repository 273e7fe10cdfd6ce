/-
  '==' of probings, of buckets, of outings, as values.
-/
import Derived.Test.YthmfmeibjpgokaaStatKit
import Derived.Test.YthmfmeibjpgokaaEqKit
namespace Go.Proofs.Ythmfmeibjpgokaa
open Go.RowKit

theorem run_eqPr (p q : ProbeT) (w : World) : (binOp .eql 26 (.agg #[.bool p.up, .int .i64 p.run, .int .i64 p.forced, .int .i64 p.wait]) (.agg #[.bool q.up, .int .i64 q.run, .int .i64 q.forced, .int .i64 q.wait])).run Try.prog w = .ok (.bool (decide (p = q))) w := by
  have hd : decide (p = q) = ((p.up == q.up) && ((p.run == q.run) && ((p.forced == q.forced) && ((p.wait == q.wait) && true)))) := by
    obtain ⟨a, b, c, d⟩ := p
    obtain ⟨e, f, g, h⟩ := q
    rw [Bool.eq_iff_iff]
    simp
  rw [hd]
  rw [run_eql_struct]
  have h : (Op.equalIn (9999 + 1) 26 (.agg #[.bool p.up, .int .i64 p.run, .int .i64 p.forced, .int .i64 p.wait]) (.agg #[.bool q.up, .int .i64 q.run, .int .i64 q.forced, .int .i64 q.wait])).run Try.prog w = .ok ((p.up == q.up) && ((p.run == q.run) && ((p.forced == q.forced) && ((p.wait == q.wait) && true)))) w := by
    rw [run_equalIn_struct w 9999 26 _ _ (by kernel_rfl) (by kernel_rfl)]
    have hf : Try.prog.fieldsOf 26 = (match Try.prog.underlying 26 with | some (.struct fs) => fs | _ => #[]) := rfl
    rw [hf, Try.underlying26]
    simp only
    refine eqFields_step (by decide) (part_plain Try.underlying4 rfl rfl) (part_plain Try.underlying4 rfl rfl) (run_equalIn_bool' w 9998 _ _ _ Try.underlying4) ?_
    refine eqFields_step (by decide) (part_plain Try.underlying3 rfl rfl) (part_plain Try.underlying3 rfl rfl) (run_equalIn_int w 9998 _ .i64 .i64 _ _ Try.underlying3) ?_
    refine eqFields_step (by decide) (part_plain Try.underlying3 rfl rfl) (part_plain Try.underlying3 rfl rfl) (run_equalIn_int w 9998 _ .i64 .i64 _ _ Try.underlying3) ?_
    refine eqFields_step (by decide) (part_plain Try.underlying3 rfl rfl) (part_plain Try.underlying3 rfl rfl) (run_equalIn_int w 9998 _ .i64 .i64 _ _ Try.underlying3) ?_
    rfl
  rw [show (10000 : Nat) = 9999 + 1 from rfl, h]
  rfl
theorem guard_Pr : Try.prog.eqGuardType Try.prog.depth 26 = false := by kernel_rfl

theorem run_eqBu (p q : Bk) (w : World) : (binOp .eql 28 (.agg #[.int .i64 p.ok, .int .i64 p.all]) (.agg #[.int .i64 q.ok, .int .i64 q.all])).run Try.prog w = .ok (.bool (decide (p = q))) w := by
  have hd : decide (p = q) = ((p.ok == q.ok) && ((p.all == q.all) && true)) := by
    obtain ⟨a, b⟩ := p
    obtain ⟨e, f⟩ := q
    rw [Bool.eq_iff_iff]
    simp
  rw [hd]
  rw [run_eql_struct]
  have h : (Op.equalIn (9999 + 1) 28 (.agg #[.int .i64 p.ok, .int .i64 p.all]) (.agg #[.int .i64 q.ok, .int .i64 q.all])).run Try.prog w = .ok ((p.ok == q.ok) && ((p.all == q.all) && true)) w := by
    rw [run_equalIn_struct w 9999 28 _ _ (by kernel_rfl) (by kernel_rfl)]
    have hf : Try.prog.fieldsOf 28 = (match Try.prog.underlying 28 with | some (.struct fs) => fs | _ => #[]) := rfl
    rw [hf, Try.underlying28]
    simp only
    refine eqFields_step (by decide) (part_plain Try.underlying3 rfl rfl) (part_plain Try.underlying3 rfl rfl) (run_equalIn_int w 9998 _ .i64 .i64 _ _ Try.underlying3) ?_
    refine eqFields_step (by decide) (part_plain Try.underlying3 rfl rfl) (part_plain Try.underlying3 rfl rfl) (run_equalIn_int w 9998 _ .i64 .i64 _ _ Try.underlying3) ?_
    rfl
  rw [show (10000 : Nat) = 9999 + 1 from rfl, h]
  rfl
theorem guard_Bu : Try.prog.eqGuardType Try.prog.depth 28 = false := by kernel_rfl

theorem run_eqOu (p q : Og) (w : World) : (binOp .eql 30 (.agg #[.bool p.out, .int .i64 p.from_, .int .i64 p.until_, .int .i64 p.times]) (.agg #[.bool q.out, .int .i64 q.from_, .int .i64 q.until_, .int .i64 q.times])).run Try.prog w = .ok (.bool (decide (p = q))) w := by
  have hd : decide (p = q) = ((p.out == q.out) && ((p.from_ == q.from_) && ((p.until_ == q.until_) && ((p.times == q.times) && true)))) := by
    obtain ⟨a, b, c, d⟩ := p
    obtain ⟨e, f, g, h⟩ := q
    rw [Bool.eq_iff_iff]
    simp
  rw [hd]
  rw [run_eql_struct]
  have h : (Op.equalIn (9999 + 1) 30 (.agg #[.bool p.out, .int .i64 p.from_, .int .i64 p.until_, .int .i64 p.times]) (.agg #[.bool q.out, .int .i64 q.from_, .int .i64 q.until_, .int .i64 q.times])).run Try.prog w = .ok ((p.out == q.out) && ((p.from_ == q.from_) && ((p.until_ == q.until_) && ((p.times == q.times) && true)))) w := by
    rw [run_equalIn_struct w 9999 30 _ _ (by kernel_rfl) (by kernel_rfl)]
    have hf : Try.prog.fieldsOf 30 = (match Try.prog.underlying 30 with | some (.struct fs) => fs | _ => #[]) := rfl
    rw [hf, Try.underlying30]
    simp only
    refine eqFields_step (by decide) (part_plain Try.underlying4 rfl rfl) (part_plain Try.underlying4 rfl rfl) (run_equalIn_bool' w 9998 _ _ _ Try.underlying4) ?_
    refine eqFields_step (by decide) (part_plain Try.underlying3 rfl rfl) (part_plain Try.underlying3 rfl rfl) (run_equalIn_int w 9998 _ .i64 .i64 _ _ Try.underlying3) ?_
    refine eqFields_step (by decide) (part_plain Try.underlying3 rfl rfl) (part_plain Try.underlying3 rfl rfl) (run_equalIn_int w 9998 _ .i64 .i64 _ _ Try.underlying3) ?_
    refine eqFields_step (by decide) (part_plain Try.underlying3 rfl rfl) (part_plain Try.underlying3 rfl rfl) (run_equalIn_int w 9998 _ .i64 .i64 _ _ Try.underlying3) ?_
    rfl
  rw [show (10000 : Nat) = 9999 + 1 from rfl, h]
  rfl
theorem guard_Ou : Try.prog.eqGuardType Try.prog.depth 30 = false := by kernel_rfl

end Go.Proofs.Ythmfmeibjpgokaa
