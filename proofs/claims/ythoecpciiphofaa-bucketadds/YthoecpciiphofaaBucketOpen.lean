/-
  How a bucket that came in is opened; '==' of two buckets.
-/
import Derived.Test.YthoecpciiphofaaBucket1
import Derived.Test.YthoecpciiphofaaEqKit
import Derived.Test.YthoecpciiphofaaBoolsOpen
namespace Go.Proofs.Ythoecpciiphofaa
open Go.RowKit Go.ChangeShapes Go.WideShapes

section
variable {H : Type} {enc : TypeId × Value → H} {W : World}
theorem c_kint : Try.prog.cellsOf 3 = 1 := by kernel_rfl
theorem c_bucket : Try.prog.cellsOf 23 = 2 := by kernel_rfl
theorem list2k {l : List Value} (h : l.length = 2) : ∃ v0 v1, l = [v0, v1] := by
  match l, h with
  | [v0, v1], _ => exact ⟨v0, v1, rfl⟩

theorem open_bucket {r : Reach} {b0 : Nat} {v : Value} {d : DataW H} {p : List MemPlace} (hval : Value.okWide Try.prog W r b0 23 v) (h : DataW.Trod enc Try.prog W 0 (fun _ => true) true 23 v d p) : ∃ q, v = bval q ∧ inK q := by
  obtain ⟨cs, rfl, _⟩ := okWide_struct Try.underlying23 hval
  obtain ⟨fuel, hf⟩ := h
  have hf' : DataW.trod enc Try.prog W 0 (fun _ => true) true fuel 23 cs.toList = some (d, p) := hf
  obtain ⟨xs, n, _, hx, hl, hlen, hF⟩ := DataW.trod_struct Try.underlying23 hf'
  obtain ⟨v0, v1, hcs⟩ := list2k (hl.trans c_bucket)
  rw [hcs] at hF
  match xs, hlen with
  | [x0, x1], _ =>
    obtain ⟨n0, g0, _, b0⟩ := DataW.trod_int (k := .i64) (x := x0) Try.underlying3 (hF 0 _ rfl)
    obtain ⟨n1, g1, _, b1⟩ := DataW.trod_int (k := .i64) (x := x1) Try.underlying3 (hF 1 _ rfl)
    have k0 : v0 = .int .i64 n0 := by simpa [c_kint] using g0
    have k1 : v1 = .int .i64 n1 := by simpa [c_kint] using g1
    exact ⟨⟨n0, n1⟩, congrArg Value.agg (Array.toList_inj.1 (by rw [hcs, k0, k1])), bounds_i64 b0, bounds_i64 b1⟩
end

theorem run_eqK (p q : Bk) (w : World) : (binOp .eql 23 (bval p) (bval q)).run Try.prog w = .ok (.bool (decide (p = q))) w := by
  have hd : decide (p = q) = ((p.ok == q.ok) && ((p.all == q.all) && true)) := by
    obtain ⟨a, b⟩ := p
    obtain ⟨c, d⟩ := q
    rw [Bool.eq_iff_iff]
    simp
  rw [hd]
  unfold bval
  rw [run_eql_struct]
  have h : (Op.equalIn (9999 + 1) 23 (.agg (bcells p)) (.agg (bcells q))).run Try.prog w = .ok ((p.ok == q.ok) && ((p.all == q.all) && true)) w := by
    rw [run_equalIn_struct w 9999 23 _ _ (by kernel_rfl) (by kernel_rfl)]
    have hf : Try.prog.fieldsOf 23 = (match Try.prog.underlying 23 with | some (.struct fs) => fs | _ => #[]) := rfl
    rw [hf, Try.underlying23]
    simp only
    refine eqFields_step (by decide) (part_plain Try.underlying3 rfl rfl) (part_plain Try.underlying3 rfl rfl) (run_equalIn_int w 9998 _ .i64 .i64 _ _ Try.underlying3) ?_
    refine eqFields_step (by decide) (part_plain Try.underlying3 rfl rfl) (part_plain Try.underlying3 rfl rfl) (run_equalIn_int w 9998 _ .i64 .i64 _ _ Try.underlying3) ?_
    rfl
  rw [show (10000 : Nat) = 9999 + 1 from rfl, h]
  rfl
theorem run_eqK_same (p : Bk) (w : World) : (binOp .eql 23 (bval p) (bval p)).run Try.prog w = .ok (.bool true) w := by
  rw [run_eqK, decide_eq_true rfl]
theorem guard_bucket : Try.prog.eqGuardType Try.prog.depth 23 = false := by kernel_rfl

end Go.Proofs.Ythoecpciiphofaa
