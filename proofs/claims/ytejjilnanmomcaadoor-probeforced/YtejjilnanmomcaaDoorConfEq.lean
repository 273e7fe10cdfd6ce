/-
  '==' of two configurations.
-/
import Derived.Test.YtejjilnanmomcaaDoorConf4
import Derived.Laws.StructEq
namespace Go.Proofs.YtejjilnanmomcaaDoor
open Go.RowKit

theorem eqFields_step {P : Program} {w : World} {d : Nat} {xs ys : Array Value} {f : Field} {fs : List Field} {a b : Value} {r r' : Bool} (hn : f.name ≠ "_") (ha : (part f.type xs f.offset).run P w = .ok a w) (hb : (part f.type ys f.offset).run P w = .ok b w)
    (he : (Op.equalIn d f.type a b).run P w = .ok r w) (ih : (Op.eqFields d xs ys fs).run P w = .ok r' w) : (Op.eqFields d xs ys (f :: fs)).run P w = .ok (r && r') w := by
  unfold Op.eqFields
  rw [if_pos hn]
  simp only [Sem.run_bind, ha, hb, he, Result.andThen_ok]
  cases r
  · simp
  · simp only [Bool.not_true, Bool.false_eq_true, if_false, Bool.true_and]; exact ih

theorem part_plain {P : Program} {w : World} {t : TypeId} {cs : Array Value} {i : Nat} {v : Value} {d : TypeDesc} (hu : P.underlying t = some d) (hd : (match d with | .struct _ | .array _ _ => true | _ => false) = false) (hv : cs[i]? = some v) : (part t cs i).run P w = .ok v w := by
  cases d <;> first | (simp at hd; done) | simp [part, isAgg, run_underlying hu, hv]

/-- Field by field. -/
def sameC (c d : Cfg) : Bool := (c.f0 == d.f0) && ((c.f1 == d.f1) && ((c.f2 == d.f2) && ((c.f3 == d.f3) && ((c.f4 == d.f4) && ((c.f5 == d.f5) && ((c.f6 == d.f6) && ((c.f7 == d.f7) && ((c.f8 == d.f8) && ((c.f9 == d.f9) && ((c.f10 == d.f10) && ((c.f11 == d.f11) && ((c.f12 == d.f12) && ((c.f13 == d.f13) && ((c.f14 == d.f14) && ((c.one == d.one) && ((c.f16 == d.f16) && ((c.f17 == d.f17) && ((c.f18 == d.f18) && ((c.f19 == d.f19) && ((c.f20 == d.f20) && ((c.zone.toList == d.zone.toList) && ((c.fb == d.fb) && true))))))))))))))))))))))
theorem sameC_iff (c d : Cfg) : sameC c d = decide (c = d) := by
  rw [Bool.eq_iff_iff, decide_eq_true_eq]
  unfold sameC
  simp only [Bool.and_eq_true, beq_iff_eq, ByteArray.toList_eq]
  constructor
  · intro h
    obtain ⟨e0, e1, e2, e3, e4, e5, e6, e7, e8, e9, e10, e11, e12, e13, e14, e15, e16, e17, e18, e19, e20, e21, e22, _⟩ := h
    obtain ⟨a0, a1, a2, a3, a4, a5, a6, a7, a8, a9, a10, a11, a12, a13, a14, a15, a16, a17, a18, a19, a20, a21, a22⟩ := c
    obtain ⟨b0, b1, b2, b3, b4, b5, b6, b7, b8, b9, b10, b11, b12, b13, b14, b15, b16, b17, b18, b19, b20, b21, b22⟩ := d
    simp only at e0 e1 e2 e3 e4 e5 e6 e7 e8 e9 e10 e11 e12 e13 e14 e15 e16 e17 e18 e19 e20 e21 e22
    have ez : a21 = b21 := ByteArray.ext (Array.toList_inj.1 e21)
    rw [e0, e1, e2, e3, e4, e5, e6, e7, e8, e9, e10, e11, e12, e13, e14, e15, e16, e17, e18, e19, e20, ez, e22]
  · rintro rfl
    simp

set_option maxRecDepth 100000 in
theorem run_sameC (c d : Cfg) (w : World) : (binOp .eql 23 (.agg c.arr) (.agg d.arr)).run Tryd.prog w = .ok (.bool (decide (c = d))) w := by
  rw [run_eql_struct, ← sameC_iff]
  have h : (Op.equalIn (9999 + 1) 23 (.agg c.arr) (.agg d.arr)).run Tryd.prog w = .ok (sameC c d) w := by
    rw [run_equalIn_struct w 9999 23 c.arr d.arr (by kernel_rfl) (by kernel_rfl)]
    have hf : Tryd.prog.fieldsOf 23 = (match Tryd.prog.underlying 23 with | some (.struct fs) => fs | _ => #[]) := rfl
    rw [hf, Tryd.underlying23]
    simp only
    unfold sameC
    refine eqFields_step (by decide) (part_plain Tryd.underlying3 rfl rfl) (part_plain Tryd.underlying3 rfl rfl) (run_equalIn_int w 9998 _ .i64 .i64 _ _ Tryd.underlying3) ?_
    refine eqFields_step (by decide) (part_plain Tryd.underlying3 rfl rfl) (part_plain Tryd.underlying3 rfl rfl) (run_equalIn_int w 9998 _ .i64 .i64 _ _ Tryd.underlying3) ?_
    refine eqFields_step (by decide) (part_plain Tryd.underlying3 rfl rfl) (part_plain Tryd.underlying3 rfl rfl) (run_equalIn_int w 9998 _ .i64 .i64 _ _ Tryd.underlying3) ?_
    refine eqFields_step (by decide) (part_plain Tryd.underlying3 rfl rfl) (part_plain Tryd.underlying3 rfl rfl) (run_equalIn_int w 9998 _ .i64 .i64 _ _ Tryd.underlying3) ?_
    refine eqFields_step (by decide) (part_plain Tryd.underlying3 rfl rfl) (part_plain Tryd.underlying3 rfl rfl) (run_equalIn_int w 9998 _ .i64 .i64 _ _ Tryd.underlying3) ?_
    refine eqFields_step (by decide) (part_plain Tryd.underlying3 rfl rfl) (part_plain Tryd.underlying3 rfl rfl) (run_equalIn_int w 9998 _ .i64 .i64 _ _ Tryd.underlying3) ?_
    refine eqFields_step (by decide) (part_plain Tryd.underlying3 rfl rfl) (part_plain Tryd.underlying3 rfl rfl) (run_equalIn_int w 9998 _ .i64 .i64 _ _ Tryd.underlying3) ?_
    refine eqFields_step (by decide) (part_plain Tryd.underlying3 rfl rfl) (part_plain Tryd.underlying3 rfl rfl) (run_equalIn_int w 9998 _ .i64 .i64 _ _ Tryd.underlying3) ?_
    refine eqFields_step (by decide) (part_plain Tryd.underlying3 rfl rfl) (part_plain Tryd.underlying3 rfl rfl) (run_equalIn_int w 9998 _ .i64 .i64 _ _ Tryd.underlying3) ?_
    refine eqFields_step (by decide) (part_plain Tryd.underlying3 rfl rfl) (part_plain Tryd.underlying3 rfl rfl) (run_equalIn_int w 9998 _ .i64 .i64 _ _ Tryd.underlying3) ?_
    refine eqFields_step (by decide) (part_plain Tryd.underlying3 rfl rfl) (part_plain Tryd.underlying3 rfl rfl) (run_equalIn_int w 9998 _ .i64 .i64 _ _ Tryd.underlying3) ?_
    refine eqFields_step (by decide) (part_plain Tryd.underlying3 rfl rfl) (part_plain Tryd.underlying3 rfl rfl) (run_equalIn_int w 9998 _ .i64 .i64 _ _ Tryd.underlying3) ?_
    refine eqFields_step (by decide) (part_plain Tryd.underlying3 rfl rfl) (part_plain Tryd.underlying3 rfl rfl) (run_equalIn_int w 9998 _ .i64 .i64 _ _ Tryd.underlying3) ?_
    refine eqFields_step (by decide) (part_plain Tryd.underlying3 rfl rfl) (part_plain Tryd.underlying3 rfl rfl) (run_equalIn_int w 9998 _ .i64 .i64 _ _ Tryd.underlying3) ?_
    refine eqFields_step (by decide) (part_plain Tryd.underlying3 rfl rfl) (part_plain Tryd.underlying3 rfl rfl) (run_equalIn_int w 9998 _ .i64 .i64 _ _ Tryd.underlying3) ?_
    refine eqFields_step (by decide) (part_plain Tryd.underlying4 rfl rfl) (part_plain Tryd.underlying4 rfl rfl) (run_equalIn_bool' w 9998 _ _ _ Tryd.underlying4) ?_
    refine eqFields_step (by decide) (part_plain Tryd.underlying3 rfl rfl) (part_plain Tryd.underlying3 rfl rfl) (run_equalIn_int w 9998 _ .i64 .i64 _ _ Tryd.underlying3) ?_
    refine eqFields_step (by decide) (part_plain Tryd.underlying3 rfl rfl) (part_plain Tryd.underlying3 rfl rfl) (run_equalIn_int w 9998 _ .i64 .i64 _ _ Tryd.underlying3) ?_
    refine eqFields_step (by decide) (part_plain Tryd.underlying3 rfl rfl) (part_plain Tryd.underlying3 rfl rfl) (run_equalIn_int w 9998 _ .i64 .i64 _ _ Tryd.underlying3) ?_
    refine eqFields_step (by decide) (part_plain Tryd.underlying3 rfl rfl) (part_plain Tryd.underlying3 rfl rfl) (run_equalIn_int w 9998 _ .i64 .i64 _ _ Tryd.underlying3) ?_
    refine eqFields_step (by decide) (part_plain Tryd.underlying3 rfl rfl) (part_plain Tryd.underlying3 rfl rfl) (run_equalIn_int w 9998 _ .i64 .i64 _ _ Tryd.underlying3) ?_
    refine eqFields_step (by decide) (part_plain Tryd.underlying9 rfl rfl) (part_plain Tryd.underlying9 rfl rfl) (run_equalIn_string w 9998 _ _ _ Tryd.underlying9) ?_
    refine eqFields_step (by decide) (part_plain Tryd.underlying4 rfl rfl) (part_plain Tryd.underlying4 rfl rfl) (run_equalIn_bool' w 9998 _ _ _ Tryd.underlying4) ?_
    rfl
  rw [show (10000 : Nat) = 9999 + 1 from rfl, h]
  rfl

end Go.Proofs.YtejjilnanmomcaaDoor
