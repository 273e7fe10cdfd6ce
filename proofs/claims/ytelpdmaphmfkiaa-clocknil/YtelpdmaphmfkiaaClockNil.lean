/-
  ClockNil, for any call: a clock that there isn't tells zero values. No condition.
-/
import Derived.Test.YtelpdmaphmfkiaaClockFrame
import Derived.Test.YtelpdmaphmfkiaaClockState
namespace Go.Proofs.Ytelpdmaphmfkiaa
open Go.ChangeShapes Go.WideShapes Go.ChangeAt Go.RowKit

set_option maxRecDepth 100000 in
set_option maxHeartbeats 8000000 in
theorem walk_ClockNil (c : CallT) (_ : inC c) (w : World) :
    Calls Try.prog 4 #[cval c] w fun e w' => e = .returned (.bool true) ∧ Below w.heap.size w w' := by
  have K1 := fun W n => nnext_any W n
  have K2 := fun W a b => nat_any W a b
  have K3 := fun W t => nset_any W t
  have K4 := fun W a b => ncut_any W a b
  have K5 := fun W n => ngo_any W n
  have K6 := fun W => nnow_any W
  have K7 := fun W => nall_any W
  have K8 := fun W => awake9_any W
  go_enter Try.func4, Try.ntmps4
  go_wp2_with fail
  refine (K1 _ _).mono ?_
  rintro e w1 ⟨rfl, hb⟩
  have HX1 : Hid (HasBox w1 w.heap.size 31 (ccells c)) := (hasBox_new w _ _).below hb
  have HB1 : Hid (Below w.heap.size w w1) := ((Below.refl _ _).alloc (Nat.le_refl _) _).trans (hb.mono (by simp))
  clear hb
  go_upto_region 3 with fail
  generalize hW : w1.alloc _ = w9
  have HX9 : Hid (HasBox w9 w.heap.size 31 (ccells c)) := by show HasBox _ _ _ _; rw [← hW]; exact HX1.out.alloc _
  have HT9 : Hid (HasBox w9 w1.heap.size 29 (tcells noTimer)) := by show HasBox _ _ _ _; rw [← hW]; exact hasBox_new w1 _ _
  have HB9 : Hid (Below w.heap.size w w9) := by show Below _ _ _; rw [← hW]; exact HB1.out.alloc HB1.out.size _
  clear hW
  have x0 : w9.cell? ⟨w.heap.size, 0, none⟩ = some (.int .i64 c.do_) := HX9.out.cell 0
  have x1 : w9.cell? ⟨w.heap.size, 1, none⟩ = some (.int .i64 c.t.at_) := HX9.out.cell 1
  have x2 : w9.cell? ⟨w.heap.size, 2, none⟩ = some (.int .i64 c.t.kind) := HX9.out.cell 2
  have x3 : w9.cell? ⟨w.heap.size, 3, none⟩ = some (.int .i64 c.t.id) := HX9.out.cell 3
  go_wp2_with fail
  refine (K2 _ _ _).mono ?_
  rintro e w2 ⟨rfl, hb⟩
  have HX2 : Hid (HasBox w2 w.heap.size 31 (ccells c)) := HX9.out.below hb
  have HT2 : Hid (HasBox w2 w1.heap.size 29 (tcells noTimer)) := HT9.out.below hb
  have HB2 : Hid (Below w.heap.size w w2) := HB9.out.trans (hb.mono HB9.out.size)
  clear hb x0 x1 x2 x3
  have x0 : w2.cell? ⟨w.heap.size, 0, none⟩ = some (.int .i64 c.do_) := HX2.out.cell 0
  have x1 : w2.cell? ⟨w.heap.size, 1, none⟩ = some (.int .i64 c.t.at_) := HX2.out.cell 1
  have x2 : w2.cell? ⟨w.heap.size, 2, none⟩ = some (.int .i64 c.t.kind) := HX2.out.cell 2
  have x3 : w2.cell? ⟨w.heap.size, 3, none⟩ = some (.int .i64 c.t.id) := HX2.out.cell 3
  go_wp2_with fail
  refine (K3 _ _).mono ?_
  rintro e w3 ⟨rfl, hb⟩
  have HX3 : Hid (HasBox w3 w.heap.size 31 (ccells c)) := HX2.out.below hb
  have HT3 : Hid (HasBox w3 w1.heap.size 29 (tcells noTimer)) := HT2.out.below hb
  have HB3 : Hid (Below w.heap.size w w3) := HB2.out.trans (hb.mono HB2.out.size)
  clear hb x0 x1 x2 x3
  have x0 : w3.cell? ⟨w.heap.size, 0, none⟩ = some (.int .i64 c.do_) := HX3.out.cell 0
  have x1 : w3.cell? ⟨w.heap.size, 1, none⟩ = some (.int .i64 c.t.at_) := HX3.out.cell 1
  have x2 : w3.cell? ⟨w.heap.size, 2, none⟩ = some (.int .i64 c.t.kind) := HX3.out.cell 2
  have x3 : w3.cell? ⟨w.heap.size, 3, none⟩ = some (.int .i64 c.t.id) := HX3.out.cell 3
  go_wp2_with fail
  refine (K4 _ _ _).mono ?_
  rintro e w4 ⟨rfl, hb⟩
  have HX4 : Hid (HasBox w4 w.heap.size 31 (ccells c)) := HX3.out.below hb
  have HT4 : Hid (HasBox w4 w1.heap.size 29 (tcells noTimer)) := HT3.out.below hb
  have HB4 : Hid (Below w.heap.size w w4) := HB3.out.trans (hb.mono HB3.out.size)
  clear hb x0 x1 x2 x3
  have x0 : w4.cell? ⟨w.heap.size, 0, none⟩ = some (.int .i64 c.do_) := HX4.out.cell 0
  have x1 : w4.cell? ⟨w.heap.size, 1, none⟩ = some (.int .i64 c.t.at_) := HX4.out.cell 1
  have x2 : w4.cell? ⟨w.heap.size, 2, none⟩ = some (.int .i64 c.t.kind) := HX4.out.cell 2
  have x3 : w4.cell? ⟨w.heap.size, 3, none⟩ = some (.int .i64 c.t.id) := HX4.out.cell 3
  have y0 : w4.cell? ⟨w1.heap.size, 0, none⟩ = some (.int .i64 0) := HT4.out.cell 0
  have y1 : w4.cell? ⟨w1.heap.size, 1, none⟩ = some (.int .i64 0) := HT4.out.cell 1
  have y2 : w4.cell? ⟨w1.heap.size, 2, none⟩ = some (.int .i64 0) := HT4.out.cell 2
  go_wp2_with (first
    | (go_at_call 18; refine (K5 _ _).mono ?_; rintro e w5 ⟨rfl, rfl⟩)
    | (go_at_call 22; refine (K6 _).mono ?_; rintro e w5 ⟨rfl, rfl⟩)
    | (go_at_call 24; refine (K7 _).mono ?_; rintro e w5 ⟨rfl, rfl⟩)
    | fail)
  refine (K8 _).mono ?_
  rintro e w5 ⟨rfl, hb⟩
  have HB5 : Hid (Below w.heap.size w w5) := HB4.out.trans (hb.mono HB4.out.size)
  clear hb x0 x1 x2 x3 y0 y1 y2
  go_wp2
  go_ret
  exact ⟨rfl, HB5.out⟩


set_option maxRecDepth 100000 in
theorem lifted_ClockNil (os : Os) (started : os.Started) (H : Type) (enc : TypeId × Value → H) :
    ReturnsInHanded {} Try.checked os 4 .any (Rows.clockNilSpec.pre6 enc Try.prog Try.f4 Rows.clockNilRow.domain false) (Rows.clockNilSpec.post enc Try.prog Try.f4 false true false false) := by
  refine returnsInHanded_of_change (C := Try.checked) own started (by kernel_rfl) Try.func4
    (ChangeSpec.witness6 (enc := enc) (C := Try.checked) false ⟨#[], #[.agg #[.int .i64 0, .int .i64 0, .int .i64 0, .int .i64 0]], []⟩ 8 (by kernel_rfl) (by kernel_rfl) (by kernel_rfl) (by kernel_rfl)) ?_
  intro W base args ds gs before hval0 hW hcnd _
  have hval : ∀ (j : Nat) t v, Try.f4.params[j]? = some t → args[j]? = some v → Value.okWide Try.prog W .any base t v := hval0
  have hW' := hW
  obtain ⟨p, q, hA0, hV, rfl, hfz, hnd⟩ := hW
  have hA : DataW.TrodAll enc Try.prog W 0 (fun _ => true) true Try.f4.params.toList args.toList ds p := hA0
  rw [Try.params4] at hA hval
  obtain ⟨v0, vs0, d0, ds0, p0, q0, hargs, rfl, rfl, h0, r0⟩ := trodAll_cons hA
  obtain ⟨rfl, rfl, rfl⟩ := trodAll_nil r0
  obtain rfl : args = #[v0] := by cases args; simp_all
  obtain ⟨rfl, rfl⟩ := trodVars_none hV
  have k0 := h0
  have lt0 : ∀ x ∈ p0, x.block < W.heap.size := by obtain ⟨m, hm⟩ := k0; exact DataW.trod_lt m _ _ _ hm
  obtain ⟨c0, rfl, i0⟩ := open_call (hval 0 31 v0 rfl rfl) h0
  clear hA0 hval0
  refine (walk_ClockNil c0 i0 W).mono fun e W' ⟨he, bel⟩ => ?_
  subst he
  exact ⟨_, rfl, _, _, _, [], _, [], hW', trodAll_mk1 (shut_bool Try.underlying4 _), (trodAll_cons_mk (Below.trod laidOut (by kernel_rfl) (of_decide_eq_true (by kernel_rfl)) k0 bel lt0) trodAll_mk0), rfl, bel.frame _, fun h => by cases h⟩

theorem over_ClockNil : Rows.clockNilRow.holds Try.pinned (OpenSpec.ofChange Rows.clockNilSpec) :=
  OpenClaim.holds_of_wide 4 Try.f4 rfl rfl rfl rfl rfl rfl rfl ⟨rfl, rfl, rfl, rfl, rfl⟩ rfl rfl rfl rfl rfl (by kernel_rfl) Try.func4 (by kernel_rfl)
    (of_decide_eq_true (by kernel_rfl)) (by unfold Func.isWrapper; first | (rw [if_pos (by decide +kernel)]; kernel_rfl) | (rw [if_neg (by decide +kernel)]; exact ⟨rfl, rfl⟩))
    (fun os started H enc _ => lifted_ClockNil os started H enc)

/-- The statement. -/
theorem clockNil_holds : Rows.ClockNilSaid := over_ClockNil
#print axioms clockNil_holds

end Go.Proofs.Ytelpdmaphmfkiaa
