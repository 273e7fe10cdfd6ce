/-
  Proved: triagelaw1.RatioDraws returns true for every two ints and changes nothing that was there. No condition.
-/
import Derived.Test.YtkhklfbgfikeoaaFrame
namespace Go.Proofs.Ytkhklfbgfikeoaa
open Go.ChangeShapes Go.WideShapes Go.ChangeAt Go.RowKit
open Go.ChangeMaps (open_string shut_string)
set_option linter.unusedVariables false

theorem u64mod (a m : Int) (hm : 0 < m) : 0 ≤ (IntKind.u64.wrap a).tmod m ∧ (IntKind.u64.wrap a).tmod m < m := by
  rw [IntKind.wrap_u64, Int.tmod_eq_emod_of_nonneg (by omega)]
  exact ⟨Int.emod_nonneg _ (by omega), Int.emod_lt_of_pos _ hm⟩
theorem draw_in (d n : Int) (hn : 1 ≤ n) : drawV d n = d % n := by unfold drawV; rw [if_neg (by omega)]
theorem draw_none (d n : Int) (hn : n < 1) : drawV d n = 0 := by unfold drawV; rw [if_pos hn]

set_option maxHeartbeats 2000000 in
theorem walk_RatioDraws (a : Int) (wa : -9223372036854775808 ≤ a ∧ a ≤ 9223372036854775807) (n : Int) (wn : -9223372036854775808 ≤ n ∧ n ≤ 9223372036854775807) (w : World) :
    Calls Try.prog 7 #[.int .i64 a, .int .i64 n] w fun e w' => e = .returned (.bool true) ∧ Below w.heap.size w w' := by
  have bA := u64mod a 1000000 (by omega)
  have bN := u64mod n 1000 (by omega)
  obtain ⟨D, hD⟩ : ∃ D, (IntKind.u64.wrap a).tmod 1000000 = D := ⟨_, rfl⟩
  obtain ⟨N, hN⟩ : ∃ N, (IntKind.u64.wrap n).tmod 1000 = N := ⟨_, rfl⟩
  rw [hD] at bA
  rw [hN] at bN
  obtain ⟨x, hx⟩ : ∃ x, drawV (D - 500000) (1 + N) = x := ⟨_, rfl⟩
  have hx2 := draw_in (D - 500000) (1 + N) (by omega)
  have x0 : 0 ≤ x := by rw [← hx, hx2]; exact Int.emod_nonneg _ (by omega)
  have x1 : x < 1 + N := by rw [← hx, hx2]; exact Int.emod_lt_of_pos _ (by omega)
  have E1 : drawV (D - 500000 + (1 + N)) (1 + N) = x := by
    rw [draw_in _ _ (by omega), Int.add_emod_right, ← hx2, hx]
  have E2 : drawV (D - 500000 + 1) (1 + N) = (x + 1) % (1 + N) := by
    rw [draw_in _ _ (by omega), ← hx, hx2, Int.emod_add_emod]
  have E3 : drawV (D - 500000) 0 = 0 := draw_none _ _ (by omega)
  have E4 : drawV (D - 500000) (-(1 + N)) = 0 := draw_none _ _ (by omega)
  clear hx2 wa wn
  go_enter Try.func7, Try.ntmps7
  go_wp2_with fail
  refine (draw_any _ _ _ (by omega)).mono ?_
  rintro e w1 ⟨rfl, hw⟩
  subst w1
  rw [hx]
  go_wp2_with fail
  have : Nonempty (WB w.heap.size w) := ⟨⟨w, Below.refl _ _⟩⟩
  refine wp_region_below w.heap.size w (by kernel_rfl) (by kernel_rfl) (Below.refl _ _) ?_
  repeat (go_big_quiet_step (first
    | (go_at_call 18; exact calls_same (draw_any _ _ _ (by omega)))
    | (go_at_call 9; exact calls_below (Nat.le_refl _) (awake_any _))))
  refine wpQuiet_nil ?_
  rintro _ ⟨s, rfl⟩
  go_wp2
  go_ret
  exact ⟨rfl, s.h⟩

set_option maxRecDepth 100000 in
theorem lifted_RatioDraws (os : Os) (started : os.Started) (H : Type) (enc : TypeId × Value → H) :
    ReturnsInHanded {} Try.checked os 7 .any (Rows.ratioDrawsSpec.pre6 enc Try.prog Try.f7 Rows.ratioDrawsRow.domain false) (Rows.ratioDrawsSpec.post enc Try.prog Try.f7 false true false false) := by
  refine returnsInHanded_of_change (C := Try.checked) own started (by kernel_rfl) Try.func7
    (ChangeSpec.witness6 (enc := enc) (C := Try.checked) false ⟨#[], #[.int .i64 0, .int .i64 0], []⟩ 8 (by kernel_rfl) (by kernel_rfl) (by kernel_rfl) (by kernel_rfl)) ?_
  intro W base args ds gs before hval0 hW hcnd _
  have hval : ∀ (j : Nat) t v, Try.f7.params[j]? = some t → args[j]? = some v → Value.okWide Try.prog W .any base t v := hval0
  have hW' := hW
  obtain ⟨p, q, hA0, hV, rfl, hfz, hnd⟩ := hW
  have hA : DataW.TrodAll enc Try.prog W 0 (fun _ => true) true Try.f7.params.toList args.toList ds p := hA0
  rw [Try.params7] at hA hval
  obtain ⟨v0, vs0, d0, ds0, p0, q0, hargs, rfl, rfl, h0, r0⟩ := trodAll_cons hA
  obtain ⟨v1, vs1, d1, ds1, p1, q1, rfl, rfl, rfl, h1, r1⟩ := trodAll_cons r0
  obtain ⟨rfl, rfl, rfl⟩ := trodAll_nil r1
  obtain rfl : args = #[v0, v1] := by cases args; simp_all
  obtain ⟨rfl, rfl⟩ := trodVars_none hV
  obtain ⟨a0, rfl, rfl, rfl, w0⟩ := open_int Try.underlying3 (hval 0 3 v0 rfl rfl) h0
  obtain ⟨a1, rfl, rfl, rfl, w1⟩ := open_int Try.underlying3 (hval 1 3 v1 rfl rfl) h1
  clear hA0 hval0
  refine (walk_RatioDraws a0 (wf_i64 w0) a1 (wf_i64 w1) W).mono fun e W' ⟨he, bel⟩ => ?_
  subst he
  exact ⟨_, rfl, _, _, _, [], _, [], hW', trodAll_mk1 (shut_bool Try.underlying4 _), (trodAll_cons_mk (shut_int Try.underlying3 w0) (trodAll_cons_mk (shut_int Try.underlying3 w1) trodAll_mk0)), rfl, bel.frame _, fun h => by cases h⟩

theorem over_RatioDraws : Rows.ratioDrawsRow.holds Try.pinned (OpenSpec.ofChange Rows.ratioDrawsSpec) :=
  OpenClaim.holds_of_wide 7 Try.f7 rfl rfl rfl rfl rfl rfl rfl ⟨rfl, rfl, rfl, rfl, rfl⟩ rfl rfl rfl rfl rfl (by kernel_rfl) Try.func7 (by kernel_rfl)
    (of_decide_eq_true (by kernel_rfl)) (by unfold Func.isWrapper; first | (rw [if_pos (by decide +kernel)]; kernel_rfl) | (rw [if_neg (by decide +kernel)]; exact ⟨rfl, rfl⟩))
    (fun os started H enc _ => lifted_RatioDraws os started H enc)

/-- The statement. -/
theorem ratioDraws_holds : Rows.RatioDrawsSaid := over_RatioDraws
#print axioms ratioDraws_holds
end Go.Proofs.Ytkhklfbgfikeoaa
