/-
  Proved: triagelaw1.RatioCompares returns true for every six ints and changes nothing that was there. No condition.
-/
import Derived.Test.YtkhklfbgfikeoaaFrame
namespace Go.Proofs.Ytkhklfbgfikeoaa
open Go.ChangeShapes Go.WideShapes Go.ChangeAt Go.RowKit
open Go.ChangeMaps (open_string shut_string)
set_option linter.unusedVariables false

theorem cmp_bd (p q : Int) : -1 ≤ cmpV p q ∧ cmpV p q ≤ 1 := by unfold cmpV; split; omega; split <;> omega
theorem cmp_flip (p q : Int) : cmpV q p = -cmpV p q := by
  unfold cmpV
  by_cases h1 : p < q
  · rw [if_pos h1, if_neg (by omega), if_pos h1]; omega
  · by_cases h2 : q < p
    · rw [if_pos h2, if_neg h1, if_pos h2]
    · rw [if_neg h1, if_neg h2, if_neg h2, if_neg h1]; omega
theorem cmp_same (a b : Int) : cmpV (oz a * oz b) (oz b * oz a) = 0 := by
  rw [Int.mul_comm]; unfold cmpV; rw [if_neg (by omega), if_neg (by omega)]
theorem cmp_trans (p q r : Int) : (cmpV p q ≤ 0 → cmpV q r ≤ 0 → cmpV p r ≤ 0) ∧ (0 ≤ cmpV p q → 0 ≤ cmpV q r → 0 ≤ cmpV p r) := by
  unfold cmpV
  constructor
  · intro h1 h2
    split at h1 <;> split at h2 <;> (try split at h1) <;> (try split at h2) <;> split <;> (try split) <;> omega
  · intro h1 h2
    split at h1 <;> split at h2 <;> (try split at h1) <;> (try split at h2) <;> split <;> (try split) <;> omega

set_option maxHeartbeats 2000000 in
theorem walk_RatioCompares (a : Int) (wa : -9223372036854775808 ≤ a ∧ a ≤ 9223372036854775807) (b : Int) (wb : -9223372036854775808 ≤ b ∧ b ≤ 9223372036854775807) (c : Int) (wc : -9223372036854775808 ≤ c ∧ c ≤ 9223372036854775807)
    (d : Int) (wd : -9223372036854775808 ≤ d ∧ d ≤ 9223372036854775807) (e : Int) (we : -9223372036854775808 ≤ e ∧ e ≤ 9223372036854775807) (f : Int) (wf : -9223372036854775808 ≤ f ∧ f ≤ 9223372036854775807) (w : World) :
    Calls Try.prog 6 #[.int .i64 a, .int .i64 b, .int .i64 c, .int .i64 d, .int .i64 e, .int .i64 f] w fun e w' => e = .returned (.bool true) ∧ Below w.heap.size w w' := by
  obtain ⟨x, hx⟩ : ∃ x, cmpV (oz a * oz b) (oz c * oz d) = x := ⟨_, rfl⟩
  obtain ⟨y, hy⟩ : ∃ y, cmpV (oz c * oz d) (oz e * oz f) = y := ⟨_, rfl⟩
  obtain ⟨z, hz⟩ : ∃ z, cmpV (oz a * oz b) (oz e * oz f) = z := ⟨_, rfl⟩
  have bx := cmp_bd (oz a * oz b) (oz c * oz d)
  have bt := cmp_trans (oz a * oz b) (oz c * oz d) (oz e * oz f)
  have bf := cmp_flip (oz a * oz b) (oz c * oz d)
  have C1 : Hid (∀ w, Calls Try.prog 12 #[.int .i64 a, .int .i64 b, .int .i64 c, .int .i64 d] w fun e w' => e = .returned (.int .i64 x) ∧ Below w.heap.size w w') := fun w => by
    rw [← hx]; exact compare_any a b c d w wa.2 wb.2 wc.2 wd.2
  have C2 : Hid (∀ w, Calls Try.prog 12 #[.int .i64 c, .int .i64 d, .int .i64 e, .int .i64 f] w fun e w' => e = .returned (.int .i64 y) ∧ Below w.heap.size w w') := fun w => by
    rw [← hy]; exact compare_any c d e f w wc.2 wd.2 we.2 wf.2
  have C3 : Hid (∀ w, Calls Try.prog 12 #[.int .i64 a, .int .i64 b, .int .i64 e, .int .i64 f] w fun e w' => e = .returned (.int .i64 z) ∧ Below w.heap.size w w') := fun w => by
    rw [← hz]; exact compare_any a b e f w wa.2 wb.2 we.2 wf.2
  have C4 : Hid (∀ w, Calls Try.prog 12 #[.int .i64 c, .int .i64 d, .int .i64 a, .int .i64 b] w fun e w' => e = .returned (.int .i64 (-x)) ∧ Below w.heap.size w w') := fun w => by
    rw [← hx, ← bf]; exact compare_any c d a b w wc.2 wd.2 wa.2 wb.2
  have C5 : Hid (∀ w, Calls Try.prog 12 #[.int .i64 a, .int .i64 b, .int .i64 b, .int .i64 a] w fun e w' => e = .returned (.int .i64 0) ∧ Below w.heap.size w w') := fun w => by
    rw [← cmp_same a b]; exact compare_any a b b a w wa.2 wb.2 wb.2 wa.2
  rw [hx, hy, hz] at bt
  rw [hx] at bx
  clear hx hy hz bf wa wb wc wd we wf
  have hd : (0 < x ∧ y < 0) ∨ (0 < x ∧ 0 ≤ y ∧ 0 ≤ z) ∨ (x = 0 ∧ 0 < y ∧ 0 ≤ z) ∨ (x = 0 ∧ y < 0 ∧ z ≤ 0) ∨ (x = 0 ∧ y = 0 ∧ z = 0) ∨ (x < 0 ∧ 0 < y) ∨ (x < 0 ∧ y ≤ 0 ∧ z ≤ 0) := by omega
  clear bt
  rcases hd with ⟨h1, h2⟩ | ⟨h1, h2, h3⟩ | ⟨rfl, h2, h3⟩ | ⟨rfl, h2, h3⟩ | ⟨rfl, rfl, rfl⟩ | ⟨h1, h2⟩ | ⟨h1, h2, h3⟩
  all_goals
    go_enter Try.func6, Try.ntmps6
    go_wp2_with fail
    refine (C1.out _).mono ?_
    rintro e w1 ⟨rfl, hb1⟩
    go_wp2_with fail
    refine (C2.out _).mono ?_
    rintro e w2 ⟨rfl, hb2⟩
    go_wp2_with fail
    refine (C3.out _).mono ?_
    rintro e w3 ⟨rfl, hb3⟩
    go_wp2_with fail
    refine (C4.out _).mono ?_
    rintro e w4 ⟨rfl, hb4⟩
    go_wp2_with fail
    refine (C5.out _).mono ?_
    rintro e w5 ⟨rfl, hb5⟩
    go_wp2_with fail
    refine (awake_any _).mono ?_
    rintro e w6 ⟨rfl, hb6⟩
    go_wp2
    go_ret
    exact ⟨rfl, hb1.trans ((hb2.trans ((hb3.trans ((hb4.trans ((hb5.trans (hb6.mono hb5.size)).mono hb4.size)).mono hb3.size)).mono hb2.size)).mono hb1.size)⟩

set_option maxRecDepth 100000 in
theorem lifted_RatioCompares (os : Os) (started : os.Started) (H : Type) (enc : TypeId × Value → H) :
    ReturnsInHanded {} Try.checked os 6 .any (Rows.ratioComparesSpec.pre6 enc Try.prog Try.f6 Rows.ratioComparesRow.domain false) (Rows.ratioComparesSpec.post enc Try.prog Try.f6 false true false false) := by
  refine returnsInHanded_of_change (C := Try.checked) own started (by kernel_rfl) Try.func6
    (ChangeSpec.witness6 (enc := enc) (C := Try.checked) false ⟨#[], #[.int .i64 0, .int .i64 0, .int .i64 0, .int .i64 0, .int .i64 0, .int .i64 0], []⟩ 8 (by kernel_rfl) (by kernel_rfl) (by kernel_rfl) (by kernel_rfl)) ?_
  intro W base args ds gs before hval0 hW hcnd _
  have hval : ∀ (j : Nat) t v, Try.f6.params[j]? = some t → args[j]? = some v → Value.okWide Try.prog W .any base t v := hval0
  have hW' := hW
  obtain ⟨p, q, hA0, hV, rfl, hfz, hnd⟩ := hW
  have hA : DataW.TrodAll enc Try.prog W 0 (fun _ => true) true Try.f6.params.toList args.toList ds p := hA0
  rw [Try.params6] at hA hval
  obtain ⟨v0, vs0, d0, ds0, p0, q0, hargs, rfl, rfl, h0, r0⟩ := trodAll_cons hA
  obtain ⟨v1, vs1, d1, ds1, p1, q1, rfl, rfl, rfl, h1, r1⟩ := trodAll_cons r0
  obtain ⟨v2, vs2, d2, ds2, p2, q2, rfl, rfl, rfl, h2, r2⟩ := trodAll_cons r1
  obtain ⟨v3, vs3, d3, ds3, p3, q3, rfl, rfl, rfl, h3, r3⟩ := trodAll_cons r2
  obtain ⟨v4, vs4, d4, ds4, p4, q4, rfl, rfl, rfl, h4, r4⟩ := trodAll_cons r3
  obtain ⟨v5, vs5, d5, ds5, p5, q5, rfl, rfl, rfl, h5, r5⟩ := trodAll_cons r4
  obtain ⟨rfl, rfl, rfl⟩ := trodAll_nil r5
  obtain rfl : args = #[v0, v1, v2, v3, v4, v5] := by cases args; simp_all
  obtain ⟨rfl, rfl⟩ := trodVars_none hV
  obtain ⟨a0, rfl, rfl, rfl, w0⟩ := open_int Try.underlying3 (hval 0 3 v0 rfl rfl) h0
  obtain ⟨a1, rfl, rfl, rfl, w1⟩ := open_int Try.underlying3 (hval 1 3 v1 rfl rfl) h1
  obtain ⟨a2, rfl, rfl, rfl, w2⟩ := open_int Try.underlying3 (hval 2 3 v2 rfl rfl) h2
  obtain ⟨a3, rfl, rfl, rfl, w3⟩ := open_int Try.underlying3 (hval 3 3 v3 rfl rfl) h3
  obtain ⟨a4, rfl, rfl, rfl, w4⟩ := open_int Try.underlying3 (hval 4 3 v4 rfl rfl) h4
  obtain ⟨a5, rfl, rfl, rfl, w5⟩ := open_int Try.underlying3 (hval 5 3 v5 rfl rfl) h5
  clear hA0 hval0
  refine (walk_RatioCompares a0 (wf_i64 w0) a1 (wf_i64 w1) a2 (wf_i64 w2) a3 (wf_i64 w3) a4 (wf_i64 w4) a5 (wf_i64 w5) W).mono fun e W' ⟨he, bel⟩ => ?_
  subst he
  exact ⟨_, rfl, _, _, _, [], _, [], hW', trodAll_mk1 (shut_bool Try.underlying4 _), (trodAll_cons_mk (shut_int Try.underlying3 w0) (trodAll_cons_mk (shut_int Try.underlying3 w1) (trodAll_cons_mk (shut_int Try.underlying3 w2) (trodAll_cons_mk (shut_int Try.underlying3 w3) (trodAll_cons_mk (shut_int Try.underlying3 w4) (trodAll_cons_mk (shut_int Try.underlying3 w5) trodAll_mk0)))))), rfl, bel.frame _, fun h => by cases h⟩

theorem over_RatioCompares : Rows.ratioComparesRow.holds Try.pinned (OpenSpec.ofChange Rows.ratioComparesSpec) :=
  OpenClaim.holds_of_wide 6 Try.f6 rfl rfl rfl rfl rfl rfl rfl ⟨rfl, rfl, rfl, rfl, rfl⟩ rfl rfl rfl rfl rfl (by kernel_rfl) Try.func6 (by kernel_rfl)
    (of_decide_eq_true (by kernel_rfl)) (by unfold Func.isWrapper; first | (rw [if_pos (by decide +kernel)]; kernel_rfl) | (rw [if_neg (by decide +kernel)]; exact ⟨rfl, rfl⟩))
    (fun os started H enc _ => lifted_RatioCompares os started H enc)

/-- The statement. -/
theorem ratioCompares_holds : Rows.RatioComparesSaid := over_RatioCompares
#print axioms ratioCompares_holds
end Go.Proofs.Ytkhklfbgfikeoaa
