/-
  Proved: triagelaw1.RatioParts returns true for every three ints and changes nothing that was there. No condition.
-/
import Derived.Test.YtkhklfbgfikeoaaFrame
namespace Go.Proofs.Ytkhklfbgfikeoaa
open Go.ChangeShapes Go.WideShapes Go.ChangeAt Go.RowKit
open Go.ChangeMaps (open_string shut_string)
set_option linter.unusedVariables false

theorem u64mod (a m : Int) (hm : 0 < m) : 0 ≤ (IntKind.u64.wrap a).tmod m ∧ (IntKind.u64.wrap a).tmod m < m := by
  rw [IntKind.wrap_u64, Int.tmod_eq_emod_of_nonneg (by omega)]
  exact ⟨Int.emod_nonneg _ (by omega), Int.emod_lt_of_pos _ hm⟩

theorem ediv_anti (p c : Int) (hp : 0 ≤ p) (hc : 0 < c) : p / (c + 1) ≤ p / c := by
  have h : p / (c + 1) * c ≤ p := by
    have h1 : p / (c + 1) * (c + 1) ≤ p := Int.ediv_mul_le _ (by omega)
    have h2 : 0 ≤ p / (c + 1) := Int.ediv_nonneg hp (by omega)
    rw [Int.mul_add] at h1
    omega
  exact (Int.le_ediv_iff_mul_le hc).2 h

theorem md_plain (a b c : Int) (ha : 0 ≤ a) (hb : 0 ≤ b) (hc : 1 ≤ c) (h : a * b ≤ 4611686018427387904) : mdV a b c = a * b / c ∧ mdOk a b c = true := by
  have e1 : oz a = a := oz_pos ha
  have e2 : oz b = b := oz_pos hb
  have h0 : 0 ≤ a * b := Int.mul_nonneg ha hb
  have h1 : a * b / c ≤ a * b := Int.ediv_le_self _ h0
  have g := md_good a b c ha hb hc (by rw [e1, e2]; omega)
  rw [e1, e2] at g
  exact g

set_option maxHeartbeats 2000000 in
theorem walk_RatioParts (a : Int) (wa : -9223372036854775808 ≤ a ∧ a ≤ 9223372036854775807) (b : Int) (wb : -9223372036854775808 ≤ b ∧ b ≤ 9223372036854775807) (c : Int) (wc : -9223372036854775808 ≤ c ∧ c ≤ 9223372036854775807) (w : World) :
    Calls Try.prog 5 #[.int .i64 a, .int .i64 b, .int .i64 c] w fun e w' => e = .returned (.bool true) ∧ Below w.heap.size w w' := by
  have bA := u64mod a 1099511627776 (by omega)
  have bB := u64mod b 1048576 (by omega)
  have bC := u64mod c 1048576 (by omega)
  obtain ⟨A, hA⟩ : ∃ A, (IntKind.u64.wrap a).tmod 1099511627776 = A := ⟨_, rfl⟩
  obtain ⟨B, hB⟩ : ∃ B, (IntKind.u64.wrap b).tmod 1048576 = B := ⟨_, rfl⟩
  obtain ⟨C0, hC⟩ : ∃ C0, (IntKind.u64.wrap c).tmod 1048576 = C0 := ⟨_, rfl⟩
  rw [hA] at bA
  rw [hB] at bB
  rw [hC] at bC
  have pAB : A * B ≤ 1099511627776 * 1048576 := Int.mul_le_mul (by omega) (by omega) bB.1 (by omega)
  have pAC : A * (1 + C0) ≤ 1099511627776 * 1048576 := Int.mul_le_mul (by omega) (by omega) (by omega) (by omega)
  have pA1 : (A + 1) * B ≤ 1099511627776 * 1048576 := Int.mul_le_mul (by omega) (by omega) bB.1 (by omega)
  have nAB : 0 ≤ A * B := Int.mul_nonneg bA.1 bB.1
  have e1 := md_plain A (1 + C0) (1 + C0) bA.1 (by omega) (by omega) (by omega)
  have e2 := md_plain A B (1 + C0) bA.1 bB.1 (by omega) (by omega)
  have e3 := md_plain A B (1 + C0 + 1) bA.1 bB.1 (by omega) (by omega)
  have e4 := md_plain (A + 1) B (1 + C0) (by omega) bB.1 (by omega) (by omega)
  rw [Int.mul_ediv_cancel _ (by omega : 1 + C0 ≠ 0)] at e1
  have l1 : A * B / (1 + C0 + 1) ≤ A * B / (1 + C0) := ediv_anti _ _ nAB (by omega)
  have l2 : A * B / (1 + C0) ≤ (A + 1) * B / (1 + C0) := Int.ediv_le_ediv (by omega) (by rw [Int.add_mul]; omega)
  have l3 : A * B / (1 + C0) * (1 + C0) ≤ A * B := Int.ediv_mul_le _ (by omega)
  have l4 : A * B < A * B / (1 + C0) * (1 + C0) + (1 + C0) := by
    have := Int.lt_ediv_add_one_mul_self (A * B) (by omega : 0 < 1 + C0)
    rw [Int.add_mul] at this
    omega
  have l5 : 0 ≤ A * B / (1 + C0) := Int.ediv_nonneg nAB (by omega)
  have l6 : 0 ≤ A * B / (1 + C0) * (1 + C0) := Int.mul_nonneg l5 (by omega)
  obtain ⟨x, hx⟩ : ∃ x, A * B / (1 + C0) = x := ⟨_, rfl⟩
  obtain ⟨y, hy⟩ : ∃ y, A * B / (1 + C0 + 1) = y := ⟨_, rfl⟩
  obtain ⟨z, hz⟩ : ∃ z, (A + 1) * B / (1 + C0) = z := ⟨_, rfl⟩
  rw [hx] at l1 l2 l3 l4 l5 l6 e2
  rw [hy] at l1 e3
  rw [hz] at l2 e4
  have D1 : Hid (∀ w, Calls Try.prog 10 #[.int .i64 A, .int .i64 (1 + C0), .int .i64 (1 + C0)] w fun e w' => e = .returned (.tuple #[.int .i64 A, .bool true]) ∧ Below w.heap.size w w') := fun w => by
    have h := mulDiv_any A (1 + C0) (1 + C0) w (by omega) (by omega) (by omega); rw [e1.1, e1.2] at h; exact h
  have D2 : Hid (∀ w, Calls Try.prog 10 #[.int .i64 A, .int .i64 B, .int .i64 (1 + C0)] w fun e w' => e = .returned (.tuple #[.int .i64 x, .bool true]) ∧ Below w.heap.size w w') := fun w => by
    have h := mulDiv_any A B (1 + C0) w (by omega) (by omega) (by omega); rw [e2.1, e2.2] at h; exact h
  have D3 : Hid (∀ w, Calls Try.prog 10 #[.int .i64 A, .int .i64 B, .int .i64 (1 + C0 + 1)] w fun e w' => e = .returned (.tuple #[.int .i64 y, .bool true]) ∧ Below w.heap.size w w') := fun w => by
    have h := mulDiv_any A B (1 + C0 + 1) w (by omega) (by omega) (by omega); rw [e3.1, e3.2] at h; exact h
  have D4 : Hid (∀ w, Calls Try.prog 10 #[.int .i64 (A + 1), .int .i64 B, .int .i64 (1 + C0)] w fun e w' => e = .returned (.tuple #[.int .i64 z, .bool true]) ∧ Below w.heap.size w w') := fun w => by
    have h := mulDiv_any (A + 1) B (1 + C0) w (by omega) (by omega) (by omega); rw [e4.1, e4.2] at h; exact h
  clear e1 e2 e3 e4 hx hy hz wa wb wc pAC pA1
  go_enter Try.func5, Try.ntmps5
  go_wp2_with fail
  refine (D1.out _).mono ?_
  rintro e w1 ⟨rfl, hb1⟩
  go_wp2_with fail
  refine (D2.out _).mono ?_
  rintro e w2 ⟨rfl, hb2⟩
  go_wp2_with fail
  refine (D3.out _).mono ?_
  rintro e w3 ⟨rfl, hb3⟩
  go_wp2_with fail
  refine (D4.out _).mono ?_
  rintro e w4 ⟨rfl, hb4⟩
  go_wp2_with fail
  refine (awake_any _).mono ?_
  rintro e w5 ⟨rfl, hb5⟩
  go_wp2
  go_ret
  exact ⟨rfl, hb1.trans ((hb2.trans ((hb3.trans ((hb4.trans (hb5.mono hb4.size)).mono hb3.size)).mono hb2.size)).mono hb1.size)⟩

set_option maxRecDepth 100000 in
theorem lifted_RatioParts (os : Os) (started : os.Started) (H : Type) (enc : TypeId × Value → H) :
    ReturnsInHanded {} Try.checked os 5 .any (Rows.ratioPartsSpec.pre6 enc Try.prog Try.f5 Rows.ratioPartsRow.domain false) (Rows.ratioPartsSpec.post enc Try.prog Try.f5 false true false false) := by
  refine returnsInHanded_of_change (C := Try.checked) own started (by kernel_rfl) Try.func5
    (ChangeSpec.witness6 (enc := enc) (C := Try.checked) false ⟨#[], #[.int .i64 0, .int .i64 0, .int .i64 0], []⟩ 8 (by kernel_rfl) (by kernel_rfl) (by kernel_rfl) (by kernel_rfl)) ?_
  intro W base args ds gs before hval0 hW hcnd _
  have hval : ∀ (j : Nat) t v, Try.f5.params[j]? = some t → args[j]? = some v → Value.okWide Try.prog W .any base t v := hval0
  have hW' := hW
  obtain ⟨p, q, hA0, hV, rfl, hfz, hnd⟩ := hW
  have hA : DataW.TrodAll enc Try.prog W 0 (fun _ => true) true Try.f5.params.toList args.toList ds p := hA0
  rw [Try.params5] at hA hval
  obtain ⟨v0, vs0, d0, ds0, p0, q0, hargs, rfl, rfl, h0, r0⟩ := trodAll_cons hA
  obtain ⟨v1, vs1, d1, ds1, p1, q1, rfl, rfl, rfl, h1, r1⟩ := trodAll_cons r0
  obtain ⟨v2, vs2, d2, ds2, p2, q2, rfl, rfl, rfl, h2, r2⟩ := trodAll_cons r1
  obtain ⟨rfl, rfl, rfl⟩ := trodAll_nil r2
  obtain rfl : args = #[v0, v1, v2] := by cases args; simp_all
  obtain ⟨rfl, rfl⟩ := trodVars_none hV
  obtain ⟨a0, rfl, rfl, rfl, w0⟩ := open_int Try.underlying3 (hval 0 3 v0 rfl rfl) h0
  obtain ⟨a1, rfl, rfl, rfl, w1⟩ := open_int Try.underlying3 (hval 1 3 v1 rfl rfl) h1
  obtain ⟨a2, rfl, rfl, rfl, w2⟩ := open_int Try.underlying3 (hval 2 3 v2 rfl rfl) h2
  clear hA0 hval0
  refine (walk_RatioParts a0 (wf_i64 w0) a1 (wf_i64 w1) a2 (wf_i64 w2) W).mono fun e W' ⟨he, bel⟩ => ?_
  subst he
  exact ⟨_, rfl, _, _, _, [], _, [], hW', trodAll_mk1 (shut_bool Try.underlying4 _), (trodAll_cons_mk (shut_int Try.underlying3 w0) (trodAll_cons_mk (shut_int Try.underlying3 w1) (trodAll_cons_mk (shut_int Try.underlying3 w2) trodAll_mk0))), rfl, bel.frame _, fun h => by cases h⟩

theorem over_RatioParts : Rows.ratioPartsRow.holds Try.pinned (OpenSpec.ofChange Rows.ratioPartsSpec) :=
  OpenClaim.holds_of_wide 5 Try.f5 rfl rfl rfl rfl rfl rfl rfl ⟨rfl, rfl, rfl, rfl, rfl⟩ rfl rfl rfl rfl rfl (by kernel_rfl) Try.func5 (by kernel_rfl)
    (of_decide_eq_true (by kernel_rfl)) (by unfold Func.isWrapper; first | (rw [if_pos (by decide +kernel)]; kernel_rfl) | (rw [if_neg (by decide +kernel)]; exact ⟨rfl, rfl⟩))
    (fun os started H enc _ => lifted_RatioParts os started H enc)

/-- The statement. -/
theorem ratioParts_holds : Rows.RatioPartsSaid := over_RatioParts
#print axioms ratioParts_holds
end Go.Proofs.Ytkhklfbgfikeoaa
