/-
  Proved: triagelaw1.RatioBig returns true for every two ints and changes nothing that was there. No condition.
-/
import Derived.Test.YtkhklfbgfikeoabFrame
namespace Go.Proofs.Ytkhklfbgfikeoab
open Go.ChangeShapes Go.WideShapes Go.ChangeAt Go.RowKit
open Go.ChangeMaps (open_string shut_string)
set_option linter.unusedVariables false

theorem u64mod (a m : Int) (hm : 0 < m) : 0 ≤ (IntKind.u64.wrap a).tmod m ∧ (IntKind.u64.wrap a).tmod m < m := by
  rw [IntKind.wrap_u64, Int.tmod_eq_emod_of_nonneg (by omega)]
  exact ⟨Int.emod_nonneg _ (by omega), Int.emod_lt_of_pos _ hm⟩
theorem md_back (a b : Int) (ha : 0 ≤ a) (ha2 : a ≤ 4611686018427387904) (hb : 1 ≤ b) : mdV a b b = a ∧ mdOk a b b = true := by
  have e1 : oz a = a := oz_pos ha
  have e2 : oz b = b := oz_pos (by omega)
  have e3 : a * b / b = a := Int.mul_ediv_cancel _ (by omega)
  have g := md_good a b b ha (by omega) hb (by rw [e1, e2, e3]; exact ha2)
  rw [e1, e2, e3] at g
  exact g
theorem cmp_same (a b : Int) : cmpV (oz a * oz b) (oz b * oz a) = 0 := by
  rw [Int.mul_comm]; unfold cmpV; rw [if_neg (by omega), if_neg (by omega)]
theorem cmp_less (a b : Int) (ha : 0 < a) (hb : 1 ≤ b) : cmpV (oz a * oz b) (oz a * oz (b - 1)) = 1 := by
  rw [oz_pos (by omega : 0 ≤ a), oz_pos (by omega : 0 ≤ b), oz_pos (by omega : 0 ≤ b - 1), Int.mul_sub]
  unfold cmpV
  rw [if_neg (by omega), if_pos (by omega)]
theorem md_top : mdV 4611686018427387904 2 1 = 0 ∧ mdOk 4611686018427387904 2 1 = false := by decide +kernel

set_option maxHeartbeats 2000000 in
theorem walk_RatioBig (a : Int) (wa : -9223372036854775808 ≤ a ∧ a ≤ 9223372036854775807) (b : Int) (wb : -9223372036854775808 ≤ b ∧ b ≤ 9223372036854775807) (w : World) :
    Calls Try.prog 3 #[.int .i64 a, .int .i64 b] w fun e w' => e = .returned (.bool true) ∧ Below w.heap.size w w' := by
  have bA := u64mod a 4611686018427387905 (by omega)
  have bB := u64mod b 4611686018427387904 (by omega)
  obtain ⟨A, hA⟩ : ∃ A, (IntKind.u64.wrap a).tmod 4611686018427387905 = A := ⟨_, rfl⟩
  obtain ⟨B, hB⟩ : ∃ B, (IntKind.u64.wrap b).tmod 4611686018427387904 = B := ⟨_, rfl⟩
  rw [hA] at bA
  rw [hB] at bB
  have e1 := md_back A (1 + B) bA.1 (by omega) (by omega)
  have e3 := md_bad A (1 + B) 0 (by omega)
  have e4 := md_bad (-1 - A) (1 + B) 1 (by omega)
  have e5 := md_back 4611686018427387904 (1 + B) (by omega) (by omega) (by omega)
  have D1 : Hid (∀ w, Calls Try.prog 4 #[.int .i64 A, .int .i64 (1 + B), .int .i64 (1 + B)] w fun e w' => e = .returned (.tuple #[.int .i64 A, .bool true]) ∧ Below w.heap.size w w') := fun w => by
    have h := mulDiv_any A (1 + B) (1 + B) w (by omega) (by omega) (by omega); rw [e1.1, e1.2] at h; exact h
  have D2 : Hid (∀ w, Calls Try.prog 4 #[.int .i64 4611686018427387904, .int .i64 2, .int .i64 1] w fun e w' => e = .returned (.tuple #[.int .i64 0, .bool false]) ∧ Below w.heap.size w w') := fun w => by
    have h := mulDiv_any 4611686018427387904 2 1 w (by omega) (by omega) (by omega); rw [md_top.1, md_top.2] at h; exact h
  have D3 : Hid (∀ w, Calls Try.prog 4 #[.int .i64 A, .int .i64 (1 + B), .int .i64 0] w fun e w' => e = .returned (.tuple #[.int .i64 0, .bool false]) ∧ Below w.heap.size w w') := fun w => by
    have h := mulDiv_any A (1 + B) 0 w (by omega) (by omega) (by omega); rw [e3.1, e3.2] at h; exact h
  have D4 : Hid (∀ w, Calls Try.prog 4 #[.int .i64 (-1 - A), .int .i64 (1 + B), .int .i64 1] w fun e w' => e = .returned (.tuple #[.int .i64 0, .bool false]) ∧ Below w.heap.size w w') := fun w => by
    have h := mulDiv_any (-1 - A) (1 + B) 1 w (by omega) (by omega) (by omega); rw [e4.1, e4.2] at h; exact h
  have D5 : Hid (∀ w, Calls Try.prog 4 #[.int .i64 4611686018427387904, .int .i64 (1 + B), .int .i64 (1 + B)] w fun e w' => e = .returned (.tuple #[.int .i64 4611686018427387904, .bool true]) ∧ Below w.heap.size w w') := fun w => by
    have h := mulDiv_any 4611686018427387904 (1 + B) (1 + B) w (by omega) (by omega) (by omega); rw [e5.1, e5.2] at h; exact h
  have D6 : Hid (∀ w, Calls Try.prog 5 #[.int .i64 A, .int .i64 (1 + B), .int .i64 (1 + B), .int .i64 A] w fun e w' => e = .returned (.int .i64 0) ∧ Below w.heap.size w w') := fun w => by
    have h := compare_any A (1 + B) (1 + B) A w (by omega) (by omega) (by omega) (by omega); rw [cmp_same] at h; exact h
  have D7 : Hid (0 < A → ∀ w, Calls Try.prog 5 #[.int .i64 A, .int .i64 (1 + B), .int .i64 A, .int .i64 (1 + B - 1)] w fun e w' => e = .returned (.int .i64 1) ∧ Below w.heap.size w w') := fun h0 w => by
    have h := compare_any A (1 + B) A (1 + B - 1) w (by omega) (by omega) (by omega) (by omega); rw [cmp_less A (1 + B) h0 (by omega)] at h; exact h
  clear e1 e3 e4 e5 wa wb
  by_cases h0 : A = 0
  · have hz : (A == 0) = true := by simp [h0]
    clear h0
    go_enter Try.func3, Try.ntmps3
    go_wp2_with fail
    refine (D1.out _).mono ?_
    rintro e w1 ⟨rfl, hb1⟩
    go_wp2_with fail
    refine (D2.out _).mono ?_
    rintro e w2 ⟨rfl, hb2⟩
    go_wp2_with fail
    refine (D3.out _).mono ?_
    rintro e w3 ⟨rfl, hb3⟩
    go_wp2_with fail
    refine (D4.out _).mono ?_
    rintro e w4 ⟨rfl, hb4⟩
    go_wp2_with fail
    refine (D5.out _).mono ?_
    rintro e w5 ⟨rfl, hb5⟩
    go_wp2_with fail
    refine (D6.out _).mono ?_
    rintro e w6 ⟨rfl, hb6⟩
    go_wp2_with fail
    refine (awake_any _).mono ?_
    rintro e w7 ⟨rfl, hb7⟩
    go_wp2
    go_ret
    exact ⟨rfl, hb1.trans ((hb2.trans ((hb3.trans ((hb4.trans ((hb5.trans ((hb6.trans (hb7.mono hb6.size)).mono hb5.size)).mono hb4.size)).mono hb3.size)).mono hb2.size)).mono hb1.size)⟩
  · have hp : 0 < A := by omega
    have hz : (A == 0) = false := by simp [h0]
    clear h0
    go_enter Try.func3, Try.ntmps3
    go_wp2_with fail
    refine (D1.out _).mono ?_
    rintro e w1 ⟨rfl, hb1⟩
    go_wp2_with fail
    refine (D2.out _).mono ?_
    rintro e w2 ⟨rfl, hb2⟩
    go_wp2_with fail
    refine (D3.out _).mono ?_
    rintro e w3 ⟨rfl, hb3⟩
    go_wp2_with fail
    refine (D4.out _).mono ?_
    rintro e w4 ⟨rfl, hb4⟩
    go_wp2_with fail
    refine (D5.out _).mono ?_
    rintro e w5 ⟨rfl, hb5⟩
    go_wp2_with fail
    refine (D6.out _).mono ?_
    rintro e w6 ⟨rfl, hb6⟩
    go_wp2_with fail
    refine (D7.out hp _).mono ?_
    rintro e w7 ⟨rfl, hb7⟩
    go_wp2_with fail
    refine (awake_any _).mono ?_
    rintro e w8 ⟨rfl, hb8⟩
    go_wp2
    go_ret
    exact ⟨rfl, hb1.trans ((hb2.trans ((hb3.trans ((hb4.trans ((hb5.trans ((hb6.trans ((hb7.trans (hb8.mono hb7.size)).mono hb6.size)).mono hb5.size)).mono hb4.size)).mono hb3.size)).mono hb2.size)).mono hb1.size)⟩

set_option maxRecDepth 100000 in
theorem lifted_RatioBig (os : Os) (started : os.Started) (H : Type) (enc : TypeId × Value → H) :
    ReturnsInHanded {} Try.checked os 3 .any (Rows.ratioBigSpec.pre6 enc Try.prog Try.f3 Rows.ratioBigRow.domain false) (Rows.ratioBigSpec.post enc Try.prog Try.f3 false true false false) := by
  refine returnsInHanded_of_change (C := Try.checked) own started (by kernel_rfl) Try.func3
    (ChangeSpec.witness6 (enc := enc) (C := Try.checked) false ⟨#[], #[.int .i64 0, .int .i64 0], []⟩ 8 (by kernel_rfl) (by kernel_rfl) (by kernel_rfl) (by kernel_rfl)) ?_
  intro W base args ds gs before hval0 hW hcnd _
  have hval : ∀ (j : Nat) t v, Try.f3.params[j]? = some t → args[j]? = some v → Value.okWide Try.prog W .any base t v := hval0
  have hW' := hW
  obtain ⟨p, q, hA0, hV, rfl, hfz, hnd⟩ := hW
  have hA : DataW.TrodAll enc Try.prog W 0 (fun _ => true) true Try.f3.params.toList args.toList ds p := hA0
  rw [Try.params3] at hA hval
  obtain ⟨v0, vs0, d0, ds0, p0, q0, hargs, rfl, rfl, h0, r0⟩ := trodAll_cons hA
  obtain ⟨v1, vs1, d1, ds1, p1, q1, rfl, rfl, rfl, h1, r1⟩ := trodAll_cons r0
  obtain ⟨rfl, rfl, rfl⟩ := trodAll_nil r1
  obtain rfl : args = #[v0, v1] := by cases args; simp_all
  obtain ⟨rfl, rfl⟩ := trodVars_none hV
  obtain ⟨a0, rfl, rfl, rfl, w0⟩ := open_int Try.underlying3 (hval 0 3 v0 rfl rfl) h0
  obtain ⟨a1, rfl, rfl, rfl, w1⟩ := open_int Try.underlying3 (hval 1 3 v1 rfl rfl) h1
  clear hA0 hval0
  refine (walk_RatioBig a0 (wf_i64 w0) a1 (wf_i64 w1) W).mono fun e W' ⟨he, bel⟩ => ?_
  subst he
  exact ⟨_, rfl, _, _, _, [], _, [], hW', trodAll_mk1 (shut_bool Try.underlying4 _), (trodAll_cons_mk (shut_int Try.underlying3 w0) (trodAll_cons_mk (shut_int Try.underlying3 w1) trodAll_mk0)), rfl, bel.frame _, fun h => by cases h⟩

theorem over_RatioBig : Rows.ratioBigRow.holds Try.pinned (OpenSpec.ofChange Rows.ratioBigSpec) :=
  OpenClaim.holds_of_wide 3 Try.f3 rfl rfl rfl rfl rfl rfl rfl ⟨rfl, rfl, rfl, rfl, rfl⟩ rfl rfl rfl rfl rfl (by kernel_rfl) Try.func3 (by kernel_rfl)
    (of_decide_eq_true (by kernel_rfl)) (by unfold Func.isWrapper; first | (rw [if_pos (by decide +kernel)]; kernel_rfl) | (rw [if_neg (by decide +kernel)]; exact ⟨rfl, rfl⟩))
    (fun os started H enc _ => lifted_RatioBig os started H enc)

/-- The statement. -/
theorem ratioBig_holds : Rows.RatioBigSaid := over_RatioBig
#print axioms ratioBig_holds
end Go.Proofs.Ytkhklfbgfikeoab
