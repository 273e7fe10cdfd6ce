/-
  Proved: triagelaw1.RatioForms returns true for every four ints and every slice of ints, whatever the package variables that its row names hold, and changes nothing that was there. No condition beyond the row's own reach.
-/
import Derived.Test.YtkhklfbgfikeoaaFrame
import Derived.Test.YtkhklfbgfikeoaaRefSpread
namespace Go.Proofs.Ytkhklfbgfikeoaa
open Go.ChangeShapes Go.WideShapes Go.ChangeAt Go.RowKit
open Go.ChangeMaps (open_string shut_string)
set_option linter.unusedVariables false

set_option maxHeartbeats 4000000 in
theorem walk_RatioForms {w : World} (a : Int) (wa : -9223372036854775808 ≤ a ∧ a ≤ 9223372036854775807) (b : Int) (wb : -9223372036854775808 ≤ b ∧ b ≤ 9223372036854775807) (c : Int) (wc : -9223372036854775808 ≤ c ∧ c ≤ 9223372036854775807)
    (d : Int) (wd : -9223372036854775808 ≤ d ∧ d ≤ 9223372036854775807) (v0 : Value) (l : List Int) (hl : IsInts w v0 l) (rl : l.length ≤ 17592186043904) :
    Calls Try.prog 3 #[.int .i64 a, .int .i64 b, .int .i64 c, .int .i64 d, v0] w fun e w' => e = .returned (.bool true) ∧ Below w.heap.size w w' := by
  have HL : Hid (IsInts w v0 l) := hl
  obtain ⟨ao, cap, rfl⟩ := hl.shape
  clear hl
  by_cases hgt : 100 < l.length
  · go_enter Try.func3, Try.ntmps3
    go_wp2_with fail
    refine (awake_any _).mono ?_
    rintro e w1 ⟨rfl, hb1⟩
    go_wp2
    go_ret
    exact ⟨rfl, hb1⟩
  · have hlen : l.length ≤ 1000000 := by omega
    obtain ⟨M, hM⟩ : ∃ M, mdV a b c = M := ⟨_, rfl⟩
    obtain ⟨O, hO⟩ : ∃ O, mdOk a b c = O := ⟨_, rfl⟩
    obtain ⟨P, hP⟩ : ∃ P, cmpV (oz a * oz b) (oz c * oz d) = P := ⟨_, rfl⟩
    have D1 : Hid (∀ w, Calls Try.prog 10 #[.int .i64 a, .int .i64 b, .int .i64 c] w fun e w' => e = .returned (.tuple #[.int .i64 M, .bool O]) ∧ Below w.heap.size w w') := fun w => by
      have h := mulDiv_any a b c w wa.2 wb.2 wc.2; rw [hM, hO] at h; exact h
    have D2 : Hid (∀ w, Calls Try.prog 11 #[.int .i64 a, .int .i64 b, .int .i64 c] w fun e w' => e = .returned (.tuple #[.int .i64 M, .bool O]) ∧ Below w.heap.size w w') := fun w => by
      have h := rMulDiv_any a b c w wa.2 wb.2 wc.2; rw [hM, hO] at h; exact h
    have D3 : Hid (∀ w, Calls Try.prog 12 #[.int .i64 a, .int .i64 b, .int .i64 c, .int .i64 d] w fun e w' => e = .returned (.int .i64 P) ∧ Below w.heap.size w w') := fun w => by
      have h := compare_any a b c d w wa.2 wb.2 wc.2 wd.2; rw [hP] at h; exact h
    have D4 : Hid (∀ w, Calls Try.prog 13 #[.int .i64 a, .int .i64 b, .int .i64 c, .int .i64 d] w fun e w' => e = .returned (.int .i64 P) ∧ w' = w) := fun w => by
      have h := rCompare_any a b c d w wa.2 wb.2 wc.2 wd.2; rw [hP] at h; exact h
    have WA : Hid (a ≤ 9223372036854775807) := wa.2
    have WB : Hid (b ≤ 9223372036854775807) := wb.2
    have hOO : (O == O) = true := by simp
    clear hM hO hP
    go_enter Try.func3, Try.ntmps3
    go_wp2_with fail
    refine (D1.out _).mono ?_
    rintro e w1 ⟨rfl, hb1⟩
    go_wp2_with fail
    refine (D2.out _).mono ?_
    rintro e w2 ⟨rfl, hb2⟩
    have B2 : Hid (Below w.heap.size w w2) := hb1.trans (hb2.mono hb1.size)
    clear hb1 hb2
    go_wp2_with fail
    refine (D3.out _).mono ?_
    rintro e w3 ⟨rfl, hb3⟩
    have B3 : Hid (Below w.heap.size w w3) := B2.out.trans (hb3.mono B2.out.size)
    clear hb3
    go_wp2_with fail
    refine (D4.out _).mono ?_
    rintro e w4 ⟨rfl, hw⟩
    subst w4
    go_wp2_with fail
    refine (percent_any a b _ WA.out WB.out).mono ?_
    rintro e w4 ⟨rfl, hb4⟩
    have B4 : Hid (Below w.heap.size w w4) := B3.out.trans (hb4.mono B3.out.size)
    clear hb4
    go_wp2_with fail
    refine (rPercent_any a b _ WA.out WB.out).mono ?_
    rintro e w5 ⟨rfl, hb5⟩
    have B5 : Hid (Below w.heap.size w w5) := B4.out.trans (hb5.mono B4.out.size)
    clear hb5
    generalize mdV a b 100 = N
    go_wp2_with fail
    refine (sum_any l _ _ (HL.out.below B5.out)).mono ?_
    rintro e w6 ⟨rfl, hw⟩
    subst w6
    go_wp2_with fail
    refine (rSum_any l _ _ (HL.out.below B5.out)).mono ?_
    rintro e w6 ⟨rfl, hw⟩
    subst w6
    generalize sumV l = S
    go_wp2_with fail
    refine (draw_any a b _ WB.out).mono ?_
    rintro e w6 ⟨rfl, hw⟩
    subst w6
    go_wp2_with fail
    refine (rDraw_any a b _ WB.out).mono ?_
    rintro e w6 ⟨rfl, hw⟩
    subst w6
    generalize drawV a b = D
    go_wp2_with fail
    refine (spread_any a l _ _ (HL.out.below B5.out) hlen).mono ?_
    rintro e w6 ⟨v1, rfl, hi1, hb6⟩
    have B6 : Hid (Below w.heap.size w w6) := B5.out.trans (hb6.mono B5.out.size)
    have HI1 : Hid (IsInts w6 v1 (spreadV a l)) := hi1
    clear hb6 hi1
    go_wp2_with fail
    refine (rSpread_any a l _ _ (HL.out.below B6.out) hlen).mono ?_
    rintro e w7 ⟨v2, rfl, hi2, hb7⟩
    have B7 : Hid (Below w.heap.size w w7) := B6.out.trans (hb7.mono B6.out.size)
    have HI3 : Hid (IsInts w7 v1 (spreadV a l)) := HI1.out.below hb7
    have HI2 : Hid (IsInts w7 v2 (spreadV a l)) := hi2
    clear hb7 hi2
    go_wp2_with fail
    refine (rInts_yes (spreadV a l) _ _ _ HI3.out HI2.out).mono ?_
    rintro e w8 ⟨rfl, hb8⟩
    have B8 : Hid (Below w.heap.size w w8) := B7.out.trans (hb8.mono B7.out.size)
    clear hb8
    go_wp2_with fail
    refine (awake_any _).mono ?_
    rintro e w9 ⟨rfl, hb9⟩
    go_wp2
    go_ret
    exact ⟨rfl, B8.out.trans (hb9.mono B8.out.size)⟩

set_option maxRecDepth 100000 in
theorem lifted_RatioForms (os : Os) (started : os.Started) (H : Type) (enc : TypeId × Value → H) :
    ReturnsInHanded {} Try.checked os 3 .any (Rows.ratioFormsSpec.pre6 enc Try.prog Try.f3 Rows.ratioFormsRow.domain false) (Rows.ratioFormsSpec.post enc Try.prog Try.f3 false true false false) := by
  refine returnsInHanded_of_change_sized (C := Try.checked) own started (by kernel_rfl) Try.func3
    (ChangeSpec.witness6 (enc := enc) (C := Try.checked) false ⟨#[], #[.int .i64 0, .int .i64 0, .int .i64 0, .int .i64 0, .slice none 0 0], []⟩ 8 (by kernel_rfl) (by kernel_rfl) (by kernel_rfl) (by kernel_rfl)) ?_
  intro W base args ds gs before hval0 hW hcnd hsz0 hholds
  have hval : ∀ (j : Nat) t v, Try.f3.params[j]? = some t → args[j]? = some v → Value.okWide Try.prog W .any base t v := hval0
  have hW' := hW
  obtain ⟨p, q, hA0, hV, rfl, hfz, hnd⟩ := hW
  have hA : DataW.TrodAll enc Try.prog W 0 (fun _ => true) true Try.f3.params.toList args.toList ds p := hA0
  have hsz : (DataW.weightsEach Try.prog (Try.f3.params.toList ++ Rows.ratioFormsSpec.plain.varTypes Try.prog) (ds ++ gs)).all (· ≤ reachBytes) = true := hsz0
  rw [Try.params3] at hA hval hsz
  obtain ⟨v0, vs0, d0, ds0, p0, q0, hargs, rfl, rfl, h0, r0⟩ := trodAll_cons hA
  obtain ⟨v1, vs1, d1, ds1, p1, q1, rfl, rfl, rfl, h1, r1⟩ := trodAll_cons r0
  obtain ⟨v2, vs2, d2, ds2, p2, q2, rfl, rfl, rfl, h2, r2⟩ := trodAll_cons r1
  obtain ⟨v3, vs3, d3, ds3, p3, q3, rfl, rfl, rfl, h3, r3⟩ := trodAll_cons r2
  obtain ⟨v4, vs4, d4, ds4, p4, q4, rfl, rfl, rfl, h4, r4⟩ := trodAll_cons r3
  obtain ⟨rfl, rfl, rfl⟩ := trodAll_nil r4
  obtain rfl : args = #[v0, v1, v2, v3, v4] := by cases args; simp_all
  obtain ⟨rfl, rfl⟩ := trodVars_none hV
  obtain ⟨a0, rfl, rfl, rfl, w0⟩ := open_int Try.underlying3 (hval 0 3 v0 rfl rfl) h0
  obtain ⟨a1, rfl, rfl, rfl, w1⟩ := open_int Try.underlying3 (hval 1 3 v1 rfl rfl) h1
  obtain ⟨a2, rfl, rfl, rfl, w2⟩ := open_int Try.underlying3 (hval 2 3 v2 rfl rfl) h2
  obtain ⟨a3, rfl, rfl, rfl, w3⟩ := open_int Try.underlying3 (hval 3 3 v3 rfl rfl) h3
  obtain ⟨a4, len4, cap4, rfl⟩ := okWide_slice Try.underlying22 (hval 4 22 v4 rfl rfl)
  have k4 := h4
  have lt4 : ∀ x ∈ p4, x.block < W.heap.size := by obtain ⟨m, hm⟩ := k4; exact DataW.trod_lt m _ _ _ hm
  obtain ⟨z4, w4, y4⟩ : ∃ zs, IsInts W (.slice a4 len4 cap4) zs ∧ zs.length ≤ 17592186043904 := by
    obtain ⟨fuel, hf⟩ := h4
    rcases open_ints Try.underlying22 Try.underlying3 (by kernel_rfl) hf with ⟨hcs, _⟩ | ⟨x, l, c, zs, hcs, _, hl, hm, hz, hx, hcell, hwz⟩
    · simp [Value.cells] at hcs
      obtain ⟨rfl, rfl, rfl⟩ := hcs
      exact ⟨[], isInts_nil W, by simp⟩
    · simp [Value.cells] at hcs
      obtain ⟨rfl, rfl, rfl⟩ := hcs
      simp only [Prod.mk.injEq] at hx
      obtain ⟨rfl, rfl⟩ := hx
      have hs := sized_slice hsz (j := 4) (t := 22) (e := 3) rfl rfl Try.underlying22
      rw [Try.bytes3] at hs
      simp only [lits, List.length_map, reachBytes] at hs
      exact ⟨_, isInts_row hl hm (by simpa using hz) hcell hwz, by omega⟩
  clear hA0 hval0
  refine (walk_RatioForms a0 (wf_i64 w0) a1 (wf_i64 w1) a2 (wf_i64 w2) a3 (wf_i64 w3) _ z4 w4 y4).mono fun e W' ⟨he, bel⟩ => ?_
  subst he
  exact ⟨_, rfl, _, _, _, [], _, [], hW', trodAll_mk1 (shut_bool Try.underlying4 _), (trodAll_cons_mk (shut_int Try.underlying3 w0) (trodAll_cons_mk (shut_int Try.underlying3 w1) (trodAll_cons_mk (shut_int Try.underlying3 w2) (trodAll_cons_mk (shut_int Try.underlying3 w3) (trodAll_cons_mk (Below.trod laidOut (by kernel_rfl) (of_decide_eq_true (by kernel_rfl)) k4 bel lt4) trodAll_mk0))))), rfl, bel.frame _, fun h => by cases h⟩

theorem over_RatioForms : Rows.ratioFormsRow.holds Try.pinned (OpenSpec.ofChange Rows.ratioFormsSpec) :=
  OpenClaim.holds_of_wide 3 Try.f3 rfl rfl rfl rfl rfl rfl rfl ⟨rfl, rfl, rfl, rfl, rfl⟩ rfl rfl rfl rfl rfl (by kernel_rfl) Try.func3 (by kernel_rfl)
    (of_decide_eq_true (by kernel_rfl)) (by unfold Func.isWrapper; first | (rw [if_pos (by decide +kernel)]; kernel_rfl) | (rw [if_neg (by decide +kernel)]; exact ⟨rfl, rfl⟩))
    (fun os started H enc _ => lifted_RatioForms os started H enc)

/-- The statement. -/
theorem ratioForms_holds : Rows.RatioFormsSaid := over_RatioForms
#print axioms ratioForms_holds
end Go.Proofs.Ytkhklfbgfikeoaa
