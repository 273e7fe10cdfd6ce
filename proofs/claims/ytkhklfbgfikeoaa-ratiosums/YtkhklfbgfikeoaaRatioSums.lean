/-
  Proved: triagelaw1.RatioSums returns true for every two slices of ints and changes nothing that was there. No condition beyond the row's own reach.
-/
import Derived.Test.YtkhklfbgfikeoaaFrame
namespace Go.Proofs.Ytkhklfbgfikeoaa
open Go.ChangeShapes Go.WideShapes Go.ChangeAt Go.RowKit
open Go.ChangeMaps (open_string shut_string)
set_option linter.unusedVariables false

theorem sum_join (l m : List Int) : sumV [sumV l, sumV m] = sumV (l ++ m) := by
  have h1 := sumV_bd l
  have h2 := sumV_bd m
  have e : sm [sumV l, sumV m] = sumV l + sumV m := by simp [sm, oz_pos h1.1, oz_pos h2.1]
  have e2 := sm_append l m
  have n1 := sm_nonneg l
  have n2 := sm_nonneg m
  unfold sumV at *
  rw [e, e2]
  split at h1 <;> split at h2 <;> split <;> split <;> omega
theorem sum_left (l m : List Int) : sumV l ≤ sumV (l ++ m) ∧ sumV m ≤ sumV (l ++ m) := by
  have e2 := sm_append l m
  have n1 := sm_nonneg l
  have n2 := sm_nonneg m
  unfold sumV
  rw [e2]
  constructor
  · split <;> split <;> omega
  · split <;> split <;> omega

set_option maxHeartbeats 2000000 in
theorem walk_RatioSums {w : World} (v0 : Value) (l : List Int) (hl : IsInts w v0 l) (rl : l.length ≤ 17592186043904) (v1 : Value) (m : List Int) (hm : IsInts w v1 m) (rm : m.length ≤ 17592186043904) :
    Calls Try.prog 8 #[v0, v1] w fun e w' => e = .returned (.bool true) ∧ Below w.heap.size w w' := by
  have HL : Hid (IsInts w v0 l) := hl
  have HM : Hid (IsInts w v1 m) := hm
  obtain ⟨ao, cap, rfl⟩ := hl.shape
  obtain ⟨bo, cap2, rfl⟩ := hm.shape
  obtain ⟨i0, hi0, hz0, hz1, hz2⟩ := info_parts Try.info3
  clear hl hm
  by_cases hgt : 100 < l.length + m.length
  · go_enter Try.func8, Try.ntmps8
    go_wp2_with fail
    refine (awake_any _).mono ?_
    rintro e w1 ⟨rfl, hb1⟩
    go_wp2
    go_ret
    exact ⟨rfl, hb1⟩
  · go_enter Try.func8, Try.ntmps8
    go_wp2_with fail
    refine (sum_any l _ _ HL.out).mono ?_
    rintro e w1 ⟨rfl, hw⟩
    subst w1
    go_wp2_with fail
    refine (sum_any m _ _ HM.out).mono ?_
    rintro e w1 ⟨rfl, hw⟩
    subst w1
    have HB0 : Hid (Below w.heap.size w (w.alloc (.cells #[] 3))) := (Below.refl _ _).alloc (Nat.le_refl _) _
    go_wp2_with (at_builtin; refine wpList_append_ints rfl (.tmp 19) (.tmp 20) 22 rfl w.heap.size 3 i0 Try.underlying22 hi0 hz0 hz1 hz2 _ [] rfl (own_lit0 w 3) _ l rfl (HL.out.below HB0.out) (by simp; omega) (by simp) ?_)
    intro vA wA hownA hgrowA
    have HBA : Hid (Below w.heap.size w wA) := HB0.out.grown hgrowA (by simp) (fun k hk => by simp [Value.ownBlock] at hk; omega)
    have HOA : Hid (wA.ownsRow w.heap.size 3 1 vA l.length (l.map (Value.int .i64))) := hownA
    have HnA : Hid (∀ k, vA.ownBlock = some k → w.heap.size ≤ k) := own_base hownA
    clear hownA hgrowA
    go_wp2_with (at_builtin; refine wpList_append_ints rfl (.tmp 21) (.tmp 22) 22 rfl w.heap.size 3 i0 Try.underlying22 hi0 hz0 hz1 hz2 _ l rfl HOA.out _ m rfl (HM.out.below HBA.out) (by omega) HBA.out.size ?_)
    intro vB wB hownB hgrowB
    have HBB : Hid (Below w.heap.size w wB) := HBA.out.grown hgrowB HBA.out.size HnA.out
    have HIB : Hid (IsInts wB vB (l ++ m)) := isInts_own (by rw [List.length_append, List.map_append]; exact hownB) rfl (by simp; omega) (fun x hx => by
      rcases List.mem_append.1 hx with h | h
      · exact HL.out.1 x h
      · exact HM.out.1 x h)
    clear hownB hgrowB
    go_wp2_with fail
    refine (sum_any (l ++ m) _ _ HIB.out).mono ?_
    rintro e w1 ⟨rfl, hw⟩
    subst w1
    have ba := sumV_bd l
    have bb := sumV_bd m
    have bc := sumV_bd (l ++ m)
    have bl := sum_left l m
    have HJ : Hid (sumV [sumV l, sumV m] = sumV (l ++ m)) := sum_join l m
    generalize sumV l = A at *
    generalize sumV m = B at *
    generalize sumV (l ++ m) = C at *
    go_wp2_with fail
    refine (sum_any [A, B] _ _ (IsInts.fresh wB [A, B] 3 2 (by simp; omega) (by simp) (by simp))).mono ?_
    rintro e w1 ⟨rfl, hw⟩
    subst w1
    rw [HJ.out]
    go_wp2_with fail
    refine (sum_any [] _ _ (isInts_nil _)).mono ?_
    rintro e w1 ⟨rfl, hw⟩
    subst w1
    have e0 : sumV [] = 0 := rfl
    rw [e0]
    go_wp2_with fail
    refine (awake_any _).mono ?_
    rintro e w2 ⟨rfl, hb2⟩
    go_wp2
    go_ret
    exact ⟨rfl, HBB.out.trans (((Below.refl _ _).alloc HBB.out.size _).trans (hb2.mono (by have := HBB.out.size; simp; omega)))⟩

set_option maxRecDepth 100000 in
theorem lifted_RatioSums (os : Os) (started : os.Started) (H : Type) (enc : TypeId × Value → H) :
    ReturnsInHanded {} Try.checked os 8 .any (Rows.ratioSumsSpec.pre6 enc Try.prog Try.f8 Rows.ratioSumsRow.domain false) (Rows.ratioSumsSpec.post enc Try.prog Try.f8 false true false false) := by
  refine returnsInHanded_of_change_sized (C := Try.checked) own started (by kernel_rfl) Try.func8
    (ChangeSpec.witness6 (enc := enc) (C := Try.checked) false ⟨#[], #[.slice none 0 0, .slice none 0 0], []⟩ 8 (by kernel_rfl) (by kernel_rfl) (by kernel_rfl) (by kernel_rfl)) ?_
  intro W base args ds gs before hval0 hW hcnd hsz0 hholds
  have hval : ∀ (j : Nat) t v, Try.f8.params[j]? = some t → args[j]? = some v → Value.okWide Try.prog W .any base t v := hval0
  have hW' := hW
  obtain ⟨p, q, hA0, hV, rfl, hfz, hnd⟩ := hW
  have hA : DataW.TrodAll enc Try.prog W 0 (fun _ => true) true Try.f8.params.toList args.toList ds p := hA0
  have hsz : (DataW.weightsEach Try.prog (Try.f8.params.toList ++ Rows.ratioSumsSpec.plain.varTypes Try.prog) (ds ++ gs)).all (· ≤ reachBytes) = true := hsz0
  rw [Try.params8] at hA hval hsz
  obtain ⟨v0, vs0, d0, ds0, p0, q0, hargs, rfl, rfl, h0, r0⟩ := trodAll_cons hA
  obtain ⟨v1, vs1, d1, ds1, p1, q1, rfl, rfl, rfl, h1, r1⟩ := trodAll_cons r0
  obtain ⟨rfl, rfl, rfl⟩ := trodAll_nil r1
  obtain rfl : args = #[v0, v1] := by cases args; simp_all
  obtain ⟨rfl, rfl⟩ := trodVars_none hV
  obtain ⟨a0, len0, cap0, rfl⟩ := okWide_slice Try.underlying22 (hval 0 22 v0 rfl rfl)
  have k0 := h0
  have lt0 : ∀ x ∈ p0, x.block < W.heap.size := by obtain ⟨m, hm⟩ := k0; exact DataW.trod_lt m _ _ _ hm
  obtain ⟨z0, w0, y0⟩ : ∃ zs, IsInts W (.slice a0 len0 cap0) zs ∧ zs.length ≤ 17592186043904 := by
    obtain ⟨fuel, hf⟩ := h0
    rcases open_ints Try.underlying22 Try.underlying3 (by kernel_rfl) hf with ⟨hcs, _⟩ | ⟨x, l, c, zs, hcs, _, hl, hm, hz, hx, hcell, hwz⟩
    · simp [Value.cells] at hcs
      obtain ⟨rfl, rfl, rfl⟩ := hcs
      exact ⟨[], isInts_nil W, by simp⟩
    · simp [Value.cells] at hcs
      obtain ⟨rfl, rfl, rfl⟩ := hcs
      simp only [Prod.mk.injEq] at hx
      obtain ⟨rfl, rfl⟩ := hx
      have hs := sized_slice hsz (j := 0) (t := 22) (e := 3) rfl rfl Try.underlying22
      rw [Try.bytes3] at hs
      simp only [lits, List.length_map, reachBytes] at hs
      exact ⟨_, isInts_row hl hm (by simpa using hz) hcell hwz, by omega⟩
  obtain ⟨a1, len1, cap1, rfl⟩ := okWide_slice Try.underlying22 (hval 1 22 v1 rfl rfl)
  have k1 := h1
  have lt1 : ∀ x ∈ p1, x.block < W.heap.size := by obtain ⟨m, hm⟩ := k1; exact DataW.trod_lt m _ _ _ hm
  obtain ⟨z1, w1, y1⟩ : ∃ zs, IsInts W (.slice a1 len1 cap1) zs ∧ zs.length ≤ 17592186043904 := by
    obtain ⟨fuel, hf⟩ := h1
    rcases open_ints Try.underlying22 Try.underlying3 (by kernel_rfl) hf with ⟨hcs, _⟩ | ⟨x, l, c, zs, hcs, _, hl, hm, hz, hx, hcell, hwz⟩
    · simp [Value.cells] at hcs
      obtain ⟨rfl, rfl, rfl⟩ := hcs
      exact ⟨[], isInts_nil W, by simp⟩
    · simp [Value.cells] at hcs
      obtain ⟨rfl, rfl, rfl⟩ := hcs
      simp only [Prod.mk.injEq] at hx
      obtain ⟨rfl, rfl⟩ := hx
      have hs := sized_slice hsz (j := 1) (t := 22) (e := 3) rfl rfl Try.underlying22
      rw [Try.bytes3] at hs
      simp only [lits, List.length_map, reachBytes] at hs
      exact ⟨_, isInts_row hl hm (by simpa using hz) hcell hwz, by omega⟩
  clear hA0 hval0
  refine (walk_RatioSums _ z0 w0 y0 _ z1 w1 y1).mono fun e W' ⟨he, bel⟩ => ?_
  subst he
  exact ⟨_, rfl, _, _, _, [], _, [], hW', trodAll_mk1 (shut_bool Try.underlying4 _), (trodAll_cons_mk (Below.trod laidOut (by kernel_rfl) (of_decide_eq_true (by kernel_rfl)) k0 bel lt0) (trodAll_cons_mk (Below.trod laidOut (by kernel_rfl) (of_decide_eq_true (by kernel_rfl)) k1 bel lt1) trodAll_mk0)), rfl, bel.frame _, fun h => by cases h⟩

theorem over_RatioSums : Rows.ratioSumsRow.holds Try.pinned (OpenSpec.ofChange Rows.ratioSumsSpec) :=
  OpenClaim.holds_of_wide 8 Try.f8 rfl rfl rfl rfl rfl rfl rfl ⟨rfl, rfl, rfl, rfl, rfl⟩ rfl rfl rfl rfl rfl (by kernel_rfl) Try.func8 (by kernel_rfl)
    (of_decide_eq_true (by kernel_rfl)) (by unfold Func.isWrapper; first | (rw [if_pos (by decide +kernel)]; kernel_rfl) | (rw [if_neg (by decide +kernel)]; exact ⟨rfl, rfl⟩))
    (fun os started H enc _ => lifted_RatioSums os started H enc)

/-- The statement. -/
theorem ratioSums_holds : Rows.RatioSumsSaid := over_RatioSums
#print axioms ratioSums_holds
end Go.Proofs.Ytkhklfbgfikeoaa
