/-
  Proved: triagelaw4.TurnOnce returns true for every three ints and changes nothing that was there. No condition.
-/
import Derived.Test.YtcpajkhefhnmeaaTurnFrame
import Derived.Test.YtcpajkhefhnmeaaIntMap
namespace Go.Proofs.Ytcpajkhefhnmeaa
open Go.ChangeShapes Go.WideShapes Go.ChangeAt Go.RowKit

theorem intMapT : IntMapT Try.prog 34 3 3 := ⟨Try.underlying34, Try.underlying3, Try.underlying3, fun w => by kernel_rfl⟩

theorem count_one {l : List Int} {a : Int} (hn : l.Pairwise (· ≠ ·)) (h : a ∈ l) : l.count a = 1 := by
  induction l with
  | nil => simp at h
  | cons x r ih =>
    obtain ⟨h1, h2⟩ := List.pairwise_cons.1 hn
    rw [List.count_cons]
    rcases List.mem_cons.1 h with rfl | h
    · rw [List.count_eq_zero.2 (fun hm => h1 a hm rfl)]; simp
    · rw [ih h2 h, if_neg (by simpa using h1 a h)]

theorem turnV_at (n f : Int) (i : Nat) (h : i < n.toNat) : (turnV n f).getD i 0 = (drawV f n + (i : Int)) % n := by
  unfold turnV; simp [h]

/-- Each number once. -/
theorem turnV_once (N : Nat) (f : Int) (i : Nat) (h : i < N) : (turnV N f).count (i : Int) = 1 := by
  apply count_one
  · rw [List.pairwise_iff_getElem]
    intro a b ha hb hab
    unfold turnV at ha hb ⊢
    simp only [List.length_map, List.length_range] at ha hb
    simp only [List.getElem_map, List.getElem_range]
    intro e
    have h1 := Int.emod_emod_of_dvd (drawV f N + (b : Int) - (drawV f N + (a : Int))) (Int.dvd_refl (N : Int))
    have h2 : (drawV f N + (b : Int) - (drawV f N + (a : Int))) % (N : Int) = 0 := Int.emod_eq_emod_iff_emod_sub_eq_zero.1 e.symm
    have h3 : drawV f N + (b : Int) - (drawV f N + (a : Int)) = ((b - a : Nat) : Int) := by omega
    rw [h3, Int.emod_eq_of_lt (by omega) (by omega)] at h2
    omega
  · unfold turnV
    simp only [List.mem_map, List.mem_range]
    have h1 := Int.emod_nonneg ((i : Int) - drawV f N) (show (N : Int) ≠ 0 by omega)
    have h2 := Int.emod_lt_of_pos ((i : Int) - drawV f N) (show (0 : Int) < (N : Int) by omega)
    refine ⟨(((i : Int) - drawV f N) % (N : Int)).toNat, by omega, ?_⟩
    rw [Int.toNat_of_nonneg h1, Int.add_emod_emod, show drawV f N + ((i : Int) - drawV f N) = (i : Int) by omega, Int.emod_eq_of_lt (by omega) (by omega)]

set_option maxRecDepth 100000 in
set_option maxHeartbeats 2000000 in
theorem walk_TurnOnce (n : Int) (_wn : -9223372036854775808 ≤ n ∧ n ≤ 9223372036854775807) (f : Int) (wf : -9223372036854775808 ≤ f ∧ f ≤ 9223372036854775807) (k : Int) (_wk : -9223372036854775808 ≤ k ∧ k ≤ 9223372036854775807) (w : World) :
    Calls Try.prog 4 #[.int .i64 n, .int .i64 f, .int .i64 k] w fun e w' => e = .returned (.bool true) ∧ Below w.heap.size w w' := by
  obtain ⟨N, hN, eN⟩ := u_mod n 300 (by omega)
  obtain ⟨K, hK, eK⟩ := u_mod k (N + 1) (by omega)
  replace eN : (IntKind.u64.wrap n).tmod 300 = (N : Int) := eN
  replace eK : (IntKind.u64.wrap k).tmod ((N : Int) + 1) = (K : Int) := by simpa using eK
  go_enter Try.func4, Try.ntmps4
  go_wp2_with fail
  refine (turn_any N f _ (by omega) (by omega) (by omega) (by omega)).mono ?_
  rintro e w1 ⟨v1, rfl, hq1, hb1⟩
  have HQ1 : Hid (IsSeq Try.prog encI w.heap.size w1 v1 (turnV N f)) := hq1
  have HB1 : Hid (Below w.heap.size w w1) := hb1
  clear hq1 hb1
  have hlen : (turnV N f).length = N := by rw [turnV_length]; omega
  have HLa : Hid (((turnV N f).take K).length = K) := by show _ = _; rw [List.length_take, hlen]; omega
  have HLb : Hid ((turnV N f).length = N) := hlen
  clear hlen
  go_wp2_with fail
  refine (row_to v1 _ ((turnV N f).take K) K _ _ HQ1.out (by omega) (turnV_bd _ _ (by omega)) (by simp)).mono ?_
  rintro e w2 ⟨v2, rfl, hk2, hb2⟩
  have HK2 : Hid (IsInts w2 v2 ((turnV N f).take K)) := hk2
  have HB2 : Hid (Below w.heap.size w w2) := HB1.out.trans (hb2.mono HB1.out.size)
  have HQ2 : Hid (IsSeq Try.prog encI w.heap.size w2 v1 (turnV N f)) := HQ1.out.below hb2
  clear hk2 hb2 HQ1 HB1
  go_wp2_with fail
  refine (row_to v1 _ (turnV N f) ((N : Int) + 5) _ _ HQ2.out (by omega) (turnV_bd _ _ (by omega)) (List.take_of_length_le (by rw [HLb.out]; omega))).mono ?_
  rintro e w3 ⟨v3, rfl, hk3, hb3⟩
  have HB3 : Hid (Below w.heap.size w w3) := HB2.out.trans (hb3.mono HB2.out.size)
  have HKa : Hid (IsInts w3 v2 ((turnV N f).take K)) := HK2.out.below hb3
  have HKb : Hid (IsInts w3 v3 (turnV N f)) := hk3
  have HBd : Hid (∀ x ∈ turnV N f, -9223372036854775808 ≤ x ∧ x ≤ 9223372036854775807) := turnV_bd _ _ (by omega)
  clear hk3 hb3 HK2 HQ2 HB2
  obtain ⟨ao, ac, rfl⟩ := HKa.out.shape
  obtain ⟨bo, bc, rfl⟩ := HKb.out.shape
  have HOn : Hid (∀ i, i < N → (turnV N f).count (i : Int) = 1) := turnV_once N f
  generalize turnV N f = B at HLa HLb HKa HKb HBd HOn
  rw [HLa.out] at HKa ⊢
  rw [HLb.out] at HKb ⊢
  have hmm := @run_makeMap Try.prog
  go_wp2
  clear hmm
  obtain ⟨M, hM⟩ : ∃ M, M = w3.heap.size := ⟨_, rfl⟩
  have HM : Hid (M = w3.heap.size) := hM
  have HC0 : Hid (CountsI Try.prog 3 3 (w3.alloc (.map #[] 0)) M 0 (fun q => ((B.take 0).count q : Nat))) := by
    rw [hM]; exact countsI_made w3
  rw [← hM]
  clear hM
  go_loopw [39] (fun c wr => ∃ i : Nat, i ≤ N ∧ c = .int .i64 i ∧ CountsI Try.prog 3 3 wr M i (fun q => ((B.take i).count q : Nat)) ∧ Below w3.heap.size w3 wr) (fun c _ => N - (intOf c).toNat)
  case atStart => exact ⟨0, Nat.zero_le _, rfl, HC0.out, (Below.refl _ _).alloc (Nat.le_refl _) _⟩
  case round =>
    obtain ⟨i, hi, rfl, hc, hb⟩ := hrel
    have HC : Hid (CountsI Try.prog 3 3 wr M i (fun q => ((B.take i).count q : Nat))) := hc
    have HBr : Hid (Below w3.heap.size w3 wr) := hb
    by_cases hlt : i < N
    · have hlB : i < B.length := by rw [HLb.out]; exact hlt
      obtain ⟨b1, o1, rfl, hl1, g1⟩ := (HKb.out.below hb).at i hlB
      have hx := HBd.out (B.getD i 0) (by rw [getD_get _ _ hlB]; exact List.getElem_mem _)
      have HN : Hid (∀ q, (if q = B.getD i 0 then (((B.take i).count (B.getD i 0) : Nat) : Int) + 1 else (((B.take i).count q : Nat) : Int)) = ((B.take (i + 1)).count q : Nat)) := fun q => by
        rw [List.take_succ_eq_append_getElem hlB, List.count_append, List.count_singleton, getD_get _ _ hlB]
        by_cases e : q = B[i]
        · subst e; simp
        · have : (B[i] == q) = false := by simpa using fun h => e h.symm
          simp [e, this]
      have hcl : (B.take i).count (B.getD i 0) ≤ i := Nat.le_trans List.count_le_length (List.length_take_le _ _)
      have hnM : b1 ≠ M := by
        obtain ⟨b', o', he, hlt', _⟩ := HKb.out.at i hlB
        simp only [Option.some.injEq, Addr.mk.injEq, and_true] at he
        have := HM.out
        omega
      generalize B.getD i 0 = x at g1 hx HN hcl
      have m0 := hc.lookup intMapT (z := x) (WalkArith.wf_i64 hx)
      generalize (B.take i).count x = cx at HN hcl m0
      obtain ⟨W2, m1, hc2, hg2⟩ := hc.update intMapT (by unfold maxLen; omega) (z := x) (WalkArith.wf_i64 hx) (c := (cx : Int) + 1) (WalkArith.wf_i64 (by omega))
      have HC2 : Hid (CountsI Try.prog 3 3 W2 M (i + 1) (fun q => ((B.take (i + 1)).count q : Nat))) := hc2.congr HN.out
      have HB2 : Hid (Below w3.heap.size w3 W2) := HBr.out.grown hg2 HBr.out.size (fun q hq => by have := HM.out; cases hq; omega)
      clear hc hb hc2 hg2 HN
      go_wp2
      go_roundw
      case rel => exact ⟨i + 1, by omega, by go_num, HC2.out, HB2.out⟩
      case measure => simp [intOf]; omega
    · obtain rfl : i = N := by omega
      have HC1 : Hid (CountsI Try.prog 3 3 wr M i (fun q => (B.count q : Nat))) := by
        have h := HC.out
        rw [List.take_of_length_le (by rw [HLb.out]; omega)] at h
        exact h
      clear hc hb HC
      generalize wr = w4 at *
      go_wp2
      go_loopw [49] (fun c wr => ∃ j : Nat, j ≤ i ∧ c = .int .i64 j ∧ w4 = wr) (fun c _ => i - (intOf c).toNat)
      case atStart => exact ⟨0, Nat.zero_le _, rfl, rfl⟩
      case round =>
        obtain ⟨j, hj, rfl, hw⟩ := hrel
        subst hw
        by_cases hlt2 : j < i
        · have m0 := HC1.out.lookup intMapT (z := (j : Int)) (WalkArith.wf_i64 (by omega))
          rw [HOn.out j hlt2] at m0
          go_wp2
          go_roundw
          case rel => exact ⟨j + 1, by omega, by go_num, by first | rfl | trivial⟩
          case measure => simp [intOf]; omega
        · clear hlt
          go_wp2
          go_loopw [59] (fun c wr => ∃ q : Nat, q ≤ K ∧ c = .int .i64 q ∧ Below w4.heap.size w4 wr) (fun c _ => K - (intOf c).toNat)
          case atStart => exact ⟨0, Nat.zero_le _, rfl, Below.refl _ _⟩
          case round =>
            obtain ⟨q, hq, rfl, hb⟩ := hrel
            have HB5 : Hid (Below w3.heap.size w3 wr) := HBr.out.trans (hb.mono HBr.out.size)
            have HB6 : Hid (Below w4.heap.size w4 wr) := hb
            clear hb
            by_cases hlt3 : q < K
            · obtain ⟨b1, o1, rfl, hl1, g1⟩ := (HKa.out.below HB5.out).at q (by rw [HLa.out]; exact hlt3)
              obtain ⟨b2, o2, rfl, hl2, g2⟩ := (HKb.out.below HB5.out).at q (by rw [HLb.out]; omega)
              have e1 : (B.take K).getD q 0 = B.getD q 0 := by
                rw [List.getD_eq_getElem?_getD, List.getD_eq_getElem?_getD, List.getElem?_take, if_pos hlt3]
              rw [e1] at g1
              clear e1
              generalize B.getD q 0 = x at g1 g2
              have hd : decide (i ≤ q) = false := decide_eq_false (by omega)
              have n1 : q < i := by omega
              go_wp2
              go_quiet (fail)
              go_wp2
              go_roundw
              case rel => exact ⟨q + 1, by omega, by go_num, below_drewN HB6.out _⟩
              case measure => simp [intOf]; omega
            · go_wp2_with fail
              refine (awake_any _).mono ?_
              rintro e wz ⟨rfl, hbz⟩
              have HE : Hid (Below w.heap.size w wz) := (HB3.out.trans (HB5.out.mono HB3.out.size)).trans (hbz.mono (Nat.le_trans HB3.out.size HB5.out.size))
              clear hbz
              go_wp2
              go_ret
              exact ⟨rfl, HE.out⟩


set_option maxRecDepth 100000 in
theorem lifted_TurnOnce (os : Os) (started : os.Started) (H : Type) (enc : TypeId × Value → H) :
    ReturnsInHanded {} Try.checked os 4 .any (Rows.turnOnceSpec.pre6 enc Try.prog Try.f4 Rows.turnOnceRow.domain false) (Rows.turnOnceSpec.post enc Try.prog Try.f4 false true false false) := by
  refine returnsInHanded_of_change (C := Try.checked) own started (by kernel_rfl) Try.func4
    (ChangeSpec.witness6 (enc := enc) (C := Try.checked) false ⟨#[], #[.int .i64 0, .int .i64 0, .int .i64 0], []⟩ 8 (by kernel_rfl) (by kernel_rfl) (by kernel_rfl) (by kernel_rfl)) ?_
  intro W base args ds gs before hval0 hW hcnd _
  have hval : ∀ (j : Nat) t v, Try.f4.params[j]? = some t → args[j]? = some v → Value.okWide Try.prog W .any base t v := hval0
  have hW' := hW
  obtain ⟨p, q, hA0, hV, rfl, hfz, hnd⟩ := hW
  have hA : DataW.TrodAll enc Try.prog W 0 (fun _ => true) true Try.f4.params.toList args.toList ds p := hA0
  rw [Try.params4] at hA hval
  obtain ⟨v0, vs0, d0, ds0, p0, q0, hargs, rfl, rfl, h0, r0⟩ := trodAll_cons hA
  obtain ⟨v1, vs1, d1, ds1, p1, q1, rfl, rfl, rfl, h1, r1⟩ := trodAll_cons r0
  obtain ⟨v2, vs2, d2, ds2, p2, q2, rfl, rfl, rfl, h2, r2⟩ := trodAll_cons r1
  obtain ⟨rfl, rfl, rfl⟩ := trodAll_nil r2
  obtain rfl : args = #[v0, v1, v2] := by cases args; simp_all
  obtain ⟨rfl, rfl⟩ := trodVars_none hV
  obtain ⟨a0, rfl, rfl, rfl, w0⟩ := open_int Try.underlying3 (hval 0 3 v0 rfl rfl) h0
  obtain ⟨a1, rfl, rfl, rfl, w1⟩ := open_int Try.underlying3 (hval 1 3 v1 rfl rfl) h1
  obtain ⟨a2, rfl, rfl, rfl, w2⟩ := open_int Try.underlying3 (hval 2 3 v2 rfl rfl) h2
  clear hA0 hval0
  refine (walk_TurnOnce a0 (wf_i64 w0) a1 (wf_i64 w1) a2 (wf_i64 w2) W).mono fun e W' ⟨he, bel⟩ => ?_
  subst he
  exact ⟨_, rfl, _, _, _, [], _, [], hW', trodAll_mk1 (shut_bool Try.underlying4 _), (trodAll_cons_mk (shut_int Try.underlying3 w0) (trodAll_cons_mk (shut_int Try.underlying3 w1) (trodAll_cons_mk (shut_int Try.underlying3 w2) trodAll_mk0))), rfl, bel.frame _, fun h => by cases h⟩

theorem over_TurnOnce : Rows.turnOnceRow.holds Try.pinned (OpenSpec.ofChange Rows.turnOnceSpec) :=
  OpenClaim.holds_of_wide 4 Try.f4 rfl rfl rfl rfl rfl rfl rfl ⟨rfl, rfl, rfl, rfl, rfl⟩ rfl rfl rfl rfl rfl (by kernel_rfl) Try.func4 (by kernel_rfl)
    (of_decide_eq_true (by kernel_rfl)) (by unfold Func.isWrapper; first | (rw [if_pos (by decide +kernel)]; kernel_rfl) | (rw [if_neg (by decide +kernel)]; exact ⟨rfl, rfl⟩))
    (fun os started H enc _ => lifted_TurnOnce os started H enc)

/-- The statement. -/
theorem turnOnce_holds : Rows.TurnOnceSaid := over_TurnOnce
#print axioms turnOnce_holds

end Go.Proofs.Ytcpajkhefhnmeaa
