/-
  ClockRounds, for every two numbers: a timer that is set anew each time it goes off goes off once each interval, as often as fits. No condition.
-/
import Derived.Test.YtelpdmaphmfkiaaClockFrame
import Derived.Test.YtelpdmaphmfkiaaClockState
namespace Go.Proofs.Ytelpdmaphmfkiaa
open Go.ChangeShapes Go.WideShapes Go.ChangeAt Go.RowKit

theorem u_mod9 (f : Int) (m : Nat) (hm : 0 < m) : ∃ F : Nat, F < m ∧ (IntKind.u64.wrap f).tmod (m : Int) = (F : Int) := by
  rw [IntKind.wrap_u64, Int.tmod_eq_emod_of_nonneg (by omega)]
  have h1 := Int.emod_nonneg (f % 18446744073709551616) (show (m : Int) ≠ 0 by omega)
  have h2 := Int.emod_lt_of_pos (f % 18446744073709551616) (show (0 : Int) < m by omega)
  exact ⟨((f % 18446744073709551616) % (m : Int)).toNat, by omega, by omega⟩
theorem one_next {now : Int} {x : TimerT} {til : Int} : nextT now [x] til = if x.at_ ≤ til then (x, true, x.at_, []) else (noTimer, false, now, [x]) := by
  unfold nextT
  by_cases h : x.at_ ≤ til
  · simp [dueT, h]
  · simp [dueT, h]

set_option maxRecDepth 100000 in
set_option maxHeartbeats 4000000 in
theorem walk_ClockRounds (a : Int) (_ : -9223372036854775808 ≤ a ∧ a ≤ 9223372036854775807) (b : Int) (_ : -9223372036854775808 ≤ b ∧ b ≤ 9223372036854775807) (w : World) :
    Calls Try.prog 8 #[.int .i64 a, .int .i64 b] w fun e w' => e = .returned (.bool true) ∧ Below w.heap.size w w' := by
  obtain ⟨S0, hS0, eS⟩ := u_mod9 a 50 (by decide)
  obtain ⟨T, hT, eT⟩ := u_mod9 b 2000 (by decide)
  replace eS : (IntKind.u64.wrap a).tmod 50 = (S0 : Int) := eS
  replace eT : (IntKind.u64.wrap b).tmod 2000 = (T : Int) := eT
  obtain ⟨S, hS, eS1⟩ : ∃ S : Nat, S = S0 + 1 ∧ 1 + (S0 : Int) = (S : Int) := ⟨S0 + 1, rfl, by omega⟩
  have hS1 : 1 ≤ S := by omega
  have hS2 : S ≤ 50 := by omega
  clear hS
  go_enter Try.func8, Try.ntmps8
  go_wp2_with fail
  refine (knew 0 w).mono ?_
  rintro e w1 ⟨rfl, hk, hb⟩
  have e0 : clampT 0 = 0 := by decide
  rw [e0] at hk
  have HB1 : Hid (Below w.heap.size w w1) := hb
  have hin : ∀ n : Nat, n ≤ 3000 → inT ⟨(n : Int), 2, 1⟩ := fun n hn => inT_lit (by show _ ∧ _; omega) (by decide) (by decide)
  have HIn : Hid (∀ n : Nat, n ≤ 3000 → inT ⟨(n : Int), 2, 1⟩) := hin
  have KS := kset hk (by decide) ⟨(S : Int), 2, 1⟩ (HIn.out S (by omega))
  have e1 : setOK 0 ⟨(S : Int), 2, 1⟩ = true := by unfold setOK top62; rw [decide_eq_true (by show (0 : Int) ≤ S; omega), decide_eq_true (by show (S : Int) ≤ _; omega)]; rfl
  have e2 : setT 0 [] ⟨(S : Int), 2, 1⟩ = [⟨(S : Int), 2, 1⟩] := by unfold setT; rw [e1]; rfl
  rw [e1, e2] at KS
  clear hk hb e0 e1 e2 hin
  go_wp2_with fail
  refine KS.mono ?_
  rintro e w2 ⟨rfl, hk, hp⟩
  have HB2 : Hid (Below w.heap.size w w2) := HB1.out.trans hp.below
  have HK2 : Hid (Ck (fun _ => False) w.heap.size w.heap.size 0 [⟨(S : Int), 2, 1⟩] w2) := hk.mono fun _ h => h.elim
  clear hk hp HB1 KS
  go_wp2
  go_loopw [6] (fun n wr => ∃ k N P : Nat, n = .int .i64 k ∧ k * S = N ∧ (k + 1) * S = P ∧ N ≤ T ∧ Ck (fun _ => False) w.heap.size w.heap.size N [⟨(P : Int), 2, 1⟩] wr ∧ Below w.heap.size w wr) (fun n _ => 3000 - (intOf n).toNat)
  case atStart => exact ⟨0, 0, S, rfl, by simp, by simp, Nat.zero_le _, HK2.out, HB2.out⟩
  case round =>
    obtain ⟨k, N, P, rfl, hN, hP, hNT, hk, hb⟩ := hrel
    have hkT : k + 1 ≤ P := by rw [← hP]; exact Nat.le_mul_of_pos_right _ (by omega)
    have hPN : P = N + S := by rw [← hP, ← hN, Nat.succ_mul]
    have hNk : k ≤ N := by rw [← hN]; exact Nat.le_mul_of_pos_right _ (by omega)
    have HB : Hid (Below w.heap.size w wr) := hb
    have KN := knext hk (by simp) T
    rw [one_next] at KN
    by_cases hd : P ≤ T
    · have hd' : (P : Int) ≤ (T : Int) := by omega
      rw [if_pos (show (TimerT.mk (P : Int) 2 1).at_ ≤ (T : Int) from hd')] at KN
      have HM : Hid ((k + 1 + 1) * S = P + S) := by show _ = _; rw [Nat.succ_mul, hP]
      have hmul : ((k : Int) + 1) * (S : Int) = (P : Int) := by rw [← hP]; simp
      have HP : Hid ((k + 1) * S = P) := hP
      have hk2 : ¬ (2000 : Int) < (k : Int) + 1 := by omega
      clear hb hk hN hP hd' hPN
      go_wp2_with fail
      refine KN.mono ?_
      rintro e w3 ⟨rfl, hk, hp⟩
      have hk3 := hk.below ((Below.refl _ w3).alloc (Nat.le_refl _) (.cells (tcells ⟨(P : Int), 2, 1⟩) 29))
      have HB3 : Hid (Below w.heap.size w (w3.alloc (.cells (tcells ⟨(P : Int), 2, 1⟩) 29))) := (HB.out.trans hp.below).alloc (by have := HB.out.size; have := hp.below.size; omega) _
      have KS := kset hk3 (by decide) ⟨((P + S : Nat) : Int), 2, 1⟩ (HIn.out _ (by omega))
      have e1 : setOK (P : Int) ⟨((P + S : Nat) : Int), 2, 1⟩ = true := by unfold setOK top62; rw [decide_eq_true (by show (P : Int) ≤ ((P + S : Nat) : Int); omega), decide_eq_true (by show ((P + S : Nat) : Int) ≤ _; omega)]; rfl
      have e2 : setT (P : Int) [] ⟨((P + S : Nat) : Int), 2, 1⟩ = [⟨((P + S : Nat) : Int), 2, 1⟩] := by unfold setT; rw [e1]; rfl
      rw [e1, e2] at KS
      have hadd : ((P + S : Nat) : Int) = (P : Int) + (S : Int) := by omega
      rw [hadd] at KS
      have hb63 : (P : Int) + (S : Int) ≤ 3000 := by omega
      clear hk hp e1 e2 hk3 hadd KN
      go_wp2_with fail
      refine KS.mono ?_
      rintro e w4 ⟨rfl, hk, hp⟩
      have HB4 : Hid (Below w.heap.size w w4) := HB3.out.trans hp.below
      have HK4 : Hid (Ck (fun _ => False) w.heap.size w.heap.size (P : Int) [⟨((P + S : Nat) : Int), 2, 1⟩] w4) := by
        have hadd : ((P + S : Nat) : Int) = (P : Int) + (S : Int) := by omega
        show Ck _ _ _ _ _ _
        rw [hadd]; exact hk
      clear hk hp KS
      go_wp2
      go_roundw
      case rel => exact ⟨k + 1, P, P + S, by go_num, HP.out, HM.out, hd, HK4.out, HB4.out⟩
      case measure => simp [intOf]; omega
    · have hd' : ¬ (P : Int) ≤ (T : Int) := by omega
      rw [if_neg (show ¬ (TimerT.mk (P : Int) 2 1).at_ ≤ (T : Int) from hd')] at KN
      have hq : (T : Int) / (S : Int) = (k : Int) := by
        rw [Int.ediv_eq_iff_of_pos (by omega)]
        have e : (k : Int) * (S : Int) = (N : Int) := by rw [← hN]; simp
        omega
      clear hb hk hN hP hd'
      go_wp2_with fail
      refine KN.mono ?_
      rintro e w3 ⟨rfl, hk, hp⟩
      have hk3 := hk.below ((Below.refl _ w3).alloc (Nat.le_refl _) (.cells (tcells noTimer) 29))
      have HB3 : Hid (Below w.heap.size w (w3.alloc (.cells (tcells noTimer) 29))) := (HB.out.trans hp.below).alloc (by have := HB.out.size; have := hp.below.size; omega) _
      have KG := kgo hk3 (by simp) (T : Int)
      have e1 : goOK (N : Int) [⟨(P : Int), 2, 1⟩] (T : Int) = true := by
        unfold goOK top62
        rw [decide_eq_true (by omega), decide_eq_true (by omega)]
        simp [dueT]
        omega
      rw [e1, if_pos rfl] at KG
      have hS0 : ¬ (S : Int) = 0 := by omega
      clear hk hp hk3 e1 KN
      go_wp2_with fail
      refine KG.mono ?_
      rintro e w4 ⟨rfl, hk, hp⟩
      have HB4 : Hid (Below w.heap.size w w4) := HB3.out.trans hp.below
      have KW := know hk
      have KA := awake9_any w4
      clear hk hp KG
      go_wp2_with (first | (go_at_call 22; refine KW.mono ?_; rintro e w5 ⟨rfl, rfl⟩) | fail)
      refine KA.mono ?_
      rintro e w5 ⟨rfl, hb⟩
      have HB5 : Hid (Below w.heap.size w w5) := HB4.out.trans (hb.mono HB4.out.size)
      clear hb KA KW
      go_wp2
      go_ret
      exact ⟨rfl, HB5.out⟩


set_option maxRecDepth 100000 in
theorem lifted_ClockRounds (os : Os) (started : os.Started) (H : Type) (enc : TypeId × Value → H) :
    ReturnsInHanded {} Try.checked os 8 .any (Rows.clockRoundsSpec.pre6 enc Try.prog Try.f8 Rows.clockRoundsRow.domain false) (Rows.clockRoundsSpec.post enc Try.prog Try.f8 false true false false) := by
  refine returnsInHanded_of_change (C := Try.checked) own started (by kernel_rfl) Try.func8
    (ChangeSpec.witness6 (enc := enc) (C := Try.checked) false ⟨#[], #[.int .i64 0, .int .i64 0], []⟩ 8 (by kernel_rfl) (by kernel_rfl) (by kernel_rfl) (by kernel_rfl)) ?_
  intro W base args ds gs before hval0 hW hcnd _
  have hval : ∀ (j : Nat) t v, Try.f8.params[j]? = some t → args[j]? = some v → Value.okWide Try.prog W .any base t v := hval0
  have hW' := hW
  obtain ⟨p, q, hA0, hV, rfl, hfz, hnd⟩ := hW
  have hA : DataW.TrodAll enc Try.prog W 0 (fun _ => true) true Try.f8.params.toList args.toList ds p := hA0
  rw [Try.params8] at hA hval
  obtain ⟨v0, vs0, d0, ds0, p0, q0, hargs, rfl, rfl, h0, r0⟩ := trodAll_cons hA
  obtain ⟨v1, vs1, d1, ds1, p1, q1, rfl, rfl, rfl, h1, r1⟩ := trodAll_cons r0
  obtain ⟨rfl, rfl, rfl⟩ := trodAll_nil r1
  obtain rfl : args = #[v0, v1] := by cases args; simp_all
  obtain ⟨rfl, rfl⟩ := trodVars_none hV
  obtain ⟨a0, rfl, rfl, rfl, w0⟩ := open_int Try.underlying3 (hval 0 3 v0 rfl rfl) h0
  obtain ⟨a1, rfl, rfl, rfl, w1⟩ := open_int Try.underlying3 (hval 1 3 v1 rfl rfl) h1
  clear hA0 hval0
  refine (walk_ClockRounds a0 (wf_i64 w0) a1 (wf_i64 w1) W).mono fun e W' ⟨he, bel⟩ => ?_
  subst he
  exact ⟨_, rfl, _, _, _, [], _, [], hW', trodAll_mk1 (shut_bool Try.underlying4 _), (trodAll_cons_mk (shut_int Try.underlying3 w0) (trodAll_cons_mk (shut_int Try.underlying3 w1) trodAll_mk0)), rfl, bel.frame _, fun h => by cases h⟩

theorem over_ClockRounds : Rows.clockRoundsRow.holds Try.pinned (OpenSpec.ofChange Rows.clockRoundsSpec) :=
  OpenClaim.holds_of_wide 8 Try.f8 rfl rfl rfl rfl rfl rfl rfl ⟨rfl, rfl, rfl, rfl, rfl⟩ rfl rfl rfl rfl rfl (by kernel_rfl) Try.func8 (by kernel_rfl)
    (of_decide_eq_true (by kernel_rfl)) (by unfold Func.isWrapper; first | (rw [if_pos (by decide +kernel)]; kernel_rfl) | (rw [if_neg (by decide +kernel)]; exact ⟨rfl, rfl⟩))
    (fun os started H enc _ => lifted_ClockRounds os started H enc)

/-- The statement. -/
theorem clockRounds_holds : Rows.ClockRoundsSaid := over_ClockRounds
#print axioms clockRounds_holds

end Go.Proofs.Ytelpdmaphmfkiaa
