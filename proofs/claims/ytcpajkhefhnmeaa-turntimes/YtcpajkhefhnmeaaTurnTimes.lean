/-
  Proved: triagelaw4.TurnTimes returns true for every three ints and changes nothing that was there. No condition.
-/
import Derived.Test.YtcpajkhefhnmeaaTurnFrame
namespace Go.Proofs.Ytcpajkhefhnmeaa
open Go.ChangeShapes Go.WideShapes Go.ChangeAt Go.RowKit

def rowT (F S n : Nat) : List Int := (List.range (n + 1)).map fun i : Nat => (F : Int) + (i : Int) * (S : Int)
theorem rowT_length (F S n : Nat) : (rowT F S n).length = n + 1 := by unfold rowT; simp
theorem rowT_at (F S n i : Nat) (h : i < n + 1) : (rowT F S n).getD i 0 = (F : Int) + (i : Int) * (S : Int) := by
  unfold rowT; simp [h]

theorem timesN_of (F S n : Nat) (to : Int) (hS : 1 ≤ S) (h1 : (F : Int) + (n : Int) * (S : Int) ≤ to) (h2 : to < (F : Int) + (n : Int) * (S : Int) + (S : Int)) (h3 : to ≤ 4611686018427387904) : timesN F S to = n + 1 := by
  unfold timesN
  have h0 : 0 ≤ (n : Int) * (S : Int) := Int.mul_nonneg (by omega) (by omega)
  rw [if_neg (by omega)]
  have h4 : (to - (F : Int)) / (S : Int) = (n : Int) := by
    rw [Int.ediv_eq_iff_of_pos (by omega)]
    omega
  rw [h4]
  omega
theorem timesV_of (F S n : Nat) (to : Int) (hS : 1 ≤ S) (h1 : (F : Int) + (n : Int) * (S : Int) ≤ to) (h2 : to < (F : Int) + (n : Int) * (S : Int) + (S : Int)) (h3 : to ≤ 4611686018427387904) : timesV F S to = rowT F S n := by
  unfold timesV rowT
  rw [timesN_of F S n to hS h1 h2 h3]

theorem times_none1 (F S : Int) : timesV F S (F - 1) = [] := by unfold timesV timesN; rw [if_pos (by omega)]; rfl
theorem times_none2 (F : Int) : timesV F 0 F = [] := by unfold timesV timesN; rw [if_pos (by omega)]; rfl

set_option maxRecDepth 100000 in
set_option maxHeartbeats 2000000 in
theorem walk_TurnTimes (f : Int) (_wf : -9223372036854775808 ≤ f ∧ f ≤ 9223372036854775807) (st : Int) (_ws : -9223372036854775808 ≤ st ∧ st ≤ 9223372036854775807) (n : Int) (_wn : -9223372036854775808 ≤ n ∧ n ≤ 9223372036854775807) (w : World) :
    Calls Try.prog 6 #[.int .i64 f, .int .i64 st, .int .i64 n] w fun e w' => e = .returned (.bool true) ∧ Below w.heap.size w w' := by
  obtain ⟨F, hF, eF⟩ := u_mod f 100000 (by omega)
  obtain ⟨S0, hS0, eS⟩ := u_mod st 1000 (by omega)
  obtain ⟨N, hN, eN⟩ := u_mod n 100 (by omega)
  replace eF : (IntKind.u64.wrap f).tmod 100000 = (F : Int) := eF
  replace eS : (IntKind.u64.wrap st).tmod 1000 = (S0 : Int) := eS
  replace eN : (IntKind.u64.wrap n).tmod 100 = (N : Int) := eN
  obtain ⟨S, hS, eS1⟩ : ∃ S : Nat, S = S0 + 1 ∧ 1 + (S0 : Int) = (S : Int) := ⟨S0 + 1, rfl, by omega⟩
  have hS1 : 1 ≤ S := by omega
  have hS2 : S ≤ 1000 := by omega
  clear hS
  obtain ⟨M, hM, eM⟩ : ∃ M : Nat, M ≤ 99000 ∧ (N : Int) * (S : Int) = (M : Int) := by
    refine ⟨N * S, ?_, by simp⟩
    have := Nat.mul_le_mul (show N ≤ 99 by omega) hS2
    omega
  have HM : Hid ((N : Int) * (S : Int) = (M : Int)) := eM
  go_enter Try.func6, Try.ntmps6
  go_wp2_with fail
  refine (times_any F S ((F : Int) + (M : Int)) _ (by omega) (by omega) (by omega) (by omega) (by omega) (by omega)).mono ?_
  rintro e w1 ⟨v1, rfl, hq1, hb1⟩
  have HQ1 : Hid (IsSeq Try.prog encI w.heap.size w1 v1 (timesV F S ((F : Int) + (M : Int)))) := hq1
  have HB1 : Hid (Below w.heap.size w w1) := hb1
  clear hq1 hb1
  go_wp2_with fail
  refine (row_to v1 _ (rowT F S N) 200 _ _ HQ1.out (by omega) (timesV_bd _ _ _) (by rw [timesV_of F S N _ hS1 (by have := HM.out; omega) (by have := HM.out; omega) (by omega), List.take_of_length_le (by rw [rowT_length]; show N + 1 ≤ 200; omega)])).mono ?_
  rintro e w2 ⟨v2, rfl, hk2, hb2⟩
  have HK2 : Hid (IsInts w2 v2 (rowT F S N)) := hk2
  have HB2 : Hid (Below w.heap.size w w2) := HB1.out.trans (hb2.mono HB1.out.size)
  clear hk2 hb2 HQ1 HB1
  go_wp2_with fail
  refine (times_any F S ((F : Int) + (M : Int) + (S : Int) - 1) _ (by omega) (by omega) (by omega) (by omega) (by omega) (by omega)).mono ?_
  rintro e w3 ⟨v3, rfl, hq3, hb3⟩
  have HQ3 : Hid (IsSeq Try.prog encI w2.heap.size w3 v3 (timesV F S ((F : Int) + (M : Int) + (S : Int) - 1))) := hq3
  have HB3 : Hid (Below w.heap.size w w3) := HB2.out.trans (hb3.mono HB2.out.size)
  have HK3 : Hid (IsInts w3 v2 (rowT F S N)) := HK2.out.below hb3
  clear hq3 hb3 HB2 HK2
  go_wp2_with fail
  refine (row_to v3 _ (rowT F S N) 200 _ _ HQ3.out (by omega) (timesV_bd _ _ _) (by rw [timesV_of F S N _ hS1 (by have := HM.out; omega) (by have := HM.out; omega) (by omega), List.take_of_length_le (by rw [rowT_length]; show N + 1 ≤ 200; omega)])).mono ?_
  rintro e w4 ⟨v4, rfl, hk4, hb4⟩
  have HB4 : Hid (Below w.heap.size w w4) := HB3.out.trans (hb4.mono HB3.out.size)
  have HKa : Hid (IsInts w4 v2 (rowT F S N)) := HK3.out.below hb4
  have HKb : Hid (IsInts w4 v4 (rowT F S N)) := hk4
  clear hk4 hb4 HK3 HB3 HQ3
  obtain ⟨ao, ac, rfl⟩ := HKa.out.shape
  obtain ⟨bo, bc, rfl⟩ := HKb.out.shape
  rw [rowT_length] at HKa HKb ⊢
  go_wp2
  go_loopw [58] (fun c wr => ∃ i : Nat, i ≤ N + 1 ∧ c = .int .i64 i ∧ Below w4.heap.size w4 wr) (fun c _ => N + 1 - (intOf c).toNat)
  case atStart => exact ⟨0, Nat.zero_le _, rfl, Below.refl _ _⟩
  case round =>
    obtain ⟨i, hi, rfl, hb⟩ := hrel
    have HBr : Hid (Below w4.heap.size w4 wr) := hb
    by_cases hlt : i < N + 1
    · obtain ⟨b1, o1, rfl, hl1, g1⟩ := (HKa.out.below hb).at i (by rw [rowT_length]; exact hlt)
      obtain ⟨b2, o2, rfl, hl2, g2⟩ := (HKb.out.below hb).at i (by rw [rowT_length]; exact hlt)
      rw [rowT_at F S N i hlt] at g1 g2
      obtain ⟨Q, hQ, eQ⟩ : ∃ Q : Nat, Q ≤ 99000 ∧ (i : Int) * (S : Int) = (Q : Int) := by
        refine ⟨i * S, ?_, by simp⟩
        have := Nat.mul_le_mul (show i ≤ 99 by omega) hS2
        omega
      rw [eQ] at g1 g2
      have q1 : (((F : Int) + (Q : Int)) != ((F : Int) + (Q : Int))) = false := by simp
      have n1 : (i : Int) < (N : Int) + 1 := by omega
      clear hb
      go_wp2
      go_quiet (fail)
      go_wp2
      go_roundw
      case rel => exact ⟨i + 1, by omega, by go_num, below_drewN HBr.out _⟩
      case measure => simp [intOf]; omega
    · have HB5 : Hid (Below w.heap.size w wr) := HB4.out.trans (hb.mono HB4.out.size)
      clear hb HBr HB4
      go_wp2_with fail
      refine (times_any F S ((F : Int) - 1) _ (by omega) (by omega) (by omega) (by omega) (by omega) (by omega)).mono ?_
      rintro e w5 ⟨v5, rfl, hq5, hb5⟩
      have HQ5 : Hid (IsSeq Try.prog encI wr.heap.size w5 v5 (timesV F S ((F : Int) - 1))) := hq5
      have HB6 : Hid (Below w.heap.size w w5) := HB5.out.trans (hb5.mono HB5.out.size)
      clear hq5 hb5
      go_wp2_with fail
      refine (row_to v5 _ [] 9 _ _ HQ5.out (by omega) (timesV_bd _ _ _) (by rw [times_none1 F S]; rfl)).mono ?_
      rintro e w6 ⟨v6, rfl, hk6, hb6⟩
      obtain ⟨co, cc, rfl⟩ := hk6.shape
      have HB7 : Hid (Below w.heap.size w w6) := HB6.out.trans (hb6.mono HB6.out.size)
      clear hk6 hb6 HQ5
      go_wp2_with fail
      refine (times_any F 0 F _ (by omega) (by omega) (by omega) (by omega) (by omega) (by omega)).mono ?_
      rintro e w7 ⟨v7, rfl, hq7, hb7⟩
      have HQ7 : Hid (IsSeq Try.prog encI w6.heap.size w7 v7 (timesV F 0 F)) := hq7
      have HB8 : Hid (Below w.heap.size w w7) := HB7.out.trans (hb7.mono HB7.out.size)
      clear hq7 hb7
      go_wp2_with fail
      refine (row_to v7 _ [] 9 _ _ HQ7.out (by omega) (timesV_bd _ _ _) (by rw [times_none2 F]; rfl)).mono ?_
      rintro e w8 ⟨v8, rfl, hk8, hb8⟩
      obtain ⟨dd, dc, rfl⟩ := hk8.shape
      have HB9 : Hid (Below w.heap.size w w8) := HB8.out.trans (hb8.mono HB8.out.size)
      clear hk8 hb8 HQ7
      go_wp2_with fail
      refine (awake_any _).mono ?_
      rintro e w9 ⟨rfl, hb9⟩
      have HB10 : Hid (Below w.heap.size w w9) := HB9.out.trans (hb9.mono HB9.out.size)
      clear hb9
      go_wp2
      go_ret
      exact ⟨rfl, HB10.out⟩


set_option maxRecDepth 100000 in
theorem lifted_TurnTimes (os : Os) (started : os.Started) (H : Type) (enc : TypeId × Value → H) :
    ReturnsInHanded {} Try.checked os 6 .any (Rows.turnTimesSpec.pre6 enc Try.prog Try.f6 Rows.turnTimesRow.domain false) (Rows.turnTimesSpec.post enc Try.prog Try.f6 false true false false) := by
  refine returnsInHanded_of_change (C := Try.checked) own started (by kernel_rfl) Try.func6
    (ChangeSpec.witness6 (enc := enc) (C := Try.checked) false ⟨#[], #[.int .i64 0, .int .i64 0, .int .i64 0], []⟩ 8 (by kernel_rfl) (by kernel_rfl) (by kernel_rfl) (by kernel_rfl)) ?_
  intro W base args ds gs before hval0 hW hcnd _
  have hval : ∀ (j : Nat) t v, Try.f6.params[j]? = some t → args[j]? = some v → Value.okWide Try.prog W .any base t v := hval0
  have hW' := hW
  obtain ⟨p, q, hA0, hV, rfl, hfz, hnd⟩ := hW
  have hA : DataW.TrodAll enc Try.prog W 0 (fun _ => true) true Try.f6.params.toList args.toList ds p := hA0
  rw [Try.params6] at hA hval
  obtain ⟨v0, vs0, d0, ds0, p0, q0, hargs, rfl, rfl, h0, r0⟩ := trodAll_cons hA
  obtain ⟨v1, vs1, d1, ds1, p1, q1, rfl, rfl, rfl, h1, r1⟩ := trodAll_cons r0
  obtain ⟨v2, vs2, d2, ds2, p2, q2, rfl, rfl, rfl, h2, r2⟩ := trodAll_cons r1
  obtain ⟨rfl, rfl, rfl⟩ := trodAll_nil r2
  obtain rfl : args = #[v0, v1, v2] := by cases args; simp_all
  obtain ⟨rfl, rfl⟩ := trodVars_none hV
  obtain ⟨a0, rfl, rfl, rfl, w0⟩ := open_int Try.underlying3 (hval 0 3 v0 rfl rfl) h0
  obtain ⟨a1, rfl, rfl, rfl, w1⟩ := open_int Try.underlying3 (hval 1 3 v1 rfl rfl) h1
  obtain ⟨a2, rfl, rfl, rfl, w2⟩ := open_int Try.underlying3 (hval 2 3 v2 rfl rfl) h2
  clear hA0 hval0
  refine (walk_TurnTimes a0 (wf_i64 w0) a1 (wf_i64 w1) a2 (wf_i64 w2) W).mono fun e W' ⟨he, bel⟩ => ?_
  subst he
  exact ⟨_, rfl, _, _, _, [], _, [], hW', trodAll_mk1 (shut_bool Try.underlying4 _), (trodAll_cons_mk (shut_int Try.underlying3 w0) (trodAll_cons_mk (shut_int Try.underlying3 w1) (trodAll_cons_mk (shut_int Try.underlying3 w2) trodAll_mk0))), rfl, bel.frame _, fun h => by cases h⟩

theorem over_TurnTimes : Rows.turnTimesRow.holds Try.pinned (OpenSpec.ofChange Rows.turnTimesSpec) :=
  OpenClaim.holds_of_wide 6 Try.f6 rfl rfl rfl rfl rfl rfl rfl ⟨rfl, rfl, rfl, rfl, rfl⟩ rfl rfl rfl rfl rfl (by kernel_rfl) Try.func6 (by kernel_rfl)
    (of_decide_eq_true (by kernel_rfl)) (by unfold Func.isWrapper; first | (rw [if_pos (by decide +kernel)]; kernel_rfl) | (rw [if_neg (by decide +kernel)]; exact ⟨rfl, rfl⟩))
    (fun os started H enc _ => lifted_TurnTimes os started H enc)

/-- The statement. -/
theorem turnTimes_holds : Rows.TurnTimesSaid := over_TurnTimes
#print axioms turnTimes_holds

end Go.Proofs.Ytcpajkhefhnmeaa
