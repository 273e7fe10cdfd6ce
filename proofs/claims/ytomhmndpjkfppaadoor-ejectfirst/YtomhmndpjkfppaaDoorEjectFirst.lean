/-
  EjectFirst, for every row of timers and number: fewer than all of the first are the first of all. No condition on the call.
-/
import Derived.Test.YtomhmndpjkfppaaDoorEjectAwake
import Derived.Test.YtomhmndpjkfppaaDoorTimerOpen
import Derived.Test.YtomhmndpjkfppaaDoorFillRow
import Derived.Test.YtomhmndpjkfppaaDoorUMod
namespace Go.Proofs.YtomhmndpjkfppaaDoor
open Go.ChangeShapes Go.WideShapes Go.ChangeAt Go.RowKit
open Go.ChangeMaps (open_string shut_string)

set_option maxRecDepth 100000 in
set_option maxHeartbeats 8000000 in
theorem walk_EjectFirst (l : List TimerT) (v : Value) (k : Int) (_ : -9223372036854775808 ≤ k ∧ k ≤ 9223372036854775807) (w : World) (htab : TabC w) (hv : IsTimers w v l) :
    Calls Tryd.prog 5 #[v, .int .i64 k] w fun e w' => e = .returned (.bool true) ∧ Below w.heap.size w w' := by
  obtain ⟨ao, cap, rfl⟩ := hv.shaped
  have HT : Hid (TabC w) := htab
  have HV : Hid (IsTimers w (.slice ao l.length cap) l) := hv
  have hmax := hv.row.2.1.1
  unfold maxLen at hmax
  clear htab hv
  by_cases h1 : 100 < l.length
  · have h1' : (100 : Int) < (l.length : Int) := by omega
    clear h1 HV
    go_enter Tryd.func5, Tryd.ntmps5
    go_wp2_with fail
    refine (awake14_any _ HT.out).mono ?_
    rintro e w2 ⟨rfl, hb⟩
    have HB2 : Hid (Below w.heap.size w w2) := hb
    clear hb
    go_wp2
    go_ret
    exact ⟨rfl, HB2.out⟩
  have h1' : ¬ (100 : Int) < (l.length : Int) := by omega
  obtain ⟨K, hK1, hK2⟩ := u_modl k (l.length + 2) (by omega)
  have hK2 : (IntKind.u64.wrap k).tmod ((l.length : Int) + 2) = (K : Int) := by rw [← hK2]; congr 1
  have hw1 : IntKind.i64.wrap ((l.length : Int) + 2) = (l.length : Int) + 2 := wrap_in (by omega) (by omega)
  have hw2 : IntKind.u64.wrap ((l.length : Int) + 2) = (l.length : Int) + 2 := by rw [IntKind.wrap_u64]; omega
  have hw3 : IntKind.i64.wrap (K : Int) = (K : Int) := wrap_in (by omega) (by omega)
  have hw4 : IntKind.i64.wrap (-(K : Int)) = -(K : Int) := wrap_in (by omega) (by omega)
  have HLen : Hid (l.length ≤ 100) := by show _ ≤ _; omega
  have HF : Hid (∀ (j : Int), -9223372036854775808 ≤ j ∧ j ≤ 9223372036854775807 → ∀ W : World, Below w.heap.size w W → Calls Tryd.prog 14 #[.slice ao l.length cap, .int .i64 j] W fun e w' => ∃ v', e = .returned v' ∧ IsInts w' v' (firstE l j) ∧ Below W.heap.size W w') := fun j hj W h => eFirst_any l j _ W (HV.out.below h) (by have := HLen.out; omega) hj
  have HF1 : Hid _ := HF.out (K : Int) (by omega)
  have HF2 : Hid _ := HF.out (l.length : Int) (by omega)
  have HF3 : Hid _ := HF.out 0 (by omega)
  have HF4 : Hid _ := HF.out (-(K : Int)) (by omega)
  have HL1 : Hid ((firstE l (K : Int)).length = min K l.length) := by have := firstE_length l K; rwa [Int.toNat_natCast] at this
  have HL2 : Hid ((firstE l (l.length : Int)).length = l.length) := by have := firstE_length l l.length; rwa [Int.toNat_natCast, Nat.min_self] at this
  have HE3 : Hid (firstE l 0 = []) := List.eq_nil_of_length_eq_zero (by rw [firstE_length]; simp)
  have HE4 : Hid (firstE l (-(K : Int)) = []) := List.eq_nil_of_length_eq_zero (by
    rw [firstE_length, show (-(K : Int)).toNat = 0 by omega]; simp)
  have HAt : Hid (∀ i, i < (firstE l (K : Int)).length → (firstE l (K : Int)).getD i 0 = (firstE l (l.length : Int)).getD i 0) := fun i hi => firstE_at l K i (by rw [HL1.out] at hi; omega)
  clear h1 hmax HF
  generalize firstE l (K : Int) = a at *
  generalize firstE l (l.length : Int) = b at *
  generalize firstE l 0 = c3 at *
  generalize firstE l (-(K : Int)) = c4 at *
  go_enter Tryd.func5, Tryd.ntmps5
  go_wp2_with fail
  refine (HF1.out _ (Below.refl _ _)).mono ?_
  rintro e w1 ⟨v1, rfl, ha1, hb1⟩
  have HB1 : Hid (Below w.heap.size w w1) := hb1
  have HA1 : Hid (IsInts w1 v1 a) := ha1
  clear ha1 hb1 HF1
  go_wp2_with fail
  refine (HF2.out _ HB1.out).mono ?_
  rintro e w2 ⟨v2, rfl, hb2, hbb⟩
  have HB2 : Hid (Below w.heap.size w w2) := HB1.out.trans (hbb.mono HB1.out.size)
  have HA2 : Hid (IsInts w2 v1 a) := HA1.out.below hbb
  have HX2 : Hid (IsInts w2 v2 b) := hb2
  clear hb2 hbb HB1 HA1 HF2
  obtain ⟨a0, ac, rfl⟩ := HA2.out.shape
  obtain ⟨b0, bc, rfl⟩ := HX2.out.shape
  rw [HL2.out] at HX2
  rw [HL2.out]
  have hmin : (if l.length < K then (l.length : Int) else (K : Int)) = (a.length : Int) := by rw [HL1.out]; split <;> omega
  have hne : ((a.length : Int) != (a.length : Int)) = false := by simp
  go_wp2_with fail
  refine (HF3.out _ HB2.out).mono ?_
  rintro e w3 ⟨v3, rfl, h3, hb⟩
  rw [HE3.out] at h3
  obtain ⟨o3, q3, rfl⟩ := h3.shape
  have HB3 : Hid (Below w.heap.size w w3) := HB2.out.trans (hb.mono HB2.out.size)
  have HA3 : Hid (IsInts w3 (.slice a0 a.length ac) a) := HA2.out.below hb
  have HX3 : Hid (IsInts w3 (.slice b0 l.length bc) b) := HX2.out.below hb
  clear hb h3 HB2 HA2 HX2 HF3
  go_wp2_with fail
  refine (HF4.out _ HB3.out).mono ?_
  rintro e w4 ⟨v4, rfl, h4, hb⟩
  rw [HE4.out] at h4
  obtain ⟨o4, q4, rfl⟩ := h4.shape
  have HB4 : Hid (Below w.heap.size w w4) := HB3.out.trans (hb.mono HB3.out.size)
  have HA4 : Hid (IsInts w4 (.slice a0 a.length ac) a) := HA3.out.below hb
  have HX4 : Hid (IsInts w4 (.slice b0 l.length bc) b) := HX3.out.below hb
  clear hb h4 HB3 HA3 HX3 HF4
  have HAl : Hid (a.length ≤ l.length) := by show _ ≤ _; rw [HL1.out]; omega
  have hal := HAl.out
  have hlen := HLen.out
  go_wp2
  clear hmin hne hK2 hw1 hw2 hw3 hw4 h1' hal
  go_loopw [57] (fun i wr => ∃ j : Nat, j ≤ a.length ∧ i = .int .i64 j ∧ Below w4.heap.size w4 wr) (fun i _ => a.length - (intOf i).toNat)
  case atStart => exact ⟨0, Nat.zero_le _, rfl, Below.refl _ _⟩
  case round =>
    obtain ⟨j, hj, rfl, hb⟩ := hrel
    have HB : Hid (Below w4.heap.size w4 wr) := hb
    clear hb
    have hal := HAl.out
    by_cases hlt : j < a.length
    · obtain ⟨b1, o1, rfl, hb1, g1⟩ := (HA4.out.below HB.out).hit j hlt
      obtain ⟨b2, o2, rfl, hb2, g2⟩ := (HX4.out.below HB.out).hit j (by rw [HL2.out]; omega)
      rw [← HAt.out j hlt] at g2
      generalize a.getD j 0 = x at *
      have n1 : (j : Int) < (a.length : Int) := by omega
      have n2 : (j : Int) < (l.length : Int) := by omega
      have n3 : (0 : Int) ≤ (j : Int) := by omega
      have hx : (x != x) = false := by simp
      go_wp2
      go_quiet (fail)
      go_wp2
      go_roundw
      case rel => exact ⟨j + 1, by omega, by go_num, below_drewN HB.out _⟩
      case measure => simp [intOf]; omega
    · have HBw : Hid (Below w.heap.size w wr) := HB4.out.trans (HB.out.mono HB4.out.size)
      go_wp2_with fail
      refine (awake14_any _ (HT.out.below HBw.out)).mono ?_
      rintro e w7 ⟨rfl, hb⟩
      have HB7 : Hid (Below w.heap.size w w7) := HBw.out.trans (hb.mono HBw.out.size)
      clear hb
      go_wp2
      go_ret
      exact ⟨rfl, HB7.out⟩

theorem reads_EjectFirst (os : Os) {H : Type} (enc : TypeId × Value → H) : ∃ places, DataW.whole enc Tryd.prog ((laidWorld os).forCall (fun _ _ => 0) ⟨#[], #[.slice none 0 0, .int .i64 0], []⟩).memory Tryd.f5.params.toList Rows.ejectFirstSpec.vars false (#[.slice none 0 0, .int .i64 0] : Array Value).toList 8 = some ([.nil, .lit (.int .i64 0)], [], places) :=
  ⟨[], by kernel_rfl⟩

set_option maxRecDepth 100000 in
theorem lifted_EjectFirst (os : Os) (started : os.Started) (H : Type) (enc : TypeId × Value → H) (F : Stop.Interp) :
    ReturnsInHanded {} Tryd.checked os 5 .any ((OpenSpec.ofChange Rows.ejectFirstSpec).preRow enc Tryd.prog Tryd.f5 Rows.ejectFirstRow.domain false Rows.ejectFirstRow.laid) (((OpenSpec.ofChange Rows.ejectFirstSpec).at F).post enc Tryd.prog Tryd.f5 false true false false) := by
  obtain ⟨places, hx⟩ := reads_EjectFirst os enc
  refine returnsInHanded_of_row (C := Tryd.checked) (s := OpenSpec.ofChange Rows.ejectFirstSpec) own started (by kernel_rfl) Tryd.func5
    (witness_row_at (enc := enc) (C := Tryd.checked) false (laidWorld os) #[.slice none 0 0, .int .i64 0] rfl (by kernel_rfl) (by kernel_rfl) (by kernel_rfl)
      (OpenSpec.preRow_of_cond 8 hx (by kernel_rfl) (fun k hk => by cases hk) (by kernel_rfl) (laid_met os _))) ?_
  intro W base args ds gs before hval0 hW _ _ hsz0 hL _ _
  have htab := table hL
  have hval : ∀ (j : Nat) t v, Tryd.f5.params[j]? = some t → args[j]? = some v → Value.okWide Tryd.prog W .any base t v := hval0
  have hW' := hW
  obtain ⟨p, q, hA0, hV, rfl, hfz, hnd⟩ := hW
  have hA : DataW.TrodAll enc Tryd.prog W 0 (fun _ => true) true Tryd.f5.params.toList args.toList ds p := hA0
  rw [Tryd.params5] at hA hval
  obtain ⟨v0, vs0, d0, ds0, p0, q0, hargs, rfl, rfl, h0, r0⟩ := trodAll_cons hA
  obtain ⟨v1, vs1, d1, ds1, p1, q1, rfl, rfl, rfl, h1, r1⟩ := trodAll_cons r0
  obtain ⟨rfl, rfl, rfl⟩ := trodAll_nil r1
  obtain rfl : args = #[v0, v1] := by cases args; simp_all
  obtain ⟨rfl, rfl⟩ := trodVars_none hV
  have k0 := h0
  have lt0 : ∀ x ∈ p0, x.block < W.heap.size := by obtain ⟨m, hm⟩ := k0; exact DataW.trod_lt m _ _ _ hm
  obtain ⟨z0, w0⟩ := open_timers (hval 0 36 v0 rfl rfl) h0
  obtain ⟨a1, rfl, rfl, rfl, w1⟩ := open_int Tryd.underlying3 (hval 1 3 v1 rfl rfl) h1
  clear hA0 hval0
  refine (walk_EjectFirst z0 v0 a1 (bounds_i64 w1) W htab w0).mono fun e W' ⟨he, bel⟩ => ?_
  subst he
  exact ⟨_, rfl, _, _, _, [], _, [], hW', trodAll_mk1 (shut_bool Tryd.underlying4 _), (trodAll_cons_mk (Below.trod laidOut (by kernel_rfl) (of_decide_eq_true (by kernel_rfl)) k0 bel lt0) (trodAll_cons_mk (shut_int Tryd.underlying3 w1) trodAll_mk0)), rfl, bel.frame _, fun h => by cases h⟩

theorem said_EjectFirst : Rows.EjectFirstSaid :=
  OpenClaim.holds_of_cond 5 Tryd.f5 rfl rfl rfl rfl rfl rfl rfl ⟨rfl, rfl, rfl, rfl, rfl⟩ rfl rfl rfl rfl rfl (by kernel_rfl) Tryd.func5 (by kernel_rfl)
    (of_decide_eq_true (by kernel_rfl)) (by unfold Func.isWrapper; first | (rw [if_pos (by decide +kernel)]; kernel_rfl) | (rw [if_neg (by decide +kernel)]; exact ⟨rfl, rfl⟩))
    (fun os started H enc _ F => by rw [OpenClaim.pre_eq_preRow]; exact lifted_EjectFirst os started H enc F)

theorem plain_EjectFirst (f : FuncId) (fn : Func) (hf : Tryd.pinned.checked.prog.funcNamed Rows.ejectFirstRow.func = some f) (hfn : Tryd.pinned.checked.prog.funcs[f]? = some fn) :
    false = Tryd.pinned.checked.prog.looks [] ∧ ∀ (j : Nat) t, fn.params[j]? = some t → Tryd.pinned.checked.prog.wantsStandIn t = false := by
  obtain rfl : f = 5 := Option.some.inj ((show Tryd.prog.funcNamed Rows.ejectFirstRow.func = some 5 by kernel_rfl).symm.trans hf) |>.symm
  obtain rfl : fn = Tryd.f5 := (Option.some.inj (Tryd.func5.symm.trans hfn)).symm
  refine ⟨by kernel_rfl, fun j t ht => ?_⟩
  rw [Tryd.params5] at ht
  have hm := Array.mem_of_getElem? ht
  simp only [List.mem_toArray, List.mem_cons, List.not_mem_nil, or_false] at hm
  rcases hm with rfl | rfl
  · exact (show Tryd.prog.wantsStandIn 36 = false by kernel_rfl)
  · exact (show Tryd.prog.wantsStandIn 3 = false by kernel_rfl)

/-- The statement. -/
theorem ejectFirst_holds : Rows.EjectFirstCardSaid :=
  Claim7.holds_tied_plain_at .later [] _ _ _ _ said_EjectFirst (fun _ h => by cases h) (by kernel_rfl) (fun _ h => by cases h) ejectFirst_row_tie rfl ⟨rfl, rfl⟩ (by kernel_rfl) rfl plain_EjectFirst (by kernel_rfl)
#print axioms ejectFirst_holds

end Go.Proofs.YtomhmndpjkfppaaDoor
