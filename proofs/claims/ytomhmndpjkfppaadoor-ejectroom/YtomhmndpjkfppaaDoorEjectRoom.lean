/-
  EjectRoom, for every configuration and numbers: what is out and what has room are the cap together, as long as it is not passed; more members have no less room; nobody is out of nobody. No condition on the call.
-/
import Derived.Test.YtomhmndpjkfppaaDoorEjectAwake
import Derived.Test.YtomhmndpjkfppaaDoorRefMayC
import Derived.Test.YtomhmndpjkfppaaDoorUMod
namespace Go.Proofs.YtomhmndpjkfppaaDoor
open Go.ChangeShapes Go.WideShapes Go.ChangeAt Go.RowKit
open Go.ChangeMaps (open_string shut_string)

set_option maxRecDepth 100000 in
set_option maxHeartbeats 8000000 in
theorem walk_EjectRoom (c : Cfg) (hz : c.zone.size ≤ 9223372036854775807) (m : Int) (_ : -9223372036854775808 ≤ m ∧ m ≤ 9223372036854775807) (o : Int) (_ : -9223372036854775808 ≤ o ∧ o ≤ 9223372036854775807) (w : World) (htab : TabC w) :
    Calls Tryd.prog 6 #[.agg c.arr, .int .i64 m, .int .i64 o] w fun e w' => e = .returned (.bool true) ∧ Below w.heap.size w w' := by
  have HMayC : Hid (∀ W : World, Calls Tryd.prog 7 #[.agg c.arr] W fun e w' => e = .returned (.bool (mayC c)) ∧ Below W.heap.size W w') := fun W => rMay_any c W hz
  have HT : Hid (TabC w) := htab
  have HI : Hid ((Tryd.prog.info? 23).map (·.size) = some c.arr.size) := arr_inf c
  clear htab
  by_cases h1 : mayC c = true
  rotate_left
  · have h1 := Bool.eq_false_iff.2 h1
    rw [h1] at HMayC
    clear h1 hz
    generalize c.arr = cs at *
    go_enter Tryd.func6, Tryd.ntmps6
    go_upto_region 1 with fail
    generalize hW0 : w.alloc _ = W0
    have HC0 : Hid (HasBox W0 w.heap.size 23 cs) := by show HasBox _ _ _ _; rw [← hW0]; exact hasBox_new w _ _
    have HB0 : Hid (Below w.heap.size w W0) := by show Below _ _ _; rw [← hW0]; exact (Below.refl _ _).alloc (Nat.le_refl _) _
    clear hW0
    go_wp2_with (first | (refine wpList_load_bx rfl 23 (.tmp 3) rfl w.heap.size rfl 23 _ _ HC0.out Tryd.underlying23 rfl HI.out ?_) | fail)
    refine (HMayC.out _).mono ?_
    rintro e w1 ⟨rfl, hb⟩
    have HB1 : Hid (Below w.heap.size w w1) := HB0.out.trans (hb.mono HB0.out.size)
    clear hb HB0 HC0 HMayC
    go_wp2_with fail
    refine (awake14_any _ (HT.out.below HB1.out)).mono ?_
    rintro e w2 ⟨rfl, hb⟩
    have HB2 : Hid (Below w.heap.size w w2) := HB1.out.trans (hb.mono HB1.out.size)
    clear hb
    go_wp2
    go_ret
    exact ⟨rfl, HB2.out⟩
  rw [h1] at HMayC
  obtain ⟨M, hM1, hM2⟩ := u_modl m 1000 (by omega)
  obtain ⟨O, hO1, hO2⟩ := u_modl o 1000 (by omega)
  have hM2 : (IntKind.u64.wrap m).tmod 1000 = (M : Int) := hM2
  have hO2 : (IntKind.u64.wrap o).tmod 1000 = (O : Int) := hO2
  have hM3 : IntKind.i64.wrap (M : Int) = (M : Int) := wrap_in (by omega) (by omega)
  have hO3 : IntKind.i64.wrap (O : Int) = (O : Int) := wrap_in (by omega) (by omega)
  have b14 := may_num14 h1
  obtain ⟨a1, a2, -⟩ := capE_bd (c := c) (m := (M : Int)) (by omega) b14
  have a3 := capE_up (c := c) (m := (M : Int)) (by omega) b14
  obtain ⟨a4, a5, -⟩ := capE_bd (c := c) (m := 0) (by omega) b14
  obtain ⟨a6, a7, -⟩ := capE_bd (c := c) (m := (M : Int) + 1) (by omega) b14
  obtain ⟨q, hq⟩ : ∃ q, (if capE c M < (O : Int) then capE c M else (O : Int)) = q := ⟨_, rfl⟩
  have hqb : 0 ≤ q ∧ q ≤ capE c M := by rw [← hq]; split <;> omega
  have HCap1 : Hid (∀ W : World, TabC W → Calls Tryd.prog 9 #[.agg c.arr, .int .i64 M] W fun e w' => e = .returned (.int .i64 (capE c M)) ∧ Below W.heap.size W w') := fun W h => by
    have := eCap_any c M W h hz (by omega)
    rwa [known_self h1] at this
  have HCap2 : Hid (∀ W : World, TabC W → Calls Tryd.prog 9 #[.agg c.arr, .int .i64 ((M : Int) + 1)] W fun e w' => e = .returned (.int .i64 (capE c ((M : Int) + 1))) ∧ Below W.heap.size W w') := fun W h => by
    have := eCap_any c ((M : Int) + 1) W h hz (by omega)
    rwa [known_self h1] at this
  have HCap0 : Hid (∀ W : World, TabC W → Calls Tryd.prog 9 #[.agg c.arr, .int .i64 0] W fun e w' => e = .returned (.int .i64 0) ∧ Below W.heap.size W w') := fun W h => by
    have := eCap_any c 0 W h hz (by omega)
    rwa [known_self h1, show capE c 0 = 0 by omega] at this
  have HRoom1 : Hid (∀ W : World, TabC W → Calls Tryd.prog 10 #[.agg c.arr, .int .i64 M, .int .i64 q] W fun e w' => e = .returned (.int .i64 (capE c M - q)) ∧ Below W.heap.size W w') := fun W h => by
    have := eRoom_any c M q W h hz (by omega) (by omega)
    rwa [known_self h1, roomE_in hqb.1 hqb.2] at this
  have HRoom2 : Hid (∀ W : World, TabC W → Calls Tryd.prog 10 #[.agg c.arr, .int .i64 M, .int .i64 (capE c M + 1 + (O : Int))] W fun e w' => e = .returned (.int .i64 0) ∧ Below W.heap.size W w') := fun W h => by
    have := eRoom_any c M (capE c M + 1 + (O : Int)) W h hz (by omega) (by omega)
    have e : roomE c M (capE c M + 1 + (O : Int)) = 0 := by unfold roomE; rw [if_neg (show ¬ capE c M + 1 + (O : Int) < 0 by omega), if_pos (by omega)]
    rwa [known_self h1, e] at this
  clear a4 a5 b14 h1 hz
  generalize capE c ((M : Int) + 1) = n2 at *
  generalize capE c (M : Int) = n at *
  have w1 : IntKind.i64.wrap (n - q) = n - q := wrap_in (by omega) (by omega)
  obtain ⟨s1, hs1⟩ : ∃ s, n + 1 = s := ⟨_, rfl⟩
  obtain ⟨s2, hs2⟩ : ∃ s, n + 1 + (O : Int) = s := ⟨_, rfl⟩
  rw [hs2] at HRoom2
  have w2 : IntKind.i64.wrap (n + 1) = s1 := by rw [hs1]; exact wrap_in (by omega) (by omega)
  have w3 : IntKind.i64.wrap (s1 + (O : Int)) = s2 := by rw [← hs1, hs2]; exact wrap_in (by omega) (by omega)
  clear hs1 hs2
  have w4 : IntKind.i64.wrap ((M : Int) + 1) = (M : Int) + 1 := wrap_in (by omega) (by omega)
  have n1 : ¬ (M : Int) < 0 := by omega
  clear hqb hM1 hO1 a6 a7
  generalize c.arr = cs at *
  go_enter Tryd.func6, Tryd.ntmps6
  go_upto_region 1 with fail
  generalize hW0 : w.alloc _ = W0
  have HC0 : Hid (HasBox W0 w.heap.size 23 cs) := by show HasBox _ _ _ _; rw [← hW0]; exact hasBox_new w _ _
  have HB0 : Hid (Below w.heap.size w W0) := by show Below _ _ _; rw [← hW0]; exact (Below.refl _ _).alloc (Nat.le_refl _) _
  clear hW0
  go_wp2_with (first | (refine wpList_load_bx rfl 23 (.tmp 3) rfl w.heap.size rfl 23 _ _ HC0.out Tryd.underlying23 rfl HI.out ?_) | fail)
  refine (HMayC.out _).mono ?_
  rintro e w1 ⟨rfl, hb⟩
  have HC1 : Hid (HasBox w1 w.heap.size 23 cs) := HC0.out.below hb
  have HB1 : Hid (Below w.heap.size w w1) := HB0.out.trans (hb.mono HB0.out.size)
  clear hb HB0 HC0 HMayC
  go_wp2_with (first | (refine wpList_load_bx rfl 23 (.tmp 3) rfl w.heap.size rfl 23 _ _ HC1.out Tryd.underlying23 rfl HI.out ?_) | fail)
  refine (HCap1.out _ (HT.out.below HB1.out)).mono ?_
  rintro e w2 ⟨rfl, hb⟩
  have HC2 : Hid (HasBox w2 w.heap.size 23 cs) := HC1.out.below hb
  have HB2 : Hid (Below w.heap.size w w2) := HB1.out.trans (hb.mono HB1.out.size)
  clear hb HB1 HC1 HCap1
  go_wp2_with (first | (refine wpList_load_bx rfl 23 (.tmp 3) rfl w.heap.size rfl 23 _ _ HC2.out Tryd.underlying23 rfl HI.out ?_) | fail)
  refine (HRoom1.out _ (HT.out.below HB2.out)).mono ?_
  rintro e w3 ⟨rfl, hb⟩
  have HC3 : Hid (HasBox w3 w.heap.size 23 cs) := HC2.out.below hb
  have HB3 : Hid (Below w.heap.size w w3) := HB2.out.trans (hb.mono HB2.out.size)
  clear hb HB2 HC2 HRoom1
  go_wp2_with (first | (refine wpList_load_bx rfl 23 (.tmp 3) rfl w.heap.size rfl 23 _ _ HC3.out Tryd.underlying23 rfl HI.out ?_) | fail)
  refine (HRoom2.out _ (HT.out.below HB3.out)).mono ?_
  rintro e w4 ⟨rfl, hb⟩
  have HC4 : Hid (HasBox w4 w.heap.size 23 cs) := HC3.out.below hb
  have HB4 : Hid (Below w.heap.size w w4) := HB3.out.trans (hb.mono HB3.out.size)
  clear hb HB3 HC3 HRoom2
  go_wp2_with (first | (refine wpList_load_bx rfl 23 (.tmp 3) rfl w.heap.size rfl 23 _ _ HC4.out Tryd.underlying23 rfl HI.out ?_) | fail)
  refine (HCap2.out _ (HT.out.below HB4.out)).mono ?_
  rintro e w5 ⟨rfl, hb⟩
  have HC5 : Hid (HasBox w5 w.heap.size 23 cs) := HC4.out.below hb
  have HB5 : Hid (Below w.heap.size w w5) := HB4.out.trans (hb.mono HB4.out.size)
  clear hb HB4 HC4 HCap2
  go_wp2_with (first | (refine wpList_load_bx rfl 23 (.tmp 3) rfl w.heap.size rfl 23 _ _ HC5.out Tryd.underlying23 rfl HI.out ?_) | fail)
  refine (HCap0.out _ (HT.out.below HB5.out)).mono ?_
  rintro e w6 ⟨rfl, hb⟩
  have HB6 : Hid (Below w.heap.size w w6) := HB5.out.trans (hb.mono HB5.out.size)
  clear hb HB5 HC5 HCap0
  go_wp2_with fail
  refine (awake14_any _ (HT.out.below HB6.out)).mono ?_
  rintro e w7 ⟨rfl, hb⟩
  have HB7 : Hid (Below w.heap.size w w7) := HB6.out.trans (hb.mono HB6.out.size)
  clear hb
  go_wp2
  go_ret
  exact ⟨rfl, HB7.out⟩

theorem reads_EjectRoom (os : Os) {H : Type} (enc : TypeId × Value → H) : ∃ places, DataW.whole enc Tryd.prog ((laidWorld os).forCall (fun _ _ => 0) ⟨#[], #[.agg #[.int .i64 0, .int .i64 0, .int .i64 0, .int .i64 0, .int .i64 0, .int .i64 0, .int .i64 0, .int .i64 0, .int .i64 0, .int .i64 0, .int .i64 0, .int .i64 0, .int .i64 0, .int .i64 0, .int .i64 0, .bool false, .int .i64 0, .int .i64 0, .int .i64 0, .int .i64 0, .int .i64 0, .string ByteArray.empty, .bool false], .int .i64 0, .int .i64 0], []⟩).memory Tryd.f6.params.toList Rows.ejectRoomSpec.vars false (#[.agg #[.int .i64 0, .int .i64 0, .int .i64 0, .int .i64 0, .int .i64 0, .int .i64 0, .int .i64 0, .int .i64 0, .int .i64 0, .int .i64 0, .int .i64 0, .int .i64 0, .int .i64 0, .int .i64 0, .int .i64 0, .bool false, .int .i64 0, .int .i64 0, .int .i64 0, .int .i64 0, .int .i64 0, .string ByteArray.empty, .bool false], .int .i64 0, .int .i64 0] : Array Value).toList 8 = some ([.agg [.lit (.int .i64 0), .lit (.int .i64 0), .lit (.int .i64 0), .lit (.int .i64 0), .lit (.int .i64 0), .lit (.int .i64 0), .lit (.int .i64 0), .lit (.int .i64 0), .lit (.int .i64 0), .lit (.int .i64 0), .lit (.int .i64 0), .lit (.int .i64 0), .lit (.int .i64 0), .lit (.int .i64 0), .lit (.int .i64 0), .lit (.bool false), .lit (.int .i64 0), .lit (.int .i64 0), .lit (.int .i64 0), .lit (.int .i64 0), .lit (.int .i64 0), .lit (.string []), .lit (.bool false)], .lit (.int .i64 0), .lit (.int .i64 0)], [], places) :=
  ⟨[], by kernel_rfl⟩

set_option maxRecDepth 100000 in
theorem lifted_EjectRoom (os : Os) (started : os.Started) (H : Type) (enc : TypeId × Value → H) (F : Stop.Interp) :
    ReturnsInHanded {} Tryd.checked os 6 .any ((OpenSpec.ofChange Rows.ejectRoomSpec).preRow enc Tryd.prog Tryd.f6 Rows.ejectRoomRow.domain false Rows.ejectRoomRow.laid) (((OpenSpec.ofChange Rows.ejectRoomSpec).at F).post enc Tryd.prog Tryd.f6 false true false false) := by
  obtain ⟨places, hx⟩ := reads_EjectRoom os enc
  refine returnsInHanded_of_row (C := Tryd.checked) (s := OpenSpec.ofChange Rows.ejectRoomSpec) own started (by kernel_rfl) Tryd.func6
    (witness_row_at (enc := enc) (C := Tryd.checked) false (laidWorld os) #[.agg #[.int .i64 0, .int .i64 0, .int .i64 0, .int .i64 0, .int .i64 0, .int .i64 0, .int .i64 0, .int .i64 0, .int .i64 0, .int .i64 0, .int .i64 0, .int .i64 0, .int .i64 0, .int .i64 0, .int .i64 0, .bool false, .int .i64 0, .int .i64 0, .int .i64 0, .int .i64 0, .int .i64 0, .string ByteArray.empty, .bool false], .int .i64 0, .int .i64 0] rfl (by kernel_rfl) (by kernel_rfl) (by kernel_rfl)
      (OpenSpec.preRow_of_cond 8 hx (by kernel_rfl) (fun k hk => by cases hk) (by kernel_rfl) (laid_met os _))) ?_
  intro W base args ds gs before hval0 hW _ _ hsz0 hL _ _
  have htab := table hL
  have hval : ∀ (j : Nat) t v, Tryd.f6.params[j]? = some t → args[j]? = some v → Value.okWide Tryd.prog W .any base t v := hval0
  have hW' := hW
  obtain ⟨p, q, hA0, hV, rfl, hfz, hnd⟩ := hW
  have hA : DataW.TrodAll enc Tryd.prog W 0 (fun _ => true) true Tryd.f6.params.toList args.toList ds p := hA0
  rw [Tryd.params6] at hA hval
  obtain ⟨v0, vs0, d0, ds0, p0, q0, hargs, rfl, rfl, h0, r0⟩ := trodAll_cons hA
  obtain ⟨v1, vs1, d1, ds1, p1, q1, rfl, rfl, rfl, h1, r1⟩ := trodAll_cons r0
  obtain ⟨v2, vs2, d2, ds2, p2, q2, rfl, rfl, rfl, h2, r2⟩ := trodAll_cons r1
  obtain ⟨rfl, rfl, rfl⟩ := trodAll_nil r2
  obtain rfl : args = #[v0, v1, v2] := by cases args; simp_all
  obtain ⟨rfl, rfl⟩ := trodVars_none hV
  have k0 := h0
  have lt0 : ∀ x ∈ p0, x.block < W.heap.size := by obtain ⟨m, hm⟩ := k0; exact DataW.trod_lt m _ _ _ hm
  obtain ⟨z0, rfl, w0⟩ := open_cfg (hval 0 23 v0 rfl rfl) h0
  obtain ⟨a1, rfl, rfl, rfl, w1⟩ := open_int Tryd.underlying3 (hval 1 3 v1 rfl rfl) h1
  obtain ⟨a2, rfl, rfl, rfl, w2⟩ := open_int Tryd.underlying3 (hval 2 3 v2 rfl rfl) h2
  clear hA0 hval0
  refine (walk_EjectRoom z0 w0 a1 (bounds_i64 w1) a2 (bounds_i64 w2) W htab).mono fun e W' ⟨he, bel⟩ => ?_
  subst he
  exact ⟨_, rfl, _, _, _, [], _, [], hW', trodAll_mk1 (shut_bool Tryd.underlying4 _), (trodAll_cons_mk (Below.trod laidOut (by kernel_rfl) (of_decide_eq_true (by kernel_rfl)) k0 bel lt0) (trodAll_cons_mk (shut_int Tryd.underlying3 w1) (trodAll_cons_mk (shut_int Tryd.underlying3 w2) trodAll_mk0))), rfl, bel.frame _, fun h => by cases h⟩

theorem said_EjectRoom : Rows.EjectRoomSaid :=
  OpenClaim.holds_of_cond 6 Tryd.f6 rfl rfl rfl rfl rfl rfl rfl ⟨rfl, rfl, rfl, rfl, rfl⟩ rfl rfl rfl rfl rfl (by kernel_rfl) Tryd.func6 (by kernel_rfl)
    (of_decide_eq_true (by kernel_rfl)) (by unfold Func.isWrapper; first | (rw [if_pos (by decide +kernel)]; kernel_rfl) | (rw [if_neg (by decide +kernel)]; exact ⟨rfl, rfl⟩))
    (fun os started H enc _ F => by rw [OpenClaim.pre_eq_preRow]; exact lifted_EjectRoom os started H enc F)

theorem plain_EjectRoom (f : FuncId) (fn : Func) (hf : Tryd.pinned.checked.prog.funcNamed Rows.ejectRoomRow.func = some f) (hfn : Tryd.pinned.checked.prog.funcs[f]? = some fn) :
    false = Tryd.pinned.checked.prog.looks [] ∧ ∀ (j : Nat) t, fn.params[j]? = some t → Tryd.pinned.checked.prog.wantsStandIn t = false := by
  obtain rfl : f = 6 := Option.some.inj ((show Tryd.prog.funcNamed Rows.ejectRoomRow.func = some 6 by kernel_rfl).symm.trans hf) |>.symm
  obtain rfl : fn = Tryd.f6 := (Option.some.inj (Tryd.func6.symm.trans hfn)).symm
  refine ⟨by kernel_rfl, fun j t ht => ?_⟩
  rw [Tryd.params6] at ht
  have hm := Array.mem_of_getElem? ht
  simp only [List.mem_toArray, List.mem_cons, List.not_mem_nil, or_false] at hm
  rcases hm with rfl | rfl | rfl
  · exact (show Tryd.prog.wantsStandIn 23 = false by kernel_rfl)
  · exact (show Tryd.prog.wantsStandIn 3 = false by kernel_rfl)
  · exact (show Tryd.prog.wantsStandIn 3 = false by kernel_rfl)

/-- The statement. -/
theorem ejectRoom_holds : Rows.EjectRoomCardSaid :=
  Claim7.holds_tied_plain_at .later [] _ _ _ _ said_EjectRoom (fun _ h => by cases h) (by kernel_rfl) (fun _ h => by cases h) ejectRoom_row_tie rfl ⟨rfl, rfl⟩ (by kernel_rfl) rfl plain_EjectRoom (by kernel_rfl)
#print axioms ejectRoom_holds

end Go.Proofs.YtomhmndpjkfppaaDoor
