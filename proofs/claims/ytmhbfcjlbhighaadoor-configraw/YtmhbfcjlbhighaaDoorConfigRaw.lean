/-
  ConfigRaw, for every text: longer than 6000 bytes it is not asked; else Parse tells ErrForm of some line and no configuration, or a configuration that may be, whose text is read as it. No condition but that the two tables are as the program's text lays them (the card).
-/
import Derived.Test.YtmhbfcjlbhighaaDoorConfFrame
import Derived.Test.YtmhbfcjlbhighaaDoorConfEq
import Derived.Test.YtmhbfcjlbhighaaDoorConfLaw
namespace Go.Proofs.YtmhbfcjlbhighaaDoor
open Go.ChangeShapes Go.WideShapes Go.ChangeAt Go.RowKit
open Go.ChangeMaps (open_string shut_string)

set_option maxRecDepth 100000 in
set_option maxHeartbeats 2000000 in
theorem raw_bad (s : ByteArray) (n : Int) (hn : 0 ≤ n) (hp : parseV s = (zeroC, n, 2)) (hs : ¬ (6000 : Int) < (s.size : Int)) (w : World) (ht : Tabs w) :
    Calls Tryd.prog 5 #[.string s] w fun e w' => e = .returned (.bool true) ∧ Below w.heap.size w w' := by
  have HT : Hid (Tabs w) := ht
  have HP := fun W h => parse_any s W h (by omega)
  rw [hp] at HP
  simp only at HP
  have hg := eq_guard
  have hI := arr_info zeroC
  have hO := arr_one zeroC
  have hS : zeroC.arr.size = 23 := rfl
  have hsame : ∀ W, (binOp .eql 23 (.agg zeroC.arr) (.agg #[.int .i64 0, .int .i64 0, .int .i64 0, .int .i64 0, .int .i64 0, .int .i64 0, .int .i64 0, .int .i64 0, .int .i64 0, .int .i64 0, .int .i64 0, .int .i64 0, .int .i64 0, .int .i64 0, .int .i64 0, .bool false, .int .i64 0, .int .i64 0, .int .i64 0, .int .i64 0, .int .i64 0, .string ⟨#[]⟩, .bool false])).run Tryd.prog W = .ok (.bool true) W := fun W => by
    have h := run_sameC zeroC zeroC W
    rw [decide_eq_true rfl] at h
    exact h
  have HAw := fun W h => awake_any W h
  clear ht hp
  generalize zeroC.arr = A at HP hI hO hS hsame
  have HI : Hid _ := hI
  have HO : Hid _ := hO
  have HS : Hid _ := hS
  clear hI hO hS
  go_enter Tryd.func5, Tryd.ntmps5
  go_wp2_with fail
  refine (HP _ HT.out.1).mono ?_
  rintro e w1 ⟨rfl, hb⟩
  have HF := fun o => stored_facts hb (D := A) (o := o)
  clear hb HP
  go_wp2_with (first | (refine wpList_store_row rfl 23 (.tmp 3) (.tmp 16) rfl w1.heap.size A rfl rfl 23 _ (heap_alloc_new w1 _) HI.out HS.out.symm HO.out ?_; obtain ⟨hf1, hf2⟩ := HF _; generalize World.setRow _ _ _ = W4 at hf1 hf2 ⊢; have HF1 : Hid _ := hf1; have HF2 : Hid _ := hf2; clear hf1 hf2 HF) | (refine wpList_load_want rfl 23 (.tmp 3) rfl w1.heap.size rfl 23 A (0, 0) _ HF1.out Tryd.underlying23 rfl HI.out ?_) | fail)
  refine (HAw _ (HT.out.below HF2.out)).mono ?_
  rintro e w5 ⟨rfl, hb⟩
  have HB5 : Hid (Below w.heap.size w w5) := Below.trans HF2.out (hb.mono (Below.size HF2.out))
  clear hb HAw
  go_wp2
  go_ret
  exact ⟨rfl, HB5.out⟩

set_option maxRecDepth 100000 in
set_option maxHeartbeats 2000000 in
theorem raw_ok (s : ByteArray) (c : Cfg) (hc : mayC c = true) (hp : parseV s = (c, 0, 0)) (hs : ¬ (6000 : Int) < (s.size : Int)) (w : World) (ht : Tabs w) :
    Calls Tryd.prog 5 #[.string s] w fun e w' => e = .returned (.bool true) ∧ Below w.heap.size w w' := by
  have HT : Hid (Tabs w) := ht
  have HP := fun W h => parse_any s W h (by omega)
  rw [hp] at HP
  simp only at HP
  have hz : c.zone.size ≤ 9223372036854775807 := by
    have := parse_zone s
    rw [hp] at this
    simp only at this
    omega
  have HX := fun W h => text_any c W h hz
  have htl : (mkS (textC c)).size ≤ 9223372036854775807 := by
    rw [mkS_data', textC_may hc]
    have := someC_length (may_parts hc).2 (List.range 23) (fun i hi => by simpa using hi) (fun i hi => (may_parts hc).1 i (by simpa using hi))
    simp at this
    omega
  have HP2 := fun W h => parse_any (mkS (textC c)) W h htl
  rw [parse_text hc] at HP2
  simp only at HP2
  have HM := fun W h => may_any c W h hz
  rw [hc] at HM
  have hg := eq_guard
  have hI := arr_info c
  have hO := arr_one c
  have hS : c.arr.size = 23 := rfl
  have hsame : ∀ W, (binOp .eql 23 (.agg c.arr) (.agg c.arr)).run Tryd.prog W = .ok (.bool true) W := fun W => by
    have h := run_sameC c c W
    rw [decide_eq_true rfl] at h
    exact h
  have HAw := fun W h => awake_any W h
  clear ht hp htl
  generalize mkS (textC c) = TX at HX HP2
  generalize c.arr = A at HP HP2 HX HM hI hO hS hsame
  have HI : Hid _ := hI
  have HO : Hid _ := hO
  have HS : Hid _ := hS
  clear hI hO hS
  go_enter Tryd.func5, Tryd.ntmps5
  go_wp2_with fail
  refine (HP _ HT.out.1).mono ?_
  rintro e w1 ⟨rfl, hb⟩
  have HF := fun o => stored_facts hb (D := A) (o := o)
  clear hb HP
  go_wp2_with (first | (refine wpList_store_row rfl 23 (.tmp 3) (.tmp 16) rfl w1.heap.size A rfl rfl 23 _ (heap_alloc_new w1 _) HI.out HS.out.symm HO.out ?_; obtain ⟨hf1, hf2⟩ := HF _; generalize World.setRow _ _ _ = W4 at hf1 hf2 ⊢; have HF1 : Hid _ := hf1; have HF2 : Hid _ := hf2; clear hf1 hf2 HF) | (refine wpList_load_row rfl 23 (.tmp 3) rfl w1.heap.size rfl 23 A (0, 0) _ HF1.out Tryd.underlying23 rfl HI.out ?_) | fail)
  refine (HX _ (HT.out.below HF2.out)).mono ?_
  rintro e w5 ⟨rfl, hb⟩
  have HB5 : Hid (Below w.heap.size w w5) := Below.trans HF2.out (hb.mono (Below.size HF2.out))
  have HC5 : Hid (CellsAt w5 w1.heap.size A) := CellsAt.below HF1.out hb
  clear hb HX HF1 HF2
  go_wp2_with fail
  refine (HP2 _ (HT.out.below HB5.out).1).mono ?_
  rintro e w6 ⟨rfl, hb⟩
  have HF := fun o => stored_facts2 (HC5.out.below hb) (Below.trans HB5.out (hb.mono (Below.size HB5.out))) (D := A) (o := o)
  clear hb HP2 HC5 HB5
  go_wp2_with (first | (refine wpList_store_row rfl 23 (.tmp 6) (.tmp 39) rfl w6.heap.size A rfl rfl 23 _ (heap_alloc_new w6 _) HI.out HS.out.symm HO.out ?_; obtain ⟨hf1, hf2, hf3⟩ := HF _; generalize World.setRow _ _ _ = W7 at hf1 hf2 hf3 ⊢; have HF1 : Hid _ := hf1; have HF2 : Hid _ := hf2; have HF3 : Hid _ := hf3; clear hf1 hf2 hf3 HF) | (refine wpList_load_row rfl 23 (.tmp 3) rfl w1.heap.size rfl 23 A (0, 0) _ HF1.out Tryd.underlying23 rfl HI.out ?_) | fail)
  refine (HM _ (HT.out.below HF3.out).1).mono ?_
  rintro e w8 ⟨rfl, hb⟩
  have HB8 : Hid (Below w.heap.size w w8) := Below.trans HF3.out (hb.mono (Below.size HF3.out))
  have HC8 : Hid (CellsAt w8 w1.heap.size A) := CellsAt.below HF1.out hb
  have HD8 : Hid (CellsAt w8 w6.heap.size A) := CellsAt.below HF2.out hb
  clear hb HM HF1 HF2 HF3
  go_wp2_with (first | (refine wpList_load_want rfl 23 (.tmp 6) rfl w6.heap.size rfl 23 A (0, 0) _ HD8.out Tryd.underlying23 rfl HI.out ?_) | (refine wpList_load_want rfl 23 (.tmp 3) rfl w1.heap.size rfl 23 A (0, 0) _ HC8.out Tryd.underlying23 rfl HI.out ?_) | fail)
  refine (HAw _ (HT.out.below HB8.out)).mono ?_
  rintro e w9 ⟨rfl, hb⟩
  have HB9 : Hid (Below w.heap.size w w9) := HB8.out.trans (hb.mono HB8.out.size)
  clear hb HAw
  go_wp2
  go_ret
  exact ⟨rfl, HB9.out⟩

set_option maxHeartbeats 1000000 in
theorem walk_ConfigRaw (s : ByteArray) (_ : s.size ≤ maxLen) (w : World) (ht : Tabs w) :
    Calls Tryd.prog 5 #[.string s] w fun e w' => e = .returned (.bool true) ∧ Below w.heap.size w w' := by
  by_cases hl : (6000 : Int) < (s.size : Int)
  · have HT : Hid (Tabs w) := ht
    clear ht
    go_enter Tryd.func5, Tryd.ntmps5
    go_wp2_with fail
    refine (awake_any _ HT.out).mono ?_
    rintro e w1 ⟨rfl, hb⟩
    have HB : Hid (Below w.heap.size w w1) := hb
    clear hb
    go_wp2
    go_ret
    exact ⟨rfl, HB.out⟩
  · obtain ⟨c, n, er, hp⟩ : ∃ c n er, parseV s = (c, n, er) := ⟨_, _, _, rfl⟩
    have hr := parse_raw s
    rw [hp] at hr
    simp only at hr
    rcases hr with ⟨rfl, rfl, hc⟩ | ⟨rfl, hn, rfl⟩
    · exact raw_ok s c hc hp hl w ht
    · exact raw_bad s n hn.1 hp hl w ht

theorem reads_ConfigRaw (os : Os) {H : Type} (enc : TypeId × Value → H) : ∃ places, DataW.whole enc Tryd.prog ((laidWorld os).forCall (fun _ _ => 0) ⟨#[], #[.string ByteArray.empty], []⟩).memory Tryd.f5.params.toList Rows.configRawSpec.vars false (#[.string ByteArray.empty] : Array Value).toList 8 = some ([.lit (.string [])], [], places) :=
  ⟨[], by kernel_rfl⟩

set_option maxRecDepth 100000 in
theorem lifted_ConfigRaw (os : Os) (started : os.Started) (H : Type) (enc : TypeId × Value → H) (F : Stop.Interp) :
    ReturnsInHanded {} Tryd.checked os 5 .any ((OpenSpec.ofChange Rows.configRawSpec).preRow enc Tryd.prog Tryd.f5 Rows.configRawRow.domain false Rows.configRawRow.laid) (((OpenSpec.ofChange Rows.configRawSpec).at F).post enc Tryd.prog Tryd.f5 false true false false) := by
  obtain ⟨places, hx⟩ := reads_ConfigRaw os enc
  refine returnsInHanded_of_row (C := Tryd.checked) (s := OpenSpec.ofChange Rows.configRawSpec) own started (by kernel_rfl) Tryd.func5
    (witness_row_at (enc := enc) (C := Tryd.checked) false (laidWorld os) #[.string ByteArray.empty] rfl (by kernel_rfl) (by kernel_rfl) (by kernel_rfl)
      (OpenSpec.preRow_of_cond 8 hx (by kernel_rfl) (fun k hk => by cases hk) (by kernel_rfl) (laid_met os _))) ?_
  intro W base args ds gs before hval0 hW _ _ hsz0 hL _ _
  have htab := table hL
  have hval : ∀ (j : Nat) t v, Tryd.f5.params[j]? = some t → args[j]? = some v → Value.okWide Tryd.prog W .any base t v := hval0
  have hW' := hW
  obtain ⟨p, q, hA0, hV, rfl, hfz, hnd⟩ := hW
  have hA : DataW.TrodAll enc Tryd.prog W 0 (fun _ => true) true Tryd.f5.params.toList args.toList ds p := hA0
  rw [Tryd.params5] at hA hval
  obtain ⟨v0, vs0, d0, ds0, p0, q0, hargs, rfl, rfl, h0, r0⟩ := trodAll_cons hA
  obtain ⟨rfl, rfl, rfl⟩ := trodAll_nil r0
  obtain rfl : args = #[v0] := by cases args; simp_all
  obtain ⟨rfl, rfl⟩ := trodVars_none hV
  obtain ⟨a0, rfl, rfl, rfl, w0⟩ := open_string Tryd.underlying9 (hval 0 9 v0 rfl rfl) h0
  clear hA0 hval0
  refine (walk_ConfigRaw a0 w0 W htab).mono fun e W' ⟨he, bel⟩ => ?_
  subst he
  exact ⟨_, rfl, _, _, _, [], _, [], hW', trodAll_mk1 (shut_bool Tryd.underlying4 _), (trodAll_cons_mk (shut_string Tryd.underlying9 w0) trodAll_mk0), rfl, bel.frame _, fun h => by cases h⟩

theorem said_ConfigRaw : Rows.ConfigRawSaid :=
  OpenClaim.holds_of_cond 5 Tryd.f5 rfl rfl rfl rfl rfl rfl rfl ⟨rfl, rfl, rfl, rfl, rfl⟩ rfl rfl rfl rfl rfl (by kernel_rfl) Tryd.func5 (by kernel_rfl)
    (of_decide_eq_true (by kernel_rfl)) (by unfold Func.isWrapper; first | (rw [if_pos (by decide +kernel)]; kernel_rfl) | (rw [if_neg (by decide +kernel)]; exact ⟨rfl, rfl⟩))
    (fun os started H enc _ F => by rw [OpenClaim.pre_eq_preRow]; exact lifted_ConfigRaw os started H enc F)

theorem plain_ConfigRaw (f : FuncId) (fn : Func) (hf : Tryd.pinned.checked.prog.funcNamed Rows.configRawRow.func = some f) (hfn : Tryd.pinned.checked.prog.funcs[f]? = some fn) :
    false = Tryd.pinned.checked.prog.looks [] ∧ ∀ (j : Nat) t, fn.params[j]? = some t → Tryd.pinned.checked.prog.wantsStandIn t = false := by
  obtain rfl : f = 5 := Option.some.inj ((show Tryd.prog.funcNamed Rows.configRawRow.func = some 5 by kernel_rfl).symm.trans hf) |>.symm
  obtain rfl : fn = Tryd.f5 := (Option.some.inj (Tryd.func5.symm.trans hfn)).symm
  refine ⟨by kernel_rfl, fun j t ht => ?_⟩
  rw [Tryd.params5] at ht
  have hm := Array.mem_of_getElem? ht
  simp only [List.mem_toArray, List.mem_cons, List.not_mem_nil, or_false] at hm
  rcases hm with rfl
  · exact (show Tryd.prog.wantsStandIn 9 = false by kernel_rfl)

/-- The statement. -/
theorem configRaw_holds : Rows.ConfigRawCardSaid :=
  Claim7.holds_tied_plain_at .later [] _ _ _ _ said_ConfigRaw (fun _ h => by cases h) (by kernel_rfl) (fun _ h => by cases h) configRaw_row_tie rfl ⟨rfl, rfl⟩ (by kernel_rfl) rfl plain_ConfigRaw (by kernel_rfl)
#print axioms configRaw_holds

end Go.Proofs.YtmhbfcjlbhighaaDoor
