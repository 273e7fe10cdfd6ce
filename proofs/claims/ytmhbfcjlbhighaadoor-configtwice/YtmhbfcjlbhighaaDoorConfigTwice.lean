/-
  ConfigTwice, for every configuration and every number: the lines of its text, from whichever on and round, are read as it; one of them once more is ErrForm of the last line. One that may not be is not asked. No condition but that the two tables are as the program's text lays them (the card).
-/
import Derived.Test.YtmhbfcjlbhighaaDoorConfFrame
import Derived.Test.YtmhbfcjlbhighaaDoorConfEq
import Derived.Test.YtmhbfcjlbhighaaDoorConfLaw
import Derived.Test.YtmhbfcjlbhighaaDoorConfParts
import Derived.Test.YtmhbfcjlbhighaaDoorRefText
namespace Go.Proofs.YtmhbfcjlbhighaaDoor
open Go.ChangeShapes Go.WideShapes Go.ChangeAt Go.RowKit

theorem stored_below (w3 : World) (D o : Array Value) : Below w3.heap.size w3 ((w3.alloc (.cells o 23 (0, 0))).setRow w3.heap.size D) :=
  below_setRow ((Below.refl _ _).alloc (Nat.le_refl _) _) (Nat.le_refl _) _
theorem u23_mod (a : Int) : ∃ M : Nat, M < 23 ∧ (IntKind.u64.wrap a).tmod 23 = (M : Int) := by
  have h0 : 0 ≤ IntKind.u64.wrap a := by simp [IntKind.wrap, IntKind.signed, IntKind.bits]; omega
  refine ⟨((IntKind.u64.wrap a) % 23).toNat, by omega, ?_⟩
  rw [Int.tmod_eq_emod_of_nonneg h0]
  omega

set_option maxRecDepth 100000 in
set_option maxHeartbeats 2000000 in
theorem twice_not (c : Cfg) (hz : c.zone.size ≤ 9223372036854775807) (hc : mayC c = false) (a : Int) (w : World) (ht : Tabs w) :
    Calls Tryd.prog 6 #[.agg c.arr, .int .i64 a] w fun e w' => e = .returned (.bool true) ∧ Below w.heap.size w w' := by
  have HT : Hid (Tabs w) := ht
  have HMay := fun W => rMay_any c W hz
  rw [hc, val_arr] at HMay
  have HI : Hid _ := arr_info c
  clear hc hz ht
  generalize c.arr = cs at HMay HI ⊢
  go_enter Tryd.func6, Tryd.ntmps6
  go_wp2_with (first | (refine wpList_load_row rfl 23 (.tmp 2) rfl w.heap.size rfl 23 cs (0, 0) _ (heap_alloc_new w _) Tryd.underlying23 rfl HI.out ?_) | fail)
  refine (HMay _).mono ?_
  rintro e w1 ⟨rfl, hb⟩
  have HB1 : Hid (Below w.heap.size w w1) := ((Below.refl _ w).alloc (Nat.le_refl _) _).trans (hb.mono (by simp))
  clear hb HMay
  go_wp2_with fail
  refine (awake_any _ (HT.out.below HB1.out)).mono ?_
  rintro e w2 ⟨rfl, hb⟩
  have HB2 : Hid (Below w.heap.size w w2) := HB1.out.trans (hb.mono HB1.out.size)
  clear hb
  go_wp2
  go_ret
  exact ⟨rfl, HB2.out⟩

set_option maxRecDepth 100000 in
set_option maxHeartbeats 4000000 in
theorem twice_may (c : Cfg) (hc : mayC c = true) (a : Int) (w : World) (ht : Tabs w) :
    Calls Tryd.prog 6 #[.agg c.arr, .int .i64 a] w fun e w' => e = .returned (.bool true) ∧ Below w.heap.size w w' := by
  have HT : Hid (Tabs w) := ht
  obtain ⟨M, hM23, hM⟩ := u23_mod a
  obtain ⟨hfits, hzone⟩ := may_parts hc
  have hz : c.zone.size ≤ 9223372036854775807 := by
    rcases hzone with h | h
    · omega
    · have := (clean_name h).2; omega
  have HMay := fun W => rMay_any c W hz
  rw [hc, val_arr] at HMay
  have HX := fun W h => rText_any c W h hz
  have htl : (mkS (textC c)).size ≤ 1000000 := by
    rw [mkS_data', textC_may hc]
    have := someC_length hzone (List.range 23) (fun i hi => by simpa using hi) (fun i hi => hfits i (by simpa using hi))
    simp at this
    omega
  have HPa := fun W => rParts_any (mkS (textC c)) 10 W htl
  obtain ⟨hp1, hp2⟩ := parts_at hc
  rw [hp1] at HPa
  have HSz : Hid (∀ p : List Nat, p.length ≤ 24 → (∀ i ∈ p, i < 23) → (someC c.nums c.zone p).length ≤ 700) := fun p hp h => by
    have := someC_length hzone p h (fun i hi => hfits i (h i hi))
    omega
  have HLn : Hid (∀ i, i < 23 → (lineC c.nums c.zone i).length ≤ 25) := fun i hi => line_short i hi (hfits i hi) hzone
  have HP1 := fun W h => parse_any (mkS (someC c.nums c.zone (rotC M))) W h (by
    have h1 := HSz.out (rotC M) (by simp [rotC]) (rotC_lt M)
    rw [mkS_data']; omega)
  rw [parse_turned hc M hM23] at HP1
  simp only at HP1
  have HP2 := fun W h => parse_any (mkS (someC c.nums c.zone (rotC M ++ [M]))) W h (by
    have h1 := HSz.out (rotC M ++ [M]) (by simp [rotC]) (fun i hi => by
      rcases List.mem_append.1 hi with h | h
      · exact rotC_lt M i h
      · rw [List.mem_singleton] at h; omega)
    rw [mkS_data']; omega)
  rw [parse_twice hc M hM23] at HP2
  simp only at HP2
  have HNx : Hid (∀ i, i < 23 → mkS (someC c.nums c.zone ((rotC M).take (i + 1))) = mkS (someC c.nums c.zone ((rotC M).take i)) ++ (mkS (lineC c.nums c.zone ((i + M) % 23)) ++ ⟨#[10]⟩)) := fun i hi => by
    rw [rot_next M i hi, someC_snoc]
    apply ByteArray.ext
    unfold mkS
    simp
  have HLast : Hid (mkS (someC c.nums c.zone (rotC M)) ++ mkS (lineC c.nums c.zone M) ++ ⟨#[10]⟩ = mkS (someC c.nums c.zone (rotC M ++ [M]))) := by
    show _ = _
    rw [someC_snoc]
    apply ByteArray.ext
    unfold mkS
    simp
  have HSt : Hid (∀ i, i ≤ 23 → (mkS (someC c.nums c.zone ((rotC M).take i))).size ≤ 700) := fun i hi => by
    rw [mkS_data']
    exact HSz.out _ (by simp [rotC]; omega) (fun j hj => rotC_lt M j (List.mem_of_mem_take hj))
  have HS23 : Hid ((rotC M).take 23 = rotC M) := List.take_of_length_le (by simp [rotC])
  have HS0 : Hid (mkS (someC c.nums c.zone ((rotC M).take 0)) = ⟨#[]⟩) := rfl
  have HLi : Hid (∀ i, i < 23 → (mkS (lineC c.nums c.zone i)).size ≤ 25) := fun i hi => by rw [mkS_data']; exact HLn.out i hi
  have hg := eq_guard
  have hsame : ∀ W, (binOp .eql 23 (.agg c.arr) (.agg c.arr)).run Tryd.prog W = .ok (.bool true) W := fun W => by
    have h := run_sameC c c W
    rw [decide_eq_true rfl] at h
    exact h
  have HAw := fun W h => awake_any W h
  have HI : Hid _ := arr_info c
  have HO : Hid _ := arr_one c
  have HS : Hid (c.arr.size = 23) := rfl
  have HIz : Hid _ := arr_info zeroC
  have HOz : Hid _ := arr_one zeroC
  have HSz2 : Hid (zeroC.arr.size = 23) := rfl
  have HAt : Hid (∀ i, i < 23 → (partsV (mkS (textC c)) 10).getD i ByteArray.empty = mkS (lineC c.nums c.zone i)) := hp2
  have HPl : Hid ((partsV (mkS (textC c)) 10).length = 24) := hp1
  clear hc hz ht htl hfits hzone hp1 hp2 HSz HLn
  generalize partsV (mkS (textC c)) 10 = PV at HPa HAt HPl
  generalize mkS (textC c) = TX at HX HPa
  generalize c.arr = cs at HMay HX HP1 HI HO HS hsame ⊢
  generalize zeroC.arr = zs at HP2 HIz HOz HSz2
  generalize lineC c.nums c.zone = LN at HNx HLast HLi HAt
  generalize someC c.nums c.zone = SM at HP1 HP2 HNx HLast HSt HS0
  go_enter Tryd.func6, Tryd.ntmps6
  go_wp2_with (first | (refine wpList_load_row rfl 23 (.tmp 2) rfl w.heap.size rfl 23 cs (0, 0) _ (heap_alloc_new w _) Tryd.underlying23 rfl HI.out ?_) | fail)
  generalize hW0 : w.alloc _ = W0
  have HC0 : Hid (CellsAt W0 w.heap.size cs) := by show CellsAt _ _ _; rw [← hW0]; exact heap_alloc_new w _
  have HB0 : Hid (Below w.heap.size w W0) := by show Below _ _ _; rw [← hW0]; exact (Below.refl _ _).alloc (Nat.le_refl _) _
  clear hW0
  refine (HMay _).mono ?_
  rintro e w1 ⟨rfl, hb⟩
  have HC1 : Hid (CellsAt w1 w.heap.size cs) := HC0.out.below hb
  have HB1 : Hid (Below w.heap.size w w1) := HB0.out.trans (hb.mono HB0.out.size)
  clear hb HMay HC0 HB0
  go_wp2_with (first | (refine wpList_load_row rfl 23 (.tmp 2) rfl w.heap.size rfl 23 cs (0, 0) _ HC1.out Tryd.underlying23 rfl HI.out ?_) | fail)
  refine (HX _ (HT.out.below HB1.out)).mono ?_
  rintro e w2 ⟨rfl, hb⟩
  have HC2 : Hid (CellsAt w2 w.heap.size cs) := HC1.out.below hb
  have HB2 : Hid (Below w.heap.size w w2) := HB1.out.trans (hb.mono HB1.out.size)
  clear hb HX HC1 HB1
  go_wp2_with fail
  refine (HPa _).mono ?_
  rintro e w3 ⟨pv, rfl, hr, hb⟩
  have HC3 : Hid (CellsAt w3 w.heap.size cs) := HC2.out.below hb
  have HB3 : Hid (Below w.heap.size w w3) := HB2.out.trans (hb.mono HB2.out.size)
  have hcap := hr.2.1.2
  rcases hr.2.2 with ⟨h0, _⟩ | ⟨_, b, off, cap, rfl, hbl, hcl⟩
  · omega
  have HCl : Hid (∀ i, i < 23 → w3.cell? ⟨b, off + i, none⟩ = some (.string (mkS (LN i)))) := fun i hi => by
    rw [hcl i (by omega), ← HAt.out i hi]
    have : i < PV.length := by rw [HPl.out]; omega
    simp [this]
  have hcap2 : 24 ≤ cap := by unfold roomy at hcap; exact hcap.1
  have hcap3 : (cap : Int) ≤ 9223372036854775807 := by unfold roomy maxLen at hcap; omega
  clear hb hr hcl HPa HC2 HB2 hcap
  have hM0 : IntKind.i64.wrap (M : Int) = (M : Int) := wrap_small (by omega) (by omega)
  go_wp2
  go_loopw [7, 39] (fun t q wr => ∃ i : Nat, i ≤ 23 ∧ q = .int .i64 i ∧ t = .string (mkS (SM ((rotC M).take i))) ∧ w3 = wr) (fun _ q _ => 23 - (intOf q).toNat)
  case atStart => exact ⟨0, Nat.zero_le _, rfl, by rw [HS0.out], rfl⟩
  case round =>
    obtain ⟨i, hi, rfl, rfl, rfl⟩ := hrel
    by_cases hlt : i < 23
    · obtain ⟨J, hJ⟩ : ∃ J : Nat, (i + M) % 23 = J := ⟨_, rfl⟩
      have hJ23 : J < 23 := by rw [← hJ]; exact Nat.mod_lt _ (by omega)
      have hmod : ((i : Int) + (M : Int)).tmod 23 = (J : Int) := by
        rw [← hJ, Int.tmod_eq_emod_of_nonneg (by omega)]
        omega
      have hc := HCl.out J hJ23
      have hN := HNx.out i hlt
      rw [hJ] at hN
      have HN : Hid _ := hN
      have hs1 := HSt.out i hi
      have hs2 := HLi.out J hJ23
      have h10 : (⟨#[10]⟩ : ByteArray).size = 1 := rfl
      clear hN hJ
      obtain ⟨S1, hS1⟩ : ∃ S1, mkS (SM ((rotC M).take (i + 1))) = S1 := ⟨_, rfl⟩
      rw [hS1] at HN
      have HS1 : Hid (mkS (SM ((rotC M).take (i + 1))) = S1) := hS1
      clear hS1
      generalize mkS (SM ((rotC M).take i)) = S0 at HN hs1 ⊢
      generalize mkS (LN J) = lj at HN hc hs2
      go_wp2
      go_roundw
      case rel => exact ⟨i + 1, by omega, by go_num, by rw [HS1.out, HN.out], by first | rfl | trivial⟩
      case measure => simp [intOf]; omega
    · obtain rfl : i = 23 := by omega
      have hcM := HCl.out M hM23
      have hs1 := HSt.out 23 hi
      rw [HS23.out] at hs1 ⊢
      have hs2 := HLi.out M hM23
      have h10 : (⟨#[10]⟩ : ByteArray).size = 1 := rfl
      have HLs : Hid (mkS (SM (rotC M)) ++ mkS (LN M) ++ ⟨#[10]⟩ = mkS (SM (rotC M ++ [M]))) := HLast.out
      clear HCl HNx HLast HSt HS0 HLi HS23 HAt
      generalize mkS (SM (rotC M)) = S0 at HP1 HLs hs1 ⊢
      generalize mkS (SM (rotC M ++ [M])) = S1 at HP2 HLs
      generalize mkS (LN M) = lm at hcM hs2 HLs
      go_wp2_with fail
      refine (HP1 _ (HT.out.below HB3.out).1).mono ?_
      rintro e w5 ⟨rfl, hb⟩
      have HC5 : Hid (CellsAt w5 w.heap.size cs) := HC3.out.below hb
      have HB5 : Hid (Below w.heap.size w w5) := HB3.out.trans (hb.mono HB3.out.size)
      have HF := fun o => And.intro (stored_below w5 cs o) (stored_facts2 HC5.out HB5.out (D := cs) (o := o))
      have HcM : Hid (∀ W, Below w5.heap.size w5 W → b < W.heap.size ∧ W.cell? ⟨b, off + M, none⟩ = some (.string lm)) := fun W h => by
        have hbw := hb.size
        have hbw2 := h.size
        exact ⟨by omega, (h.cell (p := ⟨b, off + M, none⟩) (by show b < _; omega)).trans ((hb.cell (p := ⟨b, off + M, none⟩) hbl).trans hcM)⟩
      clear hb hcM HC5 HB5 HC3 HB3 HP1
      go_wp2_with (first | (refine wpList_store_row rfl 23 (.tmp 9) (.tmp 58) rfl w5.heap.size cs rfl rfl 23 _ (heap_alloc_new w5 _) HI.out HS.out.symm HO.out ?_; obtain ⟨hf4, hf1, hf2, hf3⟩ := HF _; generalize World.setRow _ _ _ = W6 at hf1 hf2 hf3 hf4 ⊢; obtain ⟨hb6, hc6⟩ := HcM.out W6 hf4; have HF1 : Hid _ := hf1; have HF2 : Hid _ := hf2; have HF3 : Hid _ := hf3; clear hf1 hf2 hf3 hf4 HF) | fail)
      rw [HLs.out]
      refine (HP2 _ (HT.out.below HF3.out).1).mono ?_
      rintro e w7 ⟨rfl, hb⟩
      have HA7 : Hid (CellsAt w7 w.heap.size cs) := CellsAt.below HF1.out hb
      have HD7 : Hid (CellsAt w7 w5.heap.size cs) := CellsAt.below HF2.out hb
      have HB7 : Hid (Below w.heap.size w w7) := Below.trans HF3.out (hb.mono (Below.size HF3.out))
      have HF := fun o => stored_facts3 HA7.out HD7.out HB7.out (D := zs) (o := o)
      clear hb HA7 HD7 HB7 HF1 HF2 HF3 HP2 HcM hc6 hb6
      go_wp2_with (first | (refine wpList_store_row rfl 23 (.tmp 12) (.tmp 70) rfl w7.heap.size zs rfl rfl 23 _ (heap_alloc_new w7 _) HIz.out HSz2.out.symm HOz.out ?_; obtain ⟨hf1, hf2, hf3, hf4⟩ := HF _; generalize World.setRow _ _ _ = W8 at hf1 hf2 hf3 hf4 ⊢; have HF1 : Hid _ := hf1; have HF2 : Hid _ := hf2; have HF4 : Hid _ := hf4; clear hf1 hf2 hf3 hf4 HF) | (refine wpList_load_want rfl 23 (.tmp 9) rfl w5.heap.size rfl 23 cs (0, 0) _ HF2.out Tryd.underlying23 rfl HI.out ?_) | (refine wpList_load_want rfl 23 (.tmp 2) rfl w.heap.size rfl 23 cs (0, 0) _ HF1.out Tryd.underlying23 rfl HI.out ?_) | fail)
      refine (HAw _ (HT.out.below HF4.out)).mono ?_
      rintro e w9 ⟨rfl, hb⟩
      have HB9 : Hid (Below w.heap.size w w9) := Below.trans HF4.out (hb.mono (Below.size HF4.out))
      clear hb HAw
      go_wp2
      go_ret
      exact ⟨rfl, HB9.out⟩

theorem walk_ConfigTwice (c : Cfg) (hz : c.zone.size ≤ 9223372036854775807) (a : Int) (_ : -9223372036854775808 ≤ a ∧ a ≤ 9223372036854775807) (w : World) (ht : Tabs w) :
    Calls Tryd.prog 6 #[.agg c.arr, .int .i64 a] w fun e w' => e = .returned (.bool true) ∧ Below w.heap.size w w' := by
  cases hc : mayC c with
  | false => exact twice_not c hz hc a w ht
  | true => exact twice_may c hc a w ht

theorem reads_ConfigTwice (os : Os) {H : Type} (enc : TypeId × Value → H) : ∃ places, DataW.whole enc Tryd.prog ((laidWorld os).forCall (fun _ _ => 0) ⟨#[], #[.agg #[.int .i64 0, .int .i64 0, .int .i64 0, .int .i64 0, .int .i64 0, .int .i64 0, .int .i64 0, .int .i64 0, .int .i64 0, .int .i64 0, .int .i64 0, .int .i64 0, .int .i64 0, .int .i64 0, .int .i64 0, .bool false, .int .i64 0, .int .i64 0, .int .i64 0, .int .i64 0, .int .i64 0, .string ByteArray.empty, .bool false], .int .i64 0], []⟩).memory Tryd.f6.params.toList Rows.configTwiceSpec.vars false (#[.agg #[.int .i64 0, .int .i64 0, .int .i64 0, .int .i64 0, .int .i64 0, .int .i64 0, .int .i64 0, .int .i64 0, .int .i64 0, .int .i64 0, .int .i64 0, .int .i64 0, .int .i64 0, .int .i64 0, .int .i64 0, .bool false, .int .i64 0, .int .i64 0, .int .i64 0, .int .i64 0, .int .i64 0, .string ByteArray.empty, .bool false], .int .i64 0] : Array Value).toList 8 = some ([.agg [.lit (.int .i64 0), .lit (.int .i64 0), .lit (.int .i64 0), .lit (.int .i64 0), .lit (.int .i64 0), .lit (.int .i64 0), .lit (.int .i64 0), .lit (.int .i64 0), .lit (.int .i64 0), .lit (.int .i64 0), .lit (.int .i64 0), .lit (.int .i64 0), .lit (.int .i64 0), .lit (.int .i64 0), .lit (.int .i64 0), .lit (.bool false), .lit (.int .i64 0), .lit (.int .i64 0), .lit (.int .i64 0), .lit (.int .i64 0), .lit (.int .i64 0), .lit (.string []), .lit (.bool false)], .lit (.int .i64 0)], [], places) :=
  ⟨[], by kernel_rfl⟩

set_option maxRecDepth 100000 in
theorem lifted_ConfigTwice (os : Os) (started : os.Started) (H : Type) (enc : TypeId × Value → H) (F : Stop.Interp) :
    ReturnsInHanded {} Tryd.checked os 6 .any ((OpenSpec.ofChange Rows.configTwiceSpec).preRow enc Tryd.prog Tryd.f6 Rows.configTwiceRow.domain false Rows.configTwiceRow.laid) (((OpenSpec.ofChange Rows.configTwiceSpec).at F).post enc Tryd.prog Tryd.f6 false true false false) := by
  obtain ⟨places, hx⟩ := reads_ConfigTwice os enc
  refine returnsInHanded_of_row (C := Tryd.checked) (s := OpenSpec.ofChange Rows.configTwiceSpec) own started (by kernel_rfl) Tryd.func6
    (witness_row_at (enc := enc) (C := Tryd.checked) false (laidWorld os) #[.agg #[.int .i64 0, .int .i64 0, .int .i64 0, .int .i64 0, .int .i64 0, .int .i64 0, .int .i64 0, .int .i64 0, .int .i64 0, .int .i64 0, .int .i64 0, .int .i64 0, .int .i64 0, .int .i64 0, .int .i64 0, .bool false, .int .i64 0, .int .i64 0, .int .i64 0, .int .i64 0, .int .i64 0, .string ByteArray.empty, .bool false], .int .i64 0] rfl (by kernel_rfl) (by kernel_rfl) (by kernel_rfl)
      (OpenSpec.preRow_of_cond 8 hx (by kernel_rfl) (fun k hk => by cases hk) (by kernel_rfl) (laid_met os _))) ?_
  intro W base args ds gs before hval0 hW _ _ hsz0 hL _ _
  have htab := table hL
  have hval : ∀ (j : Nat) t v, Tryd.f6.params[j]? = some t → args[j]? = some v → Value.okWide Tryd.prog W .any base t v := hval0
  have hW' := hW
  obtain ⟨p, q, hA0, hV, rfl, hfz, hnd⟩ := hW
  have hA : DataW.TrodAll enc Tryd.prog W 0 (fun _ => true) true Tryd.f6.params.toList args.toList ds p := hA0
  rw [Tryd.params6] at hA hval
  obtain ⟨v0, vs0, d0, ds0, p0, q0, hargs, rfl, rfl, h0, r0⟩ := trodAll_cons hA
  obtain ⟨v1, vs1, d1, ds1, p1, q1, rfl, rfl, rfl, h1, r1⟩ := trodAll_cons r0
  obtain ⟨rfl, rfl, rfl⟩ := trodAll_nil r1
  obtain rfl : args = #[v0, v1] := by cases args; simp_all
  obtain ⟨rfl, rfl⟩ := trodVars_none hV
  have k0 := h0
  have lt0 : ∀ x ∈ p0, x.block < W.heap.size := by obtain ⟨m, hm⟩ := k0; exact DataW.trod_lt m _ _ _ hm
  obtain ⟨z0, rfl, w0⟩ := open_cfg (hval 0 23 v0 rfl rfl) h0
  obtain ⟨a1, rfl, rfl, rfl, w1⟩ := open_int Tryd.underlying3 (hval 1 3 v1 rfl rfl) h1
  clear hA0 hval0
  refine (walk_ConfigTwice z0 w0 a1 (bounds_i64 w1) W htab).mono fun e W' ⟨he, bel⟩ => ?_
  subst he
  exact ⟨_, rfl, _, _, _, [], _, [], hW', trodAll_mk1 (shut_bool Tryd.underlying4 _), (trodAll_cons_mk (Below.trod laidOut (by kernel_rfl) (of_decide_eq_true (by kernel_rfl)) k0 bel lt0) (trodAll_cons_mk (shut_int Tryd.underlying3 w1) trodAll_mk0)), rfl, bel.frame _, fun h => by cases h⟩

theorem said_ConfigTwice : Rows.ConfigTwiceSaid :=
  OpenClaim.holds_of_cond 6 Tryd.f6 rfl rfl rfl rfl rfl rfl rfl ⟨rfl, rfl, rfl, rfl, rfl⟩ rfl rfl rfl rfl rfl (by kernel_rfl) Tryd.func6 (by kernel_rfl)
    (of_decide_eq_true (by kernel_rfl)) (by unfold Func.isWrapper; first | (rw [if_pos (by decide +kernel)]; kernel_rfl) | (rw [if_neg (by decide +kernel)]; exact ⟨rfl, rfl⟩))
    (fun os started H enc _ F => by rw [OpenClaim.pre_eq_preRow]; exact lifted_ConfigTwice os started H enc F)

theorem plain_ConfigTwice (f : FuncId) (fn : Func) (hf : Tryd.pinned.checked.prog.funcNamed Rows.configTwiceRow.func = some f) (hfn : Tryd.pinned.checked.prog.funcs[f]? = some fn) :
    false = Tryd.pinned.checked.prog.looks [] ∧ ∀ (j : Nat) t, fn.params[j]? = some t → Tryd.pinned.checked.prog.wantsStandIn t = false := by
  obtain rfl : f = 6 := Option.some.inj ((show Tryd.prog.funcNamed Rows.configTwiceRow.func = some 6 by kernel_rfl).symm.trans hf) |>.symm
  obtain rfl : fn = Tryd.f6 := (Option.some.inj (Tryd.func6.symm.trans hfn)).symm
  refine ⟨by kernel_rfl, fun j t ht => ?_⟩
  rw [Tryd.params6] at ht
  have hm := Array.mem_of_getElem? ht
  simp only [List.mem_toArray, List.mem_cons, List.not_mem_nil, or_false] at hm
  rcases hm with rfl | rfl
  · exact (show Tryd.prog.wantsStandIn 23 = false by kernel_rfl)
  · exact (show Tryd.prog.wantsStandIn 3 = false by kernel_rfl)

/-- The statement. -/
theorem configTwice_holds : Rows.ConfigTwiceCardSaid :=
  Claim7.holds_tied_plain_at .later [] _ _ _ _ said_ConfigTwice (fun _ h => by cases h) (by kernel_rfl) (fun _ h => by cases h) configTwice_row_tie rfl ⟨rfl, rfl⟩ (by kernel_rfl) rfl plain_ConfigTwice (by kernel_rfl)
#print axioms configTwice_holds

end Go.Proofs.YtmhbfcjlbhighaaDoor
