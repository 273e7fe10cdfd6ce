/-
  ConfigAlone, for every configuration and every number: one line of its text, read alone, changes that one field, and the others are by themselves. One that may not be is not asked. No condition but that the two tables are as the program's text lays them (the card).
-/
import Derived.Test.YtmhbfcjlbhighabDoorConfFrame
import Derived.Test.YtmhbfcjlbhighabDoorConfEq
import Derived.Test.YtmhbfcjlbhighabDoorConfLaw
import Derived.Test.YtmhbfcjlbhighabDoorConfAlone
import Derived.Test.YtmhbfcjlbhighabDoorRefText
namespace Go.Proofs.YtmhbfcjlbhighabDoor
open Go.ChangeShapes Go.WideShapes Go.ChangeAt Go.RowKit

theorem u23_mod (a : Int) : ∃ M : Nat, M < 23 ∧ (IntKind.u64.wrap a).tmod 23 = (M : Int) := by
  have h0 : 0 ≤ IntKind.u64.wrap a := by simp [IntKind.wrap, IntKind.signed, IntKind.bits]; omega
  refine ⟨((IntKind.u64.wrap a) % 23).toNat, by omega, ?_⟩
  rw [Int.tmod_eq_emod_of_nonneg h0]
  omega

set_option maxRecDepth 100000 in
set_option maxHeartbeats 2000000 in
theorem alone_not (c : Cfg) (hz : c.zone.size ≤ 9223372036854775807) (hc : mayC c = false) (a : Int) (w : World) (ht : Tabs w) :
    Calls Tryd.prog 3 #[.agg c.arr, .int .i64 a] w fun e w' => e = .returned (.bool true) ∧ Below w.heap.size w w' := by
  have HT : Hid (Tabs w) := ht
  have HMay := fun W => rMay_any c W hz
  rw [hc, val_arr] at HMay
  have HI : Hid _ := arr_info c
  clear hc hz ht
  generalize c.arr = cs at HMay HI ⊢
  go_enter Tryd.func3, Tryd.ntmps3
  go_wp2_with (first | (refine wpList_load_row rfl 23 (.tmp 2) rfl w.heap.size rfl 23 cs (0, 0) _ (heap_alloc_new w _) Tryd.underlying23 rfl HI.out ?_) | fail)
  refine (HMay _).mono ?_
  rintro e w1 ⟨rfl, hb⟩
  have HB1 : Hid (Below w.heap.size w w1) := ((Below.refl _ w).alloc (Nat.le_refl _) _).trans (hb.mono (by simp))
  clear hb HMay
  go_wp2_with fail
  refine (awake_any _ (HT.out.below HB1.out)).mono ?_
  rintro e w2 ⟨rfl, hb⟩
  have HB2 : Hid (Below w.heap.size w w2) := HB1.out.trans (hb.mono HB1.out.size)
  clear hb
  go_wp2
  go_ret
  exact ⟨rfl, HB2.out⟩

/-- A text's parts: where they lie. -/
theorem parts_lie {w3 : World} {PV : List ByteArray} {pv : Value} (hl : PV.length = 24) (hr : IsRow 1 w3 pv 24 (PV.map Value.string)) :
    ∃ b off cap, pv = .slice (some ⟨b, off, none⟩) 24 cap ∧ b < w3.heap.size ∧ ∀ i, i < 24 → w3.cell? ⟨b, off + i, none⟩ = some (.string (PV.getD i ByteArray.empty)) := by
  rcases hr.2.2 with ⟨h0, _⟩ | ⟨_, b, off, cap, rfl, hbl, hcl⟩
  · omega
  · refine ⟨b, off, cap, rfl, hbl, fun i hi => ?_⟩
    rw [hcl i (by omega)]
    have : i < PV.length := by omega
    simp [this]
theorem text_parts {c : Cfg} (h : mayC c = true) (W : World) : Calls Tryd.prog 6 #[.string (mkS (textC c)), .int .u8 10] W fun e w' => ∃ v', e = .returned v' ∧ IsRow 1 w' v' 24 ((partsV (mkS (textC c)) 10).map Value.string) ∧ Below W.heap.size W w' := by
  have htl : (mkS (textC c)).size ≤ 1000000 := by
    rw [mkS_data', textC_may h]
    have := someC_length (may_parts h).2 (List.range 23) (fun i hi => by simpa using hi) (fun i hi => (may_parts h).1 i (by simpa using hi))
    simp at this
    omega
  have := rParts_any (mkS (textC c)) 10 W htl
  rw [(parts_at h).1] at this
  exact this
theorem may_zone_le {c : Cfg} (h : mayC c = true) : c.zone.size ≤ 9223372036854775807 := by
  rcases (may_parts h).2 with h | h
  · omega
  · have := (clean_name h).2; omega

set_option maxRecDepth 100000 in
set_option maxHeartbeats 8000000 in
theorem alone_walk (c : Cfg) (hc : mayC c = true) (a : Int) (w : World) (ht : Tabs w) :
    Calls Tryd.prog 3 #[.agg c.arr, .int .i64 a] w fun e w' => e = .returned (.bool true) ∧ Below w.heap.size w w' := by
  have HT : Hid (Tabs w) := ht
  obtain ⟨M, hM23, hM⟩ := u23_mod a
  have ha := alone_may hc M hM23
  have HMay := fun W => rMay_any c W (may_zone_le hc)
  rw [hc, val_arr] at HMay
  have HX1 := fun W h => rText_any c W h (may_zone_le hc)
  have HX2 := fun W h => rText_any (aloneC c M) W h (may_zone_le ha)
  have HX3 := fun W h => rText_any defC W h (may_zone_le def_may')
  have HP1 := fun W => text_parts hc W
  have HP2 := fun W => text_parts ha W
  have HP3 := fun W => text_parts def_may' W
  have HPr := fun W h => parse_any (mkS (lineC c.nums c.zone M)) W h (by rw [mkS_data']; have := line_short M hM23 ((may_parts hc).1 M hM23) (may_parts hc).2; omega)
  rw [parse_alone hc M hM23] at HPr
  simp only at HPr
  have HDf := fun W h => default_any W h
  have HAw := fun W h => awake_any W h
  have HL1 : Hid ((partsV (mkS (textC c)) 10).getD M ByteArray.empty = mkS (lineC c.nums c.zone M)) := (parts_at hc).2 M hM23
  obtain ⟨hs1, hs2⟩ := alone_parts hc M hM23
  have HL2 : Hid ((partsV (mkS (textC (aloneC c M))) 10).getD M ByteArray.empty = mkS (lineC c.nums c.zone M)) := hs1
  have HL3 : Hid (∀ i, i < 24 → i ≠ M → (partsV (mkS (textC (aloneC c M))) 10).getD i ByteArray.empty = (partsV (mkS (textC defC)) 10).getD i ByteArray.empty) := hs2
  have HN1 : Hid ((partsV (mkS (textC c)) 10).length = 24) := (parts_at hc).1
  have HN2 : Hid ((partsV (mkS (textC (aloneC c M))) 10).length = 24) := (parts_at ha).1
  have HN3 : Hid ((partsV (mkS (textC defC)) 10).length = 24) := (parts_at def_may').1
  have HI : Hid _ := arr_info c
  have HIa : Hid _ := arr_info (aloneC c M)
  have HOa : Hid _ := arr_one (aloneC c M)
  have HSa : Hid ((aloneC c M).arr.size = 23) := rfl
  clear hc ht ha hs1 hs2
  generalize partsV (mkS (textC c)) 10 = P1 at HP1 HL1 HN1
  generalize partsV (mkS (textC (aloneC c M))) 10 = P2 at HP2 HL2 HL3 HN2
  generalize partsV (mkS (textC defC)) 10 = P3 at HP3 HL3 HN3
  generalize mkS (textC c) = T1 at HX1 HP1
  generalize mkS (textC (aloneC c M)) = T2 at HX2 HP2
  generalize mkS (textC defC) = T3 at HX3 HP3
  generalize mkS (lineC c.nums c.zone M) = LM at HPr HL1 HL2
  generalize c.arr = cs at HMay HX1 HI ⊢
  generalize (aloneC c M).arr = aa at HPr HX2 HIa HOa HSa
  generalize defC.arr = ds at HDf HX3
  go_enter Tryd.func3, Tryd.ntmps3
  go_wp2_with (first | (refine wpList_load_row rfl 23 (.tmp 2) rfl w.heap.size rfl 23 cs (0, 0) _ (heap_alloc_new w _) Tryd.underlying23 rfl HI.out ?_) | fail)
  generalize hW0 : w.alloc _ = W0
  have HC0 : Hid (CellsAt W0 w.heap.size cs) := by show CellsAt _ _ _; rw [← hW0]; exact heap_alloc_new w _
  have HB0 : Hid (Below w.heap.size w W0) := by show Below _ _ _; rw [← hW0]; exact (Below.refl _ _).alloc (Nat.le_refl _) _
  clear hW0
  refine (HMay _).mono ?_
  rintro e w1 ⟨rfl, hb⟩
  have HC1 : Hid (CellsAt w1 w.heap.size cs) := HC0.out.below hb
  have HB1 : Hid (Below w.heap.size w w1) := HB0.out.trans (hb.mono HB0.out.size)
  clear hb HMay HC0 HB0
  go_wp2_with (first | (refine wpList_load_row rfl 23 (.tmp 2) rfl w.heap.size rfl 23 cs (0, 0) _ HC1.out Tryd.underlying23 rfl HI.out ?_) | fail)
  refine (HX1 _ (HT.out.below HB1.out)).mono ?_
  rintro e w2 ⟨rfl, hb⟩
  have HB2 : Hid (Below w.heap.size w w2) := HB1.out.trans (hb.mono HB1.out.size)
  clear hb HX1 HC1 HB1
  go_wp2_with fail
  refine (HP1 _).mono ?_
  rintro e w3 ⟨pv, rfl, hr, hb⟩
  have HB3 : Hid (Below w.heap.size w w3) := HB2.out.trans (hb.mono HB2.out.size)
  obtain ⟨b, off, cap, rfl, hbl, hcl⟩ := parts_lie HN1.out hr
  have hlM := hcl M (by omega)
  rw [HL1.out] at hlM
  have HLM : Hid (w3.cell? ⟨b, off + M, none⟩ = some (.string LM)) := hlM
  have HbL : Hid (b < w3.heap.size) := hbl
  have hM0 : IntKind.i64.wrap (M : Int) = (M : Int) := wrap_small (by omega) (by omega)
  clear hb hr hcl HP1 HB2
  go_wp2_with fail
  refine (HPr _ (HT.out.below HB3.out).1).mono ?_
  rintro e w4 ⟨rfl, hb⟩
  have HF := fun o => And.intro (below_setRow ((Below.refl w4.heap.size w4).alloc (Nat.le_refl _) (.cells o 23 (0, 0))) (Nat.le_refl _) aa) (stored_facts (HB3.out.trans (hb.mono HB3.out.size)) (D := aa) (o := o))
  have HB4 : Hid (Below w3.heap.size w3 w4) := hb
  clear hb HPr hlM hbl
  go_wp2_with (first | (refine wpList_store_row rfl 23 (.tmp 7) (.tmp 37) rfl w4.heap.size aa rfl rfl 23 _ (heap_alloc_new w4 _) HIa.out HSa.out.symm HOa.out ?_; obtain ⟨hf1, hf2, hf3⟩ := HF _; generalize World.setRow _ _ _ = W5 at hf1 hf2 hf3 ⊢; have HF1 : Hid _ := hf1; have HF2 : Hid _ := hf2; have HF3 : Hid _ := hf3; clear hf1 hf2 hf3 HF) | (refine wpList_load_row rfl 23 (.tmp 7) rfl w4.heap.size rfl 23 aa (0, 0) _ HF2.out Tryd.underlying23 rfl HIa.out ?_) | fail)
  have HB5 : Hid (Below w3.heap.size w3 W5) := Below.trans HB4.out (Below.mono HF1.out HB4.out.size)
  have HG5 : Hid (Below w.heap.size w W5) := HF3.out
  refine (HX2 _ (HT.out.below HG5.out)).mono ?_
  rintro e w6 ⟨rfl, hb⟩
  have HB6 : Hid (Below w3.heap.size w3 w6) := HB5.out.trans (hb.mono HB5.out.size)
  have HG6 : Hid (Below w.heap.size w w6) := HG5.out.trans (hb.mono HG5.out.size)
  clear hb HX2 HF1 HF2 HF3 HB5 HG5 HB4
  go_wp2_with fail
  refine (HP2 _).mono ?_
  rintro e w7 ⟨pv2, rfl, hr, hb⟩
  obtain ⟨ob, oo, oc, rfl, hob, hocl⟩ := parts_lie HN2.out hr
  have HOC : Hid (∀ i, i < 24 → w7.cell? ⟨ob, oo + i, none⟩ = some (.string (P2.getD i ByteArray.empty))) := hocl
  have HOb : Hid (ob < w7.heap.size) := hob
  have HB7 : Hid (Below w3.heap.size w3 w7) := HB6.out.trans (hb.mono HB6.out.size)
  have HG7 : Hid (Below w.heap.size w w7) := HG6.out.trans (hb.mono HG6.out.size)
  clear hb hr hocl hob HP2 HB6 HG6
  go_wp2_with fail
  refine (HDf _ (HT.out.below HG7.out).1).mono ?_
  rintro e w8 ⟨rfl, hb⟩
  have HH8 : Hid (Below w7.heap.size w7 w8) := hb
  have HG8 : Hid (Below w.heap.size w w8) := HG7.out.trans (hb.mono HG7.out.size)
  clear hb HDf
  go_wp2_with fail
  refine (HX3 _ (HT.out.below HG8.out)).mono ?_
  rintro e w9 ⟨rfl, hb⟩
  have HH9 : Hid (Below w7.heap.size w7 w9) := HH8.out.trans (hb.mono HH8.out.size)
  have HG9 : Hid (Below w.heap.size w w9) := HG8.out.trans (hb.mono HG8.out.size)
  clear hb HX3 HH8 HG8
  go_wp2_with fail
  refine (HP3 _).mono ?_
  rintro e w10 ⟨pv3, rfl, hr, hb⟩
  obtain ⟨nb, no, nc, rfl, hnb, hncl⟩ := parts_lie HN3.out hr
  have HNC : Hid (∀ i, i < 24 → w10.cell? ⟨nb, no + i, none⟩ = some (.string (P3.getD i ByteArray.empty))) := hncl
  have HNb : Hid (nb < w10.heap.size) := hnb
  have HH10 : Hid (Below w7.heap.size w7 w10) := HH9.out.trans (hb.mono HH9.out.size)
  have HG10 : Hid (Below w.heap.size w w10) := HG9.out.trans (hb.mono HG9.out.size)
  have HB10 : Hid (Below w3.heap.size w3 w10) := HB7.out.trans (HH10.out.mono HB7.out.size)
  clear hb hr hncl hnb HP3 HH9 HG9
  go_wp2
  go_loopw [64] (fun q wr => ∃ i : Nat, i ≤ 24 ∧ q = .int .i64 i ∧ Below w10.heap.size w10 wr) (fun q _ => 24 - (intOf q).toNat)
  case atStart => exact ⟨0, Nat.zero_le _, rfl, Below.refl _ _⟩
  case round =>
    obtain ⟨i, hi, rfl, hb⟩ := hrel
    have HB : Hid (Below w10.heap.size w10 wr) := hb
    clear hb
    by_cases hlt : i < 24
    · have hobr : ob < wr.heap.size := by have := HOb.out; have := HH10.out.size; have := HB.out.size; omega
      by_cases him : i = M
      · subst him
        have hii : ((i : Int) == (i : Int)) = true := by rw [beq_iff_eq]
        have hin : ((i : Int) != (i : Int)) = false := by simp
        obtain ⟨x, hx⟩ : ∃ x, LM = x := ⟨_, rfl⟩
        have hox : ∀ W, Below wr.heap.size wr W → W.cell? ⟨ob, oo + i, none⟩ = some (.string x) := fun W h => by
          have h0 := HOb.out
          have h1 := HH10.out.size
          have h2 := HB.out.size
          rw [h.cell (p := ⟨ob, oo + i, none⟩) hobr, HB.out.cell (p := ⟨ob, oo + i, none⟩) (by show ob < _; omega), HH10.out.cell (p := ⟨ob, oo + i, none⟩) h0, HOC.out i hlt, HL2.out, hx]
        have hlx : ∀ W, Below wr.heap.size wr W → W.cell? ⟨b, off + i, none⟩ = some (.string x) := fun W h => by
          have h0 := HbL.out
          have h1 := HB10.out.size
          have h2 := HB.out.size
          rw [h.cell (p := ⟨b, off + i, none⟩) (by show b < _; omega), HB.out.cell (p := ⟨b, off + i, none⟩) (by show b < _; omega), HB10.out.cell (p := ⟨b, off + i, none⟩) h0, HLM.out, hx]
        have hxx : (x.toList == x.toList) = true := by simp
        clear hx
        go_wp2
        refine wp_region_rel4 (fun W W' => Below W.heap.size W W') (fun jj vv _ => vv = ([.int .i64 i, .int .i64 i, .bool true, .bool true, .slice (some ⟨ob, oo, none⟩) 24 oc, .int .i64 i, .pointer (some ⟨ob, oo + i, none⟩), .string x, .slice (some ⟨b, off, none⟩) 24 cap, .int .i64 i, .pointer (some ⟨b, off + i, none⟩), .string x, .bool false, .bool false, .bool false, .int .i64 i, .int .i64 i, .bool false, .bool false, undef, undef, undef, undef, undef, undef, undef, undef, undef, .bool false, .bool false] : List Value).getD jj undef) (by kernel_rfl) (by kernel_rfl) (Below.refl _ _).drew (fun W => Below.refl _ _) (fun _ _ _ h1 h2 => h1.trans (h2.mono h1.size)) (fun _ _ _ _ h _ => h) ?_ ?_
        · simp only [stepsAll3]
          refine ⟨fun a W hF hE hd => ?_, fun a W hF hE hd => ?_, fun a W hF hE hd => ?_, fun a W hF hE hd => ?_, fun a W hF hE hd => ?_, fun a W hF hE hd => ?_, fun a W hF hE hd => ?_, fun a W hF hE hd => ?_, fun a W hF hE hd => ?_, fun a W hF hE hd => ?_, fun a W hF hE hd => ?_, fun a W hF hE hd => ?_, fun a W hF hE hd => ?_, fun a W hF hE hd => ?_, fun a W hF hE hd => ?_, fun a W hF hE hd => ?_, fun a W hF hE hd => ?_, fun a W hF hE hd => ?_, fun a W hF hE hd => ?_, fun a W hF hE hd => ?_, fun a W hF hE hd => ?_, fun a W hF hE hd => ?_, fun a W hF hE hd => ?_, fun a W hF hE hd => ?_, fun a W hF hE hd => ?_, fun a W hF hE hd => ?_, fun a W hF hE hd => ?_, fun a W hF hE hd => ?_, fun a W hF hE hd => ?_, fun a W hF hE hd => ?_, trivial⟩
          all_goals unfold StepAt
          · have t12 : a.tmps.getD 12 undef = .int .i64 i := hF.at 12 (by kernel_rfl)
            rw [Array.getD_eq_getD_getElem?] at t12
            refine .inl ⟨rfl, ?_⟩
            go_simp
            exact ⟨Below.refl _ _, rfl⟩
          · have t6 : a.tmps.getD 6 undef = .int .i64 i := hF.at 6 (by kernel_rfl)
            rw [Array.getD_eq_getD_getElem?] at t6
            refine .inl ⟨rfl, ?_⟩
            go_simp
            exact ⟨Below.refl _ _, rfl⟩
          · have t67 : a.tmps.getD 67 undef = .int .i64 i := hd { on := 0, ground := .data } (by simp) rfl
            rw [Array.getD_eq_getD_getElem?] at t67
            have t68 : a.tmps.getD 68 undef = .int .i64 i := hd { on := 1, ground := .data } (by simp) rfl
            rw [Array.getD_eq_getD_getElem?] at t68
            refine .inl ⟨rfl, ?_⟩
            go_simp
            exact ⟨Below.refl _ _, rfl⟩
          · have t69 : a.tmps.getD 69 undef = .bool true := hd { on := 2, ground := .data } (by simp) rfl
            rw [Array.getD_eq_getD_getElem?] at t69
            refine .inl ⟨rfl, ?_⟩
            go_simp
            exact ⟨Below.refl _ _, rfl⟩
          · have t10 : a.tmps.getD 10 undef = .slice (some ⟨ob, oo, none⟩) 24 oc := hF.at 10 (by kernel_rfl)
            rw [Array.getD_eq_getD_getElem?] at t10
            have g70 : a.eval (.tmp 70) = .bool true := hd { on := 3, ground := .guard } (by simp) rfl
            refine .inl ⟨(by simp only [Region.wanted]; rw [yielded_of (d := 70) (by rfl) g70]; rfl), ?_⟩
            clear g70
            go_simp
            exact ⟨Below.refl _ _, rfl⟩
          · have t12 : a.tmps.getD 12 undef = .int .i64 i := hF.at 12 (by kernel_rfl)
            rw [Array.getD_eq_getD_getElem?] at t12
            have g70 : a.eval (.tmp 70) = .bool true := hd { on := 3, ground := .guard } (by simp) rfl
            refine .inl ⟨(by simp only [Region.wanted]; rw [yielded_of (d := 70) (by rfl) g70]; rfl), ?_⟩
            clear g70
            go_simp
            exact ⟨Below.refl _ _, rfl⟩
          · have t71 : a.tmps.getD 71 undef = .slice (some ⟨ob, oo, none⟩) 24 oc := hd { on := 4, ground := .data } (by simp) rfl
            rw [Array.getD_eq_getD_getElem?] at t71
            have t72 : a.tmps.getD 72 undef = .int .i64 i := hd { on := 5, ground := .data } (by simp) rfl
            rw [Array.getD_eq_getD_getElem?] at t72
            have g70 : a.eval (.tmp 70) = .bool true := hd { on := 3, ground := .guard } (by simp) rfl
            refine .inl ⟨(by simp only [Region.wanted]; rw [yielded_of (d := 70) (by rfl) g70]; rfl), ?_⟩
            clear g70
            go_simp
            exact ⟨Below.refl _ _, rfl⟩
          · have t73 : a.tmps.getD 73 undef = .pointer (some ⟨ob, oo + i, none⟩) := hd { on := 6, ground := .data } (by simp) rfl
            rw [Array.getD_eq_getD_getElem?] at t73
            have g70 : a.eval (.tmp 70) = .bool true := hd { on := 3, ground := .guard } (by simp) rfl
            refine .inl ⟨(by simp only [Region.wanted]; rw [yielded_of (d := 70) (by rfl) g70]; rfl), ?_⟩
            clear g70
            have hcx := hox W hE
            go_simp
            exact ⟨Below.refl _ _, rfl⟩
          · have t5 : a.tmps.getD 5 undef = .slice (some ⟨b, off, none⟩) 24 cap := hF.at 5 (by kernel_rfl)
            rw [Array.getD_eq_getD_getElem?] at t5
            have g70 : a.eval (.tmp 70) = .bool true := hd { on := 3, ground := .guard } (by simp) rfl
            refine .inl ⟨(by simp only [Region.wanted]; rw [yielded_of (d := 70) (by rfl) g70]; rfl), ?_⟩
            clear g70
            go_simp
            exact ⟨Below.refl _ _, rfl⟩
          · have t6 : a.tmps.getD 6 undef = .int .i64 i := hF.at 6 (by kernel_rfl)
            rw [Array.getD_eq_getD_getElem?] at t6
            have g70 : a.eval (.tmp 70) = .bool true := hd { on := 3, ground := .guard } (by simp) rfl
            refine .inl ⟨(by simp only [Region.wanted]; rw [yielded_of (d := 70) (by rfl) g70]; rfl), ?_⟩
            clear g70
            go_simp
            exact ⟨Below.refl _ _, rfl⟩
          · have t75 : a.tmps.getD 75 undef = .slice (some ⟨b, off, none⟩) 24 cap := hd { on := 8, ground := .data } (by simp) rfl
            rw [Array.getD_eq_getD_getElem?] at t75
            have t76 : a.tmps.getD 76 undef = .int .i64 i := hd { on := 9, ground := .data } (by simp) rfl
            rw [Array.getD_eq_getD_getElem?] at t76
            have g70 : a.eval (.tmp 70) = .bool true := hd { on := 3, ground := .guard } (by simp) rfl
            refine .inl ⟨(by simp only [Region.wanted]; rw [yielded_of (d := 70) (by rfl) g70]; rfl), ?_⟩
            clear g70
            go_simp
            exact ⟨Below.refl _ _, rfl⟩
          · have t77 : a.tmps.getD 77 undef = .pointer (some ⟨b, off + i, none⟩) := hd { on := 10, ground := .data } (by simp) rfl
            rw [Array.getD_eq_getD_getElem?] at t77
            have g70 : a.eval (.tmp 70) = .bool true := hd { on := 3, ground := .guard } (by simp) rfl
            refine .inl ⟨(by simp only [Region.wanted]; rw [yielded_of (d := 70) (by rfl) g70]; rfl), ?_⟩
            clear g70
            have hcx := hlx W hE
            go_simp
            exact ⟨Below.refl _ _, rfl⟩
          · have t74 : a.tmps.getD 74 undef = .string x := hd { on := 7, ground := .data } (by simp) rfl
            rw [Array.getD_eq_getD_getElem?] at t74
            have t78 : a.tmps.getD 78 undef = .string x := hd { on := 11, ground := .data } (by simp) rfl
            rw [Array.getD_eq_getD_getElem?] at t78
            have g70 : a.eval (.tmp 70) = .bool true := hd { on := 3, ground := .guard } (by simp) rfl
            refine .inl ⟨(by simp only [Region.wanted]; rw [yielded_of (d := 70) (by rfl) g70]; rfl), ?_⟩
            clear g70
            go_simp
            exact ⟨Below.refl _ _, rfl⟩
          · have t70 : a.tmps.getD 70 undef = .bool true := hd { on := 3, ground := .data } (by simp) rfl
            rw [Array.getD_eq_getD_getElem?] at t70
            have t79 : a.tmps.getD 79 undef = .bool false := hd { on := 12, ground := .data } (by simp) rfl
            rw [Array.getD_eq_getD_getElem?] at t79
            refine .inl ⟨rfl, ?_⟩
            go_simp
            exact ⟨Below.refl _ _, rfl⟩
          · have t80 : a.tmps.getD 80 undef = .bool false := hd { on := 13, ground := .data } (by simp) rfl
            rw [Array.getD_eq_getD_getElem?] at t80
            refine .inl ⟨rfl, ?_⟩
            go_simp
            exact ⟨Below.refl _ _, rfl⟩
          · have t12 : a.tmps.getD 12 undef = .int .i64 i := hF.at 12 (by kernel_rfl)
            rw [Array.getD_eq_getD_getElem?] at t12
            have g81 : a.eval (.tmp 81) = .bool false := hd { on := 14, ground := .guard } (by simp) rfl
            refine .inl ⟨(by simp only [Region.wanted]; rw [yielded_of (d := 81) (by rfl) g81]; rfl), ?_⟩
            clear g81
            go_simp
            exact ⟨Below.refl _ _, rfl⟩
          · have t6 : a.tmps.getD 6 undef = .int .i64 i := hF.at 6 (by kernel_rfl)
            rw [Array.getD_eq_getD_getElem?] at t6
            have g81 : a.eval (.tmp 81) = .bool false := hd { on := 14, ground := .guard } (by simp) rfl
            refine .inl ⟨(by simp only [Region.wanted]; rw [yielded_of (d := 81) (by rfl) g81]; rfl), ?_⟩
            clear g81
            go_simp
            exact ⟨Below.refl _ _, rfl⟩
          · have t82 : a.tmps.getD 82 undef = .int .i64 i := hd { on := 15, ground := .data } (by simp) rfl
            rw [Array.getD_eq_getD_getElem?] at t82
            have t83 : a.tmps.getD 83 undef = .int .i64 i := hd { on := 16, ground := .data } (by simp) rfl
            rw [Array.getD_eq_getD_getElem?] at t83
            have g81 : a.eval (.tmp 81) = .bool false := hd { on := 14, ground := .guard } (by simp) rfl
            refine .inl ⟨(by simp only [Region.wanted]; rw [yielded_of (d := 81) (by rfl) g81]; rfl), ?_⟩
            clear g81
            go_simp
            exact ⟨Below.refl _ _, rfl⟩
          · have t84 : a.tmps.getD 84 undef = .bool false := hd { on := 17, ground := .data } (by simp) rfl
            rw [Array.getD_eq_getD_getElem?] at t84
            have g81 : a.eval (.tmp 81) = .bool false := hd { on := 14, ground := .guard } (by simp) rfl
            refine .inl ⟨(by simp only [Region.wanted]; rw [yielded_of (d := 81) (by rfl) g81]; rfl), ?_⟩
            clear g81
            go_simp
            exact ⟨Below.refl _ _, rfl⟩
          · have g85 : a.eval (.tmp 85) = .bool false := hd { on := 18, ground := .guard } (by simp) rfl
            exact .inr ⟨(by simp only [Region.wanted]; rw [yielded_of (d := 85) (by rfl) g85]; rfl), rfl⟩
          · have g85 : a.eval (.tmp 85) = .bool false := hd { on := 18, ground := .guard } (by simp) rfl
            exact .inr ⟨(by simp only [Region.wanted]; rw [yielded_of (d := 85) (by rfl) g85]; rfl), rfl⟩
          · have g85 : a.eval (.tmp 85) = .bool false := hd { on := 18, ground := .guard } (by simp) rfl
            exact .inr ⟨(by simp only [Region.wanted]; rw [yielded_of (d := 85) (by rfl) g85]; rfl), rfl⟩
          · have g85 : a.eval (.tmp 85) = .bool false := hd { on := 18, ground := .guard } (by simp) rfl
            exact .inr ⟨(by simp only [Region.wanted]; rw [yielded_of (d := 85) (by rfl) g85]; rfl), rfl⟩
          · have g85 : a.eval (.tmp 85) = .bool false := hd { on := 18, ground := .guard } (by simp) rfl
            exact .inr ⟨(by simp only [Region.wanted]; rw [yielded_of (d := 85) (by rfl) g85]; rfl), rfl⟩
          · have g85 : a.eval (.tmp 85) = .bool false := hd { on := 18, ground := .guard } (by simp) rfl
            exact .inr ⟨(by simp only [Region.wanted]; rw [yielded_of (d := 85) (by rfl) g85]; rfl), rfl⟩
          · have g85 : a.eval (.tmp 85) = .bool false := hd { on := 18, ground := .guard } (by simp) rfl
            exact .inr ⟨(by simp only [Region.wanted]; rw [yielded_of (d := 85) (by rfl) g85]; rfl), rfl⟩
          · have g85 : a.eval (.tmp 85) = .bool false := hd { on := 18, ground := .guard } (by simp) rfl
            exact .inr ⟨(by simp only [Region.wanted]; rw [yielded_of (d := 85) (by rfl) g85]; rfl), rfl⟩
          · have g85 : a.eval (.tmp 85) = .bool false := hd { on := 18, ground := .guard } (by simp) rfl
            exact .inr ⟨(by simp only [Region.wanted]; rw [yielded_of (d := 85) (by rfl) g85]; rfl), rfl⟩
          · have t85 : a.tmps.getD 85 undef = .bool false := hd { on := 18, ground := .data } (by simp) rfl
            rw [Array.getD_eq_getD_getElem?] at t85
            have g81 : a.eval (.tmp 81) = .bool false := hd { on := 14, ground := .guard } (by simp) rfl
            refine .inl ⟨(by simp only [Region.wanted]; rw [yielded_of (d := 81) (by rfl) g81]; rfl), ?_⟩
            clear g81
            go_simp
            exact ⟨Below.refl _ _, rfl⟩
          · have t81 : a.tmps.getD 81 undef = .bool false := hd { on := 14, ground := .data } (by simp) rfl
            rw [Array.getD_eq_getD_getElem?] at t81
            have t95 : a.tmps.getD 95 undef = .bool false := hd { on := 28, ground := .data } (by simp) rfl
            rw [Array.getD_eq_getD_getElem?] at t95
            refine .inl ⟨rfl, ?_⟩
            go_simp
            exact ⟨Below.refl _ _, rfl⟩
        · intro vs W hE hV
          have h4 : vs 29 = .bool false := hV 29 (by decide)
          have HBf : Hid (Below w10.heap.size w10 W) := HB.out.trans (hE.mono HB.out.size)
          clear hV hE
          simp only [putsV, dstsV, List.foldl, h4, Act.put, List.setIfInBounds_toArray, List.set_cons_succ, List.set_cons_zero]
          clear h4
          generalize vs 0 = y0
          generalize vs 1 = y1
          generalize vs 2 = y2
          generalize vs 3 = y3
          generalize vs 4 = y4
          generalize vs 5 = y5
          generalize vs 6 = y6
          generalize vs 7 = y7
          generalize vs 8 = y8
          generalize vs 9 = y9
          generalize vs 10 = y10
          generalize vs 11 = y11
          generalize vs 12 = y12
          generalize vs 13 = y13
          generalize vs 14 = y14
          generalize vs 15 = y15
          generalize vs 16 = y16
          generalize vs 17 = y17
          generalize vs 18 = y18
          generalize vs 19 = y19
          generalize vs 20 = y20
          generalize vs 21 = y21
          generalize vs 22 = y22
          generalize vs 23 = y23
          generalize vs 24 = y24
          generalize vs 25 = y25
          generalize vs 26 = y26
          generalize vs 27 = y27
          generalize vs 28 = y28
          refine ‹∀ (a : Act) (w : World), Code.wp Tryd.prog (Code.cond _ _ _) _ a w → _› _ _ ?_
          go_wp2
          go_roundw
          case rel => exact ⟨i + 1, by omega, by go_num, HBf.out⟩
          case measure => simp [intOf]; omega
      · have hii : ((i : Int) == (M : Int)) = false := by rw [beq_eq_false_iff_ne]; omega
        have hin : ((i : Int) != (M : Int)) = true := by rw [bne, hii]; rfl
        obtain ⟨x, hx⟩ : ∃ x, P2.getD i ByteArray.empty = x := ⟨_, rfl⟩
        have hx3 := HL3.out i hlt him
        rw [hx] at hx3
        have hox : ∀ W, Below wr.heap.size wr W → W.cell? ⟨ob, oo + i, none⟩ = some (.string x) := fun W h => by
          have h0 := HOb.out
          have h1 := HH10.out.size
          have h2 := HB.out.size
          rw [h.cell (p := ⟨ob, oo + i, none⟩) hobr, HB.out.cell (p := ⟨ob, oo + i, none⟩) (by show ob < _; omega), HH10.out.cell (p := ⟨ob, oo + i, none⟩) h0, HOC.out i hlt, hx]
        have hnx : ∀ W, Below wr.heap.size wr W → W.cell? ⟨nb, no + i, none⟩ = some (.string x) := fun W h => by
          have h0 := HNb.out
          have h2 := HB.out.size
          rw [h.cell (p := ⟨nb, no + i, none⟩) (by show nb < _; omega), HB.out.cell (p := ⟨nb, no + i, none⟩) h0, HNC.out i hlt, ← hx3]
        have hxx : (x.toList == x.toList) = true := by simp
        clear hx hx3 him
        go_wp2
        refine wp_region_rel4 (fun W W' => Below W.heap.size W W') (fun jj vv _ => vv = ([.int .i64 i, .int .i64 M, .bool false, .bool false, undef, undef, undef, undef, undef, undef, undef, undef, undef, .bool false, .bool false, .int .i64 i, .int .i64 M, .bool true, .bool true, .slice (some ⟨ob, oo, none⟩) 24 oc, .int .i64 i, .pointer (some ⟨ob, oo + i, none⟩), .string x, .slice (some ⟨nb, no, none⟩) 24 nc, .int .i64 i, .pointer (some ⟨nb, no + i, none⟩), .string x, .bool false, .bool false, .bool false] : List Value).getD jj undef) (by kernel_rfl) (by kernel_rfl) (Below.refl _ _).drew (fun W => Below.refl _ _) (fun _ _ _ h1 h2 => h1.trans (h2.mono h1.size)) (fun _ _ _ _ h _ => h) ?_ ?_
        · simp only [stepsAll3]
          refine ⟨fun a W hF hE hd => ?_, fun a W hF hE hd => ?_, fun a W hF hE hd => ?_, fun a W hF hE hd => ?_, fun a W hF hE hd => ?_, fun a W hF hE hd => ?_, fun a W hF hE hd => ?_, fun a W hF hE hd => ?_, fun a W hF hE hd => ?_, fun a W hF hE hd => ?_, fun a W hF hE hd => ?_, fun a W hF hE hd => ?_, fun a W hF hE hd => ?_, fun a W hF hE hd => ?_, fun a W hF hE hd => ?_, fun a W hF hE hd => ?_, fun a W hF hE hd => ?_, fun a W hF hE hd => ?_, fun a W hF hE hd => ?_, fun a W hF hE hd => ?_, fun a W hF hE hd => ?_, fun a W hF hE hd => ?_, fun a W hF hE hd => ?_, fun a W hF hE hd => ?_, fun a W hF hE hd => ?_, fun a W hF hE hd => ?_, fun a W hF hE hd => ?_, fun a W hF hE hd => ?_, fun a W hF hE hd => ?_, fun a W hF hE hd => ?_, trivial⟩
          all_goals unfold StepAt
          · have t12 : a.tmps.getD 12 undef = .int .i64 i := hF.at 12 (by kernel_rfl)
            rw [Array.getD_eq_getD_getElem?] at t12
            refine .inl ⟨rfl, ?_⟩
            go_simp
            exact ⟨Below.refl _ _, rfl⟩
          · have t6 : a.tmps.getD 6 undef = .int .i64 M := hF.at 6 (by kernel_rfl)
            rw [Array.getD_eq_getD_getElem?] at t6
            refine .inl ⟨rfl, ?_⟩
            go_simp
            exact ⟨Below.refl _ _, rfl⟩
          · have t67 : a.tmps.getD 67 undef = .int .i64 i := hd { on := 0, ground := .data } (by simp) rfl
            rw [Array.getD_eq_getD_getElem?] at t67
            have t68 : a.tmps.getD 68 undef = .int .i64 M := hd { on := 1, ground := .data } (by simp) rfl
            rw [Array.getD_eq_getD_getElem?] at t68
            refine .inl ⟨rfl, ?_⟩
            go_simp
            exact ⟨Below.refl _ _, rfl⟩
          · have t69 : a.tmps.getD 69 undef = .bool false := hd { on := 2, ground := .data } (by simp) rfl
            rw [Array.getD_eq_getD_getElem?] at t69
            refine .inl ⟨rfl, ?_⟩
            go_simp
            exact ⟨Below.refl _ _, rfl⟩
          · have g70 : a.eval (.tmp 70) = .bool false := hd { on := 3, ground := .guard } (by simp) rfl
            exact .inr ⟨(by simp only [Region.wanted]; rw [yielded_of (d := 70) (by rfl) g70]; rfl), rfl⟩
          · have g70 : a.eval (.tmp 70) = .bool false := hd { on := 3, ground := .guard } (by simp) rfl
            exact .inr ⟨(by simp only [Region.wanted]; rw [yielded_of (d := 70) (by rfl) g70]; rfl), rfl⟩
          · have g70 : a.eval (.tmp 70) = .bool false := hd { on := 3, ground := .guard } (by simp) rfl
            exact .inr ⟨(by simp only [Region.wanted]; rw [yielded_of (d := 70) (by rfl) g70]; rfl), rfl⟩
          · have g70 : a.eval (.tmp 70) = .bool false := hd { on := 3, ground := .guard } (by simp) rfl
            exact .inr ⟨(by simp only [Region.wanted]; rw [yielded_of (d := 70) (by rfl) g70]; rfl), rfl⟩
          · have g70 : a.eval (.tmp 70) = .bool false := hd { on := 3, ground := .guard } (by simp) rfl
            exact .inr ⟨(by simp only [Region.wanted]; rw [yielded_of (d := 70) (by rfl) g70]; rfl), rfl⟩
          · have g70 : a.eval (.tmp 70) = .bool false := hd { on := 3, ground := .guard } (by simp) rfl
            exact .inr ⟨(by simp only [Region.wanted]; rw [yielded_of (d := 70) (by rfl) g70]; rfl), rfl⟩
          · have g70 : a.eval (.tmp 70) = .bool false := hd { on := 3, ground := .guard } (by simp) rfl
            exact .inr ⟨(by simp only [Region.wanted]; rw [yielded_of (d := 70) (by rfl) g70]; rfl), rfl⟩
          · have g70 : a.eval (.tmp 70) = .bool false := hd { on := 3, ground := .guard } (by simp) rfl
            exact .inr ⟨(by simp only [Region.wanted]; rw [yielded_of (d := 70) (by rfl) g70]; rfl), rfl⟩
          · have g70 : a.eval (.tmp 70) = .bool false := hd { on := 3, ground := .guard } (by simp) rfl
            exact .inr ⟨(by simp only [Region.wanted]; rw [yielded_of (d := 70) (by rfl) g70]; rfl), rfl⟩
          · have t70 : a.tmps.getD 70 undef = .bool false := hd { on := 3, ground := .data } (by simp) rfl
            rw [Array.getD_eq_getD_getElem?] at t70
            refine .inl ⟨rfl, ?_⟩
            go_simp
            exact ⟨Below.refl _ _, rfl⟩
          · have t80 : a.tmps.getD 80 undef = .bool false := hd { on := 13, ground := .data } (by simp) rfl
            rw [Array.getD_eq_getD_getElem?] at t80
            refine .inl ⟨rfl, ?_⟩
            go_simp
            exact ⟨Below.refl _ _, rfl⟩
          · have t12 : a.tmps.getD 12 undef = .int .i64 i := hF.at 12 (by kernel_rfl)
            rw [Array.getD_eq_getD_getElem?] at t12
            have g81 : a.eval (.tmp 81) = .bool false := hd { on := 14, ground := .guard } (by simp) rfl
            refine .inl ⟨(by simp only [Region.wanted]; rw [yielded_of (d := 81) (by rfl) g81]; rfl), ?_⟩
            clear g81
            go_simp
            exact ⟨Below.refl _ _, rfl⟩
          · have t6 : a.tmps.getD 6 undef = .int .i64 M := hF.at 6 (by kernel_rfl)
            rw [Array.getD_eq_getD_getElem?] at t6
            have g81 : a.eval (.tmp 81) = .bool false := hd { on := 14, ground := .guard } (by simp) rfl
            refine .inl ⟨(by simp only [Region.wanted]; rw [yielded_of (d := 81) (by rfl) g81]; rfl), ?_⟩
            clear g81
            go_simp
            exact ⟨Below.refl _ _, rfl⟩
          · have t82 : a.tmps.getD 82 undef = .int .i64 i := hd { on := 15, ground := .data } (by simp) rfl
            rw [Array.getD_eq_getD_getElem?] at t82
            have t83 : a.tmps.getD 83 undef = .int .i64 M := hd { on := 16, ground := .data } (by simp) rfl
            rw [Array.getD_eq_getD_getElem?] at t83
            have g81 : a.eval (.tmp 81) = .bool false := hd { on := 14, ground := .guard } (by simp) rfl
            refine .inl ⟨(by simp only [Region.wanted]; rw [yielded_of (d := 81) (by rfl) g81]; rfl), ?_⟩
            clear g81
            go_simp
            exact ⟨Below.refl _ _, rfl⟩
          · have t84 : a.tmps.getD 84 undef = .bool true := hd { on := 17, ground := .data } (by simp) rfl
            rw [Array.getD_eq_getD_getElem?] at t84
            have g81 : a.eval (.tmp 81) = .bool false := hd { on := 14, ground := .guard } (by simp) rfl
            refine .inl ⟨(by simp only [Region.wanted]; rw [yielded_of (d := 81) (by rfl) g81]; rfl), ?_⟩
            clear g81
            go_simp
            exact ⟨Below.refl _ _, rfl⟩
          · have t10 : a.tmps.getD 10 undef = .slice (some ⟨ob, oo, none⟩) 24 oc := hF.at 10 (by kernel_rfl)
            rw [Array.getD_eq_getD_getElem?] at t10
            have g85 : a.eval (.tmp 85) = .bool true := hd { on := 18, ground := .guard } (by simp) rfl
            refine .inl ⟨(by simp only [Region.wanted]; rw [yielded_of (d := 85) (by rfl) g85]; rfl), ?_⟩
            clear g85
            go_simp
            exact ⟨Below.refl _ _, rfl⟩
          · have t12 : a.tmps.getD 12 undef = .int .i64 i := hF.at 12 (by kernel_rfl)
            rw [Array.getD_eq_getD_getElem?] at t12
            have g85 : a.eval (.tmp 85) = .bool true := hd { on := 18, ground := .guard } (by simp) rfl
            refine .inl ⟨(by simp only [Region.wanted]; rw [yielded_of (d := 85) (by rfl) g85]; rfl), ?_⟩
            clear g85
            go_simp
            exact ⟨Below.refl _ _, rfl⟩
          · have t86 : a.tmps.getD 86 undef = .slice (some ⟨ob, oo, none⟩) 24 oc := hd { on := 19, ground := .data } (by simp) rfl
            rw [Array.getD_eq_getD_getElem?] at t86
            have t87 : a.tmps.getD 87 undef = .int .i64 i := hd { on := 20, ground := .data } (by simp) rfl
            rw [Array.getD_eq_getD_getElem?] at t87
            have g85 : a.eval (.tmp 85) = .bool true := hd { on := 18, ground := .guard } (by simp) rfl
            refine .inl ⟨(by simp only [Region.wanted]; rw [yielded_of (d := 85) (by rfl) g85]; rfl), ?_⟩
            clear g85
            go_simp
            exact ⟨Below.refl _ _, rfl⟩
          · have t88 : a.tmps.getD 88 undef = .pointer (some ⟨ob, oo + i, none⟩) := hd { on := 21, ground := .data } (by simp) rfl
            rw [Array.getD_eq_getD_getElem?] at t88
            have g85 : a.eval (.tmp 85) = .bool true := hd { on := 18, ground := .guard } (by simp) rfl
            refine .inl ⟨(by simp only [Region.wanted]; rw [yielded_of (d := 85) (by rfl) g85]; rfl), ?_⟩
            clear g85
            have hcx := hox W hE
            go_simp
            exact ⟨Below.refl _ _, rfl⟩
          · have t11 : a.tmps.getD 11 undef = .slice (some ⟨nb, no, none⟩) 24 nc := hF.at 11 (by kernel_rfl)
            rw [Array.getD_eq_getD_getElem?] at t11
            have g85 : a.eval (.tmp 85) = .bool true := hd { on := 18, ground := .guard } (by simp) rfl
            refine .inl ⟨(by simp only [Region.wanted]; rw [yielded_of (d := 85) (by rfl) g85]; rfl), ?_⟩
            clear g85
            go_simp
            exact ⟨Below.refl _ _, rfl⟩
          · have t12 : a.tmps.getD 12 undef = .int .i64 i := hF.at 12 (by kernel_rfl)
            rw [Array.getD_eq_getD_getElem?] at t12
            have g85 : a.eval (.tmp 85) = .bool true := hd { on := 18, ground := .guard } (by simp) rfl
            refine .inl ⟨(by simp only [Region.wanted]; rw [yielded_of (d := 85) (by rfl) g85]; rfl), ?_⟩
            clear g85
            go_simp
            exact ⟨Below.refl _ _, rfl⟩
          · have t90 : a.tmps.getD 90 undef = .slice (some ⟨nb, no, none⟩) 24 nc := hd { on := 23, ground := .data } (by simp) rfl
            rw [Array.getD_eq_getD_getElem?] at t90
            have t91 : a.tmps.getD 91 undef = .int .i64 i := hd { on := 24, ground := .data } (by simp) rfl
            rw [Array.getD_eq_getD_getElem?] at t91
            have g85 : a.eval (.tmp 85) = .bool true := hd { on := 18, ground := .guard } (by simp) rfl
            refine .inl ⟨(by simp only [Region.wanted]; rw [yielded_of (d := 85) (by rfl) g85]; rfl), ?_⟩
            clear g85
            go_simp
            exact ⟨Below.refl _ _, rfl⟩
          · have t92 : a.tmps.getD 92 undef = .pointer (some ⟨nb, no + i, none⟩) := hd { on := 25, ground := .data } (by simp) rfl
            rw [Array.getD_eq_getD_getElem?] at t92
            have g85 : a.eval (.tmp 85) = .bool true := hd { on := 18, ground := .guard } (by simp) rfl
            refine .inl ⟨(by simp only [Region.wanted]; rw [yielded_of (d := 85) (by rfl) g85]; rfl), ?_⟩
            clear g85
            have hcx := hnx W hE
            go_simp
            exact ⟨Below.refl _ _, rfl⟩
          · have t89 : a.tmps.getD 89 undef = .string x := hd { on := 22, ground := .data } (by simp) rfl
            rw [Array.getD_eq_getD_getElem?] at t89
            have t93 : a.tmps.getD 93 undef = .string x := hd { on := 26, ground := .data } (by simp) rfl
            rw [Array.getD_eq_getD_getElem?] at t93
            have g85 : a.eval (.tmp 85) = .bool true := hd { on := 18, ground := .guard } (by simp) rfl
            refine .inl ⟨(by simp only [Region.wanted]; rw [yielded_of (d := 85) (by rfl) g85]; rfl), ?_⟩
            clear g85
            go_simp
            exact ⟨Below.refl _ _, rfl⟩
          · have t85 : a.tmps.getD 85 undef = .bool true := hd { on := 18, ground := .data } (by simp) rfl
            rw [Array.getD_eq_getD_getElem?] at t85
            have t94 : a.tmps.getD 94 undef = .bool false := hd { on := 27, ground := .data } (by simp) rfl
            rw [Array.getD_eq_getD_getElem?] at t94
            have g81 : a.eval (.tmp 81) = .bool false := hd { on := 14, ground := .guard } (by simp) rfl
            refine .inl ⟨(by simp only [Region.wanted]; rw [yielded_of (d := 81) (by rfl) g81]; rfl), ?_⟩
            clear g81
            go_simp
            exact ⟨Below.refl _ _, rfl⟩
          · have t81 : a.tmps.getD 81 undef = .bool false := hd { on := 14, ground := .data } (by simp) rfl
            rw [Array.getD_eq_getD_getElem?] at t81
            have t95 : a.tmps.getD 95 undef = .bool false := hd { on := 28, ground := .data } (by simp) rfl
            rw [Array.getD_eq_getD_getElem?] at t95
            refine .inl ⟨rfl, ?_⟩
            go_simp
            exact ⟨Below.refl _ _, rfl⟩
        · intro vs W hE hV
          have h4 : vs 29 = .bool false := hV 29 (by decide)
          have HBf : Hid (Below w10.heap.size w10 W) := HB.out.trans (hE.mono HB.out.size)
          clear hV hE
          simp only [putsV, dstsV, List.foldl, h4, Act.put, List.setIfInBounds_toArray, List.set_cons_succ, List.set_cons_zero]
          clear h4
          generalize vs 0 = y0
          generalize vs 1 = y1
          generalize vs 2 = y2
          generalize vs 3 = y3
          generalize vs 4 = y4
          generalize vs 5 = y5
          generalize vs 6 = y6
          generalize vs 7 = y7
          generalize vs 8 = y8
          generalize vs 9 = y9
          generalize vs 10 = y10
          generalize vs 11 = y11
          generalize vs 12 = y12
          generalize vs 13 = y13
          generalize vs 14 = y14
          generalize vs 15 = y15
          generalize vs 16 = y16
          generalize vs 17 = y17
          generalize vs 18 = y18
          generalize vs 19 = y19
          generalize vs 20 = y20
          generalize vs 21 = y21
          generalize vs 22 = y22
          generalize vs 23 = y23
          generalize vs 24 = y24
          generalize vs 25 = y25
          generalize vs 26 = y26
          generalize vs 27 = y27
          generalize vs 28 = y28
          refine ‹∀ (a : Act) (w : World), Code.wp Tryd.prog (Code.cond _ _ _) _ a w → _› _ _ ?_
          go_wp2
          go_roundw
          case rel => exact ⟨i + 1, by omega, by go_num, HBf.out⟩
          case measure => simp [intOf]; omega
    · have HBf : Hid (Below w.heap.size w wr) := HG10.out.trans (HB.out.mono HG10.out.size)
      go_wp2_with fail
      refine (HAw _ (HT.out.below HBf.out)).mono ?_
      rintro e w11 ⟨rfl, hb⟩
      have HB11 : Hid (Below w.heap.size w w11) := HBf.out.trans (hb.mono HBf.out.size)
      clear hb
      go_wp2
      go_ret
      exact ⟨rfl, HB11.out⟩

theorem walk_ConfigAlone (c : Cfg) (hz : c.zone.size ≤ 9223372036854775807) (a : Int) (_ : -9223372036854775808 ≤ a ∧ a ≤ 9223372036854775807) (w : World) (ht : Tabs w) :
    Calls Tryd.prog 3 #[.agg c.arr, .int .i64 a] w fun e w' => e = .returned (.bool true) ∧ Below w.heap.size w w' := by
  cases hc : mayC c with
  | false => exact alone_not c hz hc a w ht
  | true => exact alone_walk c hc a w ht

theorem reads_ConfigAlone (os : Os) {H : Type} (enc : TypeId × Value → H) : ∃ places, DataW.whole enc Tryd.prog ((laidWorld os).forCall (fun _ _ => 0) ⟨#[], #[.agg #[.int .i64 0, .int .i64 0, .int .i64 0, .int .i64 0, .int .i64 0, .int .i64 0, .int .i64 0, .int .i64 0, .int .i64 0, .int .i64 0, .int .i64 0, .int .i64 0, .int .i64 0, .int .i64 0, .int .i64 0, .bool false, .int .i64 0, .int .i64 0, .int .i64 0, .int .i64 0, .int .i64 0, .string ByteArray.empty, .bool false], .int .i64 0], []⟩).memory Tryd.f3.params.toList Rows.configAloneSpec.vars false (#[.agg #[.int .i64 0, .int .i64 0, .int .i64 0, .int .i64 0, .int .i64 0, .int .i64 0, .int .i64 0, .int .i64 0, .int .i64 0, .int .i64 0, .int .i64 0, .int .i64 0, .int .i64 0, .int .i64 0, .int .i64 0, .bool false, .int .i64 0, .int .i64 0, .int .i64 0, .int .i64 0, .int .i64 0, .string ByteArray.empty, .bool false], .int .i64 0] : Array Value).toList 8 = some ([.agg [.lit (.int .i64 0), .lit (.int .i64 0), .lit (.int .i64 0), .lit (.int .i64 0), .lit (.int .i64 0), .lit (.int .i64 0), .lit (.int .i64 0), .lit (.int .i64 0), .lit (.int .i64 0), .lit (.int .i64 0), .lit (.int .i64 0), .lit (.int .i64 0), .lit (.int .i64 0), .lit (.int .i64 0), .lit (.int .i64 0), .lit (.bool false), .lit (.int .i64 0), .lit (.int .i64 0), .lit (.int .i64 0), .lit (.int .i64 0), .lit (.int .i64 0), .lit (.string []), .lit (.bool false)], .lit (.int .i64 0)], [], places) :=
  ⟨[], by kernel_rfl⟩

set_option maxRecDepth 100000 in
theorem lifted_ConfigAlone (os : Os) (started : os.Started) (H : Type) (enc : TypeId × Value → H) (F : Stop.Interp) :
    ReturnsInHanded {} Tryd.checked os 3 .any ((OpenSpec.ofChange Rows.configAloneSpec).preRow enc Tryd.prog Tryd.f3 Rows.configAloneRow.domain false Rows.configAloneRow.laid) (((OpenSpec.ofChange Rows.configAloneSpec).at F).post enc Tryd.prog Tryd.f3 false true false false) := by
  obtain ⟨places, hx⟩ := reads_ConfigAlone os enc
  refine returnsInHanded_of_row (C := Tryd.checked) (s := OpenSpec.ofChange Rows.configAloneSpec) own started (by kernel_rfl) Tryd.func3
    (witness_row_at (enc := enc) (C := Tryd.checked) false (laidWorld os) #[.agg #[.int .i64 0, .int .i64 0, .int .i64 0, .int .i64 0, .int .i64 0, .int .i64 0, .int .i64 0, .int .i64 0, .int .i64 0, .int .i64 0, .int .i64 0, .int .i64 0, .int .i64 0, .int .i64 0, .int .i64 0, .bool false, .int .i64 0, .int .i64 0, .int .i64 0, .int .i64 0, .int .i64 0, .string ByteArray.empty, .bool false], .int .i64 0] rfl (by kernel_rfl) (by kernel_rfl) (by kernel_rfl)
      (OpenSpec.preRow_of_cond 8 hx (by kernel_rfl) (fun k hk => by cases hk) (by kernel_rfl) (laid_met os _))) ?_
  intro W base args ds gs before hval0 hW _ _ hsz0 hL _ _
  have htab := table hL
  have hval : ∀ (j : Nat) t v, Tryd.f3.params[j]? = some t → args[j]? = some v → Value.okWide Tryd.prog W .any base t v := hval0
  have hW' := hW
  obtain ⟨p, q, hA0, hV, rfl, hfz, hnd⟩ := hW
  have hA : DataW.TrodAll enc Tryd.prog W 0 (fun _ => true) true Tryd.f3.params.toList args.toList ds p := hA0
  rw [Tryd.params3] at hA hval
  obtain ⟨v0, vs0, d0, ds0, p0, q0, hargs, rfl, rfl, h0, r0⟩ := trodAll_cons hA
  obtain ⟨v1, vs1, d1, ds1, p1, q1, rfl, rfl, rfl, h1, r1⟩ := trodAll_cons r0
  obtain ⟨rfl, rfl, rfl⟩ := trodAll_nil r1
  obtain rfl : args = #[v0, v1] := by cases args; simp_all
  obtain ⟨rfl, rfl⟩ := trodVars_none hV
  have k0 := h0
  have lt0 : ∀ x ∈ p0, x.block < W.heap.size := by obtain ⟨m, hm⟩ := k0; exact DataW.trod_lt m _ _ _ hm
  obtain ⟨z0, rfl, w0⟩ := open_cfg (hval 0 23 v0 rfl rfl) h0
  obtain ⟨a1, rfl, rfl, rfl, w1⟩ := open_int Tryd.underlying3 (hval 1 3 v1 rfl rfl) h1
  clear hA0 hval0
  refine (walk_ConfigAlone z0 w0 a1 (bounds_i64 w1) W htab).mono fun e W' ⟨he, bel⟩ => ?_
  subst he
  exact ⟨_, rfl, _, _, _, [], _, [], hW', trodAll_mk1 (shut_bool Tryd.underlying4 _), (trodAll_cons_mk (Below.trod laidOut (by kernel_rfl) (of_decide_eq_true (by kernel_rfl)) k0 bel lt0) (trodAll_cons_mk (shut_int Tryd.underlying3 w1) trodAll_mk0)), rfl, bel.frame _, fun h => by cases h⟩

theorem said_ConfigAlone : Rows.ConfigAloneSaid :=
  OpenClaim.holds_of_cond 3 Tryd.f3 rfl rfl rfl rfl rfl rfl rfl ⟨rfl, rfl, rfl, rfl, rfl⟩ rfl rfl rfl rfl rfl (by kernel_rfl) Tryd.func3 (by kernel_rfl)
    (of_decide_eq_true (by kernel_rfl)) (by unfold Func.isWrapper; first | (rw [if_pos (by decide +kernel)]; kernel_rfl) | (rw [if_neg (by decide +kernel)]; exact ⟨rfl, rfl⟩))
    (fun os started H enc _ F => by rw [OpenClaim.pre_eq_preRow]; exact lifted_ConfigAlone os started H enc F)

theorem plain_ConfigAlone (f : FuncId) (fn : Func) (hf : Tryd.pinned.checked.prog.funcNamed Rows.configAloneRow.func = some f) (hfn : Tryd.pinned.checked.prog.funcs[f]? = some fn) :
    false = Tryd.pinned.checked.prog.looks [] ∧ ∀ (j : Nat) t, fn.params[j]? = some t → Tryd.pinned.checked.prog.wantsStandIn t = false := by
  obtain rfl : f = 3 := Option.some.inj ((show Tryd.prog.funcNamed Rows.configAloneRow.func = some 3 by kernel_rfl).symm.trans hf) |>.symm
  obtain rfl : fn = Tryd.f3 := (Option.some.inj (Tryd.func3.symm.trans hfn)).symm
  refine ⟨by kernel_rfl, fun j t ht => ?_⟩
  rw [Tryd.params3] at ht
  have hm := Array.mem_of_getElem? ht
  simp only [List.mem_toArray, List.mem_cons, List.not_mem_nil, or_false] at hm
  rcases hm with rfl | rfl
  · exact (show Tryd.prog.wantsStandIn 23 = false by kernel_rfl)
  · exact (show Tryd.prog.wantsStandIn 3 = false by kernel_rfl)

/-- The statement. -/
theorem configAlone_holds : Rows.ConfigAloneCardSaid :=
  Claim7.holds_tied_plain_at .later [] _ _ _ _ said_ConfigAlone (fun _ h => by cases h) (by kernel_rfl) (fun _ h => by cases h) configAlone_row_tie rfl ⟨rfl, rfl⟩ (by kernel_rfl) rfl plain_ConfigAlone (by kernel_rfl)
#print axioms configAlone_holds

end Go.Proofs.YtmhbfcjlbhighabDoor
