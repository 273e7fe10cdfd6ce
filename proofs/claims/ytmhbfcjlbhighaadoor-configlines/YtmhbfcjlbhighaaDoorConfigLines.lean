/-
  ConfigLines, for every configuration, number, words and text: behind any of the lines of its text a line of one word, or of three to six, is ErrForm of just that line, whatever stands behind it. What may not be is not asked. No condition but that the two tables are as the program's text lays them (the card).
-/
import Derived.Test.YtmhbfcjlbhighaaDoorConfFrame
import Derived.Test.YtmhbfcjlbhighaaDoorConfEq
import Derived.Test.YtmhbfcjlbhighaaDoorConfLaw
import Derived.Test.YtmhbfcjlbhighaaDoorConfWrong
import Derived.Test.YtmhbfcjlbhighaaDoorRefText
import Derived.Test.YtmhbfcjlbhighaaDoorLineOpen
namespace Go.Proofs.YtmhbfcjlbhighaaDoor
open Go.ChangeShapes Go.WideShapes Go.ChangeAt Go.RowKit
open Go.ChangeMaps (open_string shut_string)

set_option maxRecDepth 100000 in
theorem open_bad {H : Type} {enc : TypeId × Value → H} {W : World} {r : Reach} {b0 : Nat} {v : Value} {d : DataW H} {p : List MemPlace} (hval : Value.okWide Tryd.prog W r b0 34 v) (h : DataW.Trod enc Tryd.prog W 0 (fun _ => true) true 34 v d p) :
    ∃ ss : List ByteArray, IsStrs W v ss ∧ ∀ x ∈ ss, x.size ≤ maxLen := by
  obtain ⟨a0, len0, cap0, rfl⟩ := okWide_slice Tryd.underlying34 hval
  obtain ⟨fuel, hf⟩ := h
  obtain ⟨ss, h1, h2, _⟩ := open_strs Tryd.underlying34 Tryd.underlying9 c_str (y := (d, p)) (u := .slice a0 len0 cap0) hf
  exact ⟨ss, h1, h2⟩
theorem u24_mod (a : Int) : ∃ M : Nat, M < 24 ∧ (IntKind.u64.wrap a).tmod 24 = (M : Int) := by
  have h0 : 0 ≤ IntKind.u64.wrap a := by simp [IntKind.wrap, IntKind.signed, IntKind.bits]; omega
  refine ⟨((IntKind.u64.wrap a) % 24).toNat, by omega, ?_⟩
  rw [Int.tmod_eq_emod_of_nonneg h0]
  omega
theorem bad_take (bad : List ByteArray) (j : Nat) (h : j < bad.length) : badL (bad.take (j + 1)) = badL (bad.take j) ++ ((bad.getD j ByteArray.empty).data.toList ++ [32]) := by
  rw [List.take_succ_eq_append_getElem h]
  unfold badL
  rw [List.flatMap_append]
  simp [h]
def ten32 (b : UInt8) : Prop := b.toNat = 10 ∨ (32 ≤ b.toNat ∧ b.toNat ≤ 126)

set_option maxRecDepth 100000 in
set_option maxHeartbeats 2000000 in
theorem lines_not (c : Cfg) (hz : c.zone.size ≤ 9223372036854775807) (hc : mayC c = false) (a : Int) (bv : Value) (more : ByteArray) (w : World) (ht : Tabs w) :
    Calls Tryd.prog 8 #[.agg c.arr, .int .i64 a, bv, .string more] w fun e w' => e = .returned (.bool true) ∧ Below w.heap.size w w' := by
  have HT : Hid (Tabs w) := ht
  have HMay := fun W => rMay_any c W hz
  rw [hc, val_arr] at HMay
  have HI : Hid _ := arr_info c
  clear hc hz ht
  generalize c.arr = cs at HMay HI ⊢
  go_enter Tryd.func8, Tryd.ntmps8
  go_wp2_with (first | (refine wpList_load_row rfl 23 (.tmp 4) rfl w.heap.size rfl 23 cs (0, 0) _ (heap_alloc_new w _) Tryd.underlying23 rfl HI.out ?_) | fail)
  refine (HMay _).mono ?_
  rintro e w1 ⟨rfl, hb⟩
  have HB1 : Hid (Below w.heap.size w w1) := ((Below.refl _ w).alloc (Nat.le_refl _) _).trans (hb.mono (by simp))
  clear hb HMay
  go_wp2_with fail
  refine (awake_any _ (HT.out.below HB1.out)).mono ?_
  rintro e w2 ⟨rfl, hb⟩
  have HB2 : Hid (Below w.heap.size w w2) := HB1.out.trans (hb.mono HB1.out.size)
  clear hb
  go_wp2
  go_ret
  exact ⟨rfl, HB2.out⟩

set_option maxRecDepth 100000 in
set_option maxHeartbeats 2000000 in
theorem lines_long (c : Cfg) (hz : c.zone.size ≤ 9223372036854775807) (hc : mayC c = true) (a : Int) (bv : Value) (bad : List ByteArray) (more : ByteArray) (w : World) (ht : Tabs w) (hbad : IsStrs w bv bad) (hl : 6 < bad.length ∨ 100 < more.size) :
    Calls Tryd.prog 8 #[.agg c.arr, .int .i64 a, bv, .string more] w fun e w' => e = .returned (.bool true) ∧ Below w.heap.size w w' := by
  have HT : Hid (Tabs w) := ht
  have HMay := fun W => rMay_any c W hz
  rw [hc, val_arr] at HMay
  have HI : Hid _ := arr_info c
  obtain ⟨ao, cap, rfl⟩ := hbad.shaped
  clear hc hz ht hbad
  generalize c.arr = cs at HMay HI ⊢
  by_cases h6 : (6 : Int) < (bad.length : Int)
  · go_enter Tryd.func8, Tryd.ntmps8
    go_wp2_with (first | (refine wpList_load_row rfl 23 (.tmp 4) rfl w.heap.size rfl 23 cs (0, 0) _ (heap_alloc_new w _) Tryd.underlying23 rfl HI.out ?_) | fail)
    refine (HMay _).mono ?_
    rintro e w1 ⟨rfl, hb⟩
    have HB1 : Hid (Below w.heap.size w w1) := ((Below.refl _ w).alloc (Nat.le_refl _) _).trans (hb.mono (by simp))
    clear hb HMay
    go_wp2_with fail
    refine (awake_any _ (HT.out.below HB1.out)).mono ?_
    rintro e w2 ⟨rfl, hb⟩
    have HB2 : Hid (Below w.heap.size w w2) := HB1.out.trans (hb.mono HB1.out.size)
    clear hb
    go_wp2
    go_ret
    exact ⟨rfl, HB2.out⟩
  · have h100 : (100 : Int) < (more.size : Int) := by omega
    go_enter Tryd.func8, Tryd.ntmps8
    go_wp2_with (first | (refine wpList_load_row rfl 23 (.tmp 4) rfl w.heap.size rfl 23 cs (0, 0) _ (heap_alloc_new w _) Tryd.underlying23 rfl HI.out ?_) | fail)
    refine (HMay _).mono ?_
    rintro e w1 ⟨rfl, hb⟩
    have HB1 : Hid (Below w.heap.size w w1) := ((Below.refl _ w).alloc (Nat.le_refl _) _).trans (hb.mono (by simp))
    clear hb HMay
    go_wp2_with fail
    refine (awake_any _ (HT.out.below HB1.out)).mono ?_
    rintro e w2 ⟨rfl, hb⟩
    have HB2 : Hid (Below w.heap.size w w2) := HB1.out.trans (hb.mono HB1.out.size)
    clear hb
    go_wp2
    go_ret
    exact ⟨rfl, HB2.out⟩

set_option maxRecDepth 100000 in
set_option maxHeartbeats 8000000 in
theorem lines_may (c : Cfg) (hc : mayC c = true) (a : Int) (bv : Value) (bad : List ByteArray) (more : ByteArray) (w : World) (ht : Tabs w) (hbad : IsStrs w bv bad) (hbsz : ∀ x ∈ bad, x.size ≤ 9223372036854775807) (h6 : ¬ (6 : Int) < (bad.length : Int)) (h100 : ¬ (100 : Int) < (more.size : Int)) :
    Calls Tryd.prog 8 #[.agg c.arr, .int .i64 a, bv, .string more] w fun e w' => e = .returned (.bool true) ∧ Below w.heap.size w w' := by
  have HT : Hid (Tabs w) := ht
  obtain ⟨M, hM24, hM⟩ := u24_mod a
  obtain ⟨hfits, hzone⟩ := may_parts hc
  have hz : c.zone.size ≤ 9223372036854775807 := by
    rcases hzone with h | h
    · omega
    · have := (clean_name h).2; omega
  have HMay := fun W => rMay_any c W hz
  rw [hc, val_arr] at HMay
  have HX := fun W h => rText_any c W h hz
  have htl : (mkS (textC c)).size ≤ 1000000 := by
    rw [mkS_data', textC_may hc]
    have := someC_length hzone (List.range 23) (fun i hi => by simpa using hi) (fun i hi => hfits i (by simpa using hi))
    simp at this
    omega
  have HPa := fun W => rParts_any (mkS (textC c)) 10 W htl
  obtain ⟨hp1, hp2⟩ := parts_at hc
  rw [hp1] at HPa
  have HSt : Hid (∀ i, i ≤ 23 → (mkS (someC c.nums c.zone (List.range i))).size ≤ 700) := fun i hi => by
    rw [mkS_data']
    have := someC_length hzone (List.range i) (fun j hj => by have : j < i := by simpa using hj
                                                              omega) (fun j hj => hfits j (by have : j < i := by simpa using hj
                                                                                              omega))
    simp at this
    omega
  have HNx : Hid (∀ i, mkS (someC c.nums c.zone (List.range (i + 1))) = mkS (someC c.nums c.zone (List.range i)) ++ (mkS (lineC c.nums c.zone i) ++ ⟨#[10]⟩)) := fun i => by
    rw [someC_next]
    apply ByteArray.ext
    unfold mkS
    simp
  have HS0 : Hid (mkS (someC c.nums c.zone (List.range 0)) = ⟨#[]⟩) := rfl
  have HLi : Hid (∀ i, i < 23 → (mkS (lineC c.nums c.zone i)).size ≤ 25) := fun i hi => by rw [mkS_data']; exact line_short i hi (hfits i hi) hzone
  have HPw : Hid (∀ (hb : ∀ s ∈ bad, nameOK s = true) (h0 : bad.length ≠ 0) (h2 : bad.length ≠ 2) (hmb : ∀ b ∈ more.data.toList, ten32 b) (W : World) (h : TabC W),
      Calls Tryd.prog 10 #[.string (mkS (someC c.nums c.zone (List.range M)) ++ mkS (badL bad) ++ ⟨#[10]⟩ ++ more)] W fun e w' => e = .returned (.tuple #[.agg zeroC.arr, .int .i64 ((M + 1 : Nat) : Int), .int .i64 2]) ∧ Below W.heap.size W w') := fun hb h0 h2 hmb W h => by
    have e : mkS (someC c.nums c.zone (List.range M)) ++ mkS (badL bad) ++ ⟨#[10]⟩ ++ more = mkS (someC c.nums c.zone (List.range M) ++ (badL bad ++ 10 :: more.data.toList)) := by
      apply ByteArray.ext
      unfold mkS
      simp
    have hp := parse_wrong hc M (by omega) bad hb (by omega) h0 h2 more.data.toList (by show more.size ≤ 100; omega) hmb
    have hsz : (mkS (someC c.nums c.zone (List.range M) ++ (badL bad ++ 10 :: more.data.toList))).size ≤ 9223372036854775807 := by
      have h1 := HSt.out M (by omega)
      rw [mkS_data'] at h1 ⊢
      have h2 := badL_length hb
      have h3 : more.data.toList.length = more.size := rfl
      simp only [List.length_append, List.length_cons]
      omega
    have := parse_any _ W h hsz
    rw [hp] at this
    rw [e]
    exact this
  have HAw := fun W h => awake_any W h
  have HI : Hid _ := arr_info c
  have HIz : Hid _ := arr_info zeroC
  have HOz : Hid _ := arr_one zeroC
  have HSz2 : Hid (zeroC.arr.size = 23) := rfl
  have HAt : Hid (∀ i, i < 23 → (partsV (mkS (textC c)) 10).getD i ByteArray.empty = mkS (lineC c.nums c.zone i)) := hp2
  have HPl : Hid ((partsV (mkS (textC c)) 10).length = 24) := hp1
  obtain ⟨bo, bc, rfl⟩ := hbad.shaped
  have HBd : Hid (IsStrs w (.slice bo bad.length bc) bad) := hbad
  have HBs : Hid (∀ x ∈ bad, x.size ≤ 9223372036854775807) := hbsz
  clear hc hz ht htl hfits hzone hp1 hp2 hbad hbsz
  generalize partsV (mkS (textC c)) 10 = PV at HPa HAt HPl
  generalize mkS (textC c) = TX at HX HPa
  generalize c.arr = cs at HMay HX HI ⊢
  generalize zeroC.arr = zs at HPw HIz HOz HSz2
  generalize lineC c.nums c.zone = LN at HNx HLi HAt
  generalize someC c.nums c.zone = SM at HPw HNx HSt HS0
  go_enter Tryd.func8, Tryd.ntmps8
  go_wp2_with (first | (refine wpList_load_row rfl 23 (.tmp 4) rfl w.heap.size rfl 23 cs (0, 0) _ (heap_alloc_new w _) Tryd.underlying23 rfl HI.out ?_) | fail)
  generalize hW0 : w.alloc _ = W0
  have HC0 : Hid (CellsAt W0 w.heap.size cs) := by show CellsAt _ _ _; rw [← hW0]; exact heap_alloc_new w _
  have HB0 : Hid (Below w.heap.size w W0) := by show Below _ _ _; rw [← hW0]; exact (Below.refl _ _).alloc (Nat.le_refl _) _
  clear hW0
  refine (HMay _).mono ?_
  rintro e w1 ⟨rfl, hb⟩
  have HC1 : Hid (CellsAt w1 w.heap.size cs) := HC0.out.below hb
  have HB1 : Hid (Below w.heap.size w w1) := HB0.out.trans (hb.mono HB0.out.size)
  clear hb HMay HC0 HB0
  go_wp2_with (first | (refine wpList_load_row rfl 23 (.tmp 4) rfl w.heap.size rfl 23 cs (0, 0) _ HC1.out Tryd.underlying23 rfl HI.out ?_) | fail)
  refine (HX _ (HT.out.below HB1.out)).mono ?_
  rintro e w2 ⟨rfl, hb⟩
  have HB2 : Hid (Below w.heap.size w w2) := HB1.out.trans (hb.mono HB1.out.size)
  clear hb HX HC1 HB1
  go_wp2_with fail
  refine (HPa _).mono ?_
  rintro e w3 ⟨pv, rfl, hr, hb⟩
  have HB3 : Hid (Below w.heap.size w w3) := HB2.out.trans (hb.mono HB2.out.size)
  have hcap := hr.2.1.2
  rcases hr.2.2 with ⟨h0, _⟩ | ⟨_, b, off, cap, rfl, hbl, hcl⟩
  · omega
  have HCl : Hid (∀ i, i < 23 → w3.cell? ⟨b, off + i, none⟩ = some (.string (mkS (LN i)))) := fun i hi => by
    rw [hcl i (by omega), ← HAt.out i hi]
    have : i < PV.length := by rw [HPl.out]; omega
    simp [this]
  have HBd3 : Hid (IsStrs w3 (.slice bo bad.length bc) bad) := HBd.out.below HB3.out
  have hcap2 : 24 ≤ cap := by unfold roomy at hcap; exact hcap.1
  have hcap3 : (cap : Int) ≤ 9223372036854775807 := by unfold roomy maxLen at hcap; omega
  clear hb hr hcl HPa HB2 hcap HBd
  have hM0 : IntKind.i64.wrap (M : Int) = (M : Int) := wrap_small (by omega) (by omega)
  have h10 : (⟨#[10]⟩ : ByteArray).size = 1 := rfl
  have h32 : (⟨#[32]⟩ : ByteArray).size = 1 := rfl
  go_wp2
  go_loopw [11, 58] (fun t q wr => ∃ i : Nat, i ≤ M ∧ q = .int .i64 i ∧ t = .string (mkS (SM (List.range i))) ∧ w3 = wr) (fun _ q _ => M - (intOf q).toNat)
  case atStart => exact ⟨0, Nat.zero_le _, rfl, by rw [HS0.out], rfl⟩
  case round =>
    obtain ⟨i, hi, rfl, rfl, rfl⟩ := hrel
    by_cases hlt : i < M
    · have hc := HCl.out i (by omega)
      have hN := HNx.out i
      have HN : Hid _ := hN
      have hs1 := HSt.out i (by omega)
      have hs2 := HLi.out i (by omega)
      clear hN
      obtain ⟨S1, hS1⟩ : ∃ S1, mkS (SM (List.range (i + 1))) = S1 := ⟨_, rfl⟩
      rw [hS1] at HN
      have HS1 : Hid (mkS (SM (List.range (i + 1))) = S1) := hS1
      clear hS1
      generalize mkS (SM (List.range i)) = S0 at HN hs1 ⊢
      generalize mkS (LN i) = lj at HN hc hs2
      go_wp2
      go_roundw
      case rel => exact ⟨i + 1, by omega, by go_num, by rw [HS1.out, HN.out], by first | rfl | trivial⟩
      case measure => simp [intOf]; omega
    · obtain rfl : i = M := by omega
      have hsM := HSt.out i (by omega)
      clear HCl HNx HSt HS0 HLi HAt
      generalize mkS (SM (List.range i)) = S0 at HPw hsM ⊢
      go_wp2
      go_loopw [14, 69] (fun t q wr => ∃ j : Nat, j ≤ bad.length ∧ q = .int .i64 j ∧ t = .string (mkS (badL (bad.take j))) ∧ (∀ s ∈ bad.take j, nameOK s = true) ∧ w3 = wr) (fun _ q _ => bad.length - (intOf q).toNat)
      case atStart => exact ⟨0, Nat.zero_le _, rfl, rfl, fun s hs => by simp at hs, rfl⟩
      case round =>
        obtain ⟨j, hj, rfl, rfl, hok, rfl⟩ := hrel
        have HOk : Hid (∀ s ∈ bad.take j, nameOK s = true) := hok
        have hbl2 : (mkS (badL (bad.take j))).size ≤ 78 := by
          rw [mkS_data']
          have h1 := badL_length hok
          rw [List.length_take] at h1
          omega
        clear hok
        by_cases hlt2 : j < bad.length
        · obtain ⟨g, off2, rfl, hgl, hgc⟩ := strsAt HBd3.out j hlt2
          have HN : Hid (badL (bad.take (j + 1)) = badL (bad.take j) ++ ((bad.getD j ByteArray.empty).data.toList ++ [32])) := bad_take bad j hlt2
          have hxs : (bad.getD j ByteArray.empty).size ≤ 9223372036854775807 := by
            have e : bad.getD j ByteArray.empty = bad[j] := by simp [hlt2]
            rw [e]; exact HBs.out _ (List.getElem_mem hlt2)
          have HTk : Hid (nameOK (bad.getD j ByteArray.empty) = true → ∀ s ∈ bad.take (j + 1), nameOK s = true) := fun h s hs => by
            rw [List.take_succ_eq_append_getElem hlt2] at hs
            rcases List.mem_append.1 hs with h1 | h1
            · exact HOk.out s h1
            · rw [List.mem_singleton] at h1
              have e : bad.getD j ByteArray.empty = bad[j] := by simp [hlt2]
              rw [h1, ← e]; exact h
          have HW := rWord_any (bad.getD j ByteArray.empty)
          have HSx : Hid (nameOK (bad.getD j ByteArray.empty) = true → (bad.getD j ByteArray.empty).size ≤ 12) := fun h => (clean_name h).2
          generalize bad.getD j ByteArray.empty = x at hgc HN hxs HTk HW HSx
          cases hnx : nameOK x with
          | false =>
            rw [hnx] at HW
            clear HN HTk HSx hnx
            go_wp2_with fail
            refine (HW _ hxs).mono ?_
            rintro e w8 ⟨rfl, hw8⟩
            subst w8
            go_wp2_with fail
            refine (HAw _ (HT.out.below HB3.out)).mono ?_
            rintro e w9 ⟨rfl, hb⟩
            have HB9 : Hid (Below w.heap.size w w9) := HB3.out.trans (hb.mono HB3.out.size)
            clear hb
            go_wp2
            go_ret
            exact ⟨rfl, HB9.out⟩
          | true =>
            have hx12 := HSx.out hnx
            have HO2 : Hid (∀ s ∈ bad.take (j + 1), nameOK s = true) := HTk.out hnx
            rw [hnx] at HW
            have HCt : Hid (mkS (badL (bad.take (j + 1))) = mkS (badL (bad.take j)) ++ (x ++ ⟨#[32]⟩)) := by
              show _ = _
              rw [HN.out]
              apply ByteArray.ext
              unfold mkS
              simp
            clear HN HTk HSx hnx
            obtain ⟨S1, hS1⟩ : ∃ S1, mkS (badL (bad.take (j + 1))) = S1 := ⟨_, rfl⟩
            rw [hS1] at HCt
            have HS1 : Hid (mkS (badL (bad.take (j + 1))) = S1) := hS1
            clear hS1
            generalize mkS (badL (bad.take j)) = B0 at HCt hbl2 ⊢
            go_wp2_with fail
            refine (HW _ hxs).mono ?_
            rintro e w8 ⟨rfl, hw8⟩
            subst w8
            go_wp2
            go_roundw
            case rel => exact ⟨j + 1, by omega, by go_num, by rw [HS1.out, HCt.out], HO2.out, by first | rfl | trivial⟩
            case measure => simp [intOf]; omega
        · obtain rfl : j = bad.length := by omega
          rw [List.take_length] at hbl2 HOk ⊢
          go_wp2
          go_loopw [84] (fun q wr => ∃ m : Nat, m ≤ more.size ∧ q = .int .i64 m ∧ (∀ b ∈ upto more m, ten32 b) ∧ w3 = wr) (fun q _ => more.size - (intOf q).toNat)
          case atStart => exact ⟨0, Nat.zero_le _, rfl, by simp [upto], rfl⟩
          case round =>
            obtain ⟨m, hm, rfl, hd, rfl⟩ := hrel
            have HD : Hid (∀ b ∈ upto more m, ten32 b) := hd
            clear hd
            by_cases hlt3 : m < more.size
            · have hsu := upto_succ more m hlt3
              have HDn : Hid (ten32 more[m] → ∀ b ∈ upto more (m + 1), ten32 b) := fun h b hb => by
                rw [hsu] at hb
                rcases List.mem_append.1 hb with h1 | h1
                · exact HD.out b h1
                · rw [List.mem_singleton] at h1; rw [h1]; exact h
              have HTen : Hid (∀ b : UInt8, ten32 b ↔ (b.toNat = 10 ∨ (32 ≤ b.toNat ∧ b.toNat ≤ 126))) := fun b => Iff.rfl
              have hub := (more[m]).toNat_lt
              clear hsu
              by_cases d10 : ((more[m]).toNat : Int) = 10
              · have HO2 : Hid (∀ b ∈ upto more (m + 1), ten32 b) := HDn.out ((HTen.out _).2 (.inl (by omega)))
                have hd10 : (((more[m]).toNat : Int) == 10) = true := by rw [beq_iff_eq]; exact d10
                have hdn : (((more[m]).toNat : Int) != 10) = false := by rw [bne, hd10]; rfl
                clear HDn
                go_wp2
                go_roundw
                case rel => exact ⟨m + 1, by omega, by go_num, HO2.out, by first | rfl | trivial⟩
                case measure => simp [intOf]; omega
              · have hd10 : (((more[m]).toNat : Int) == 10) = false := by rw [beq_eq_false_iff_ne]; exact d10
                have hdn : (((more[m]).toNat : Int) != 10) = true := by rw [bne, hd10]; rfl
                by_cases d1 : ((more[m]).toNat : Int) < 32
                · clear HDn d10
                  go_wp2_with fail
                  refine (HAw _ (HT.out.below HB3.out)).mono ?_
                  rintro e w9 ⟨rfl, hb⟩
                  have HB9 : Hid (Below w.heap.size w w9) := HB3.out.trans (hb.mono HB3.out.size)
                  clear hb
                  go_wp2
                  go_ret
                  exact ⟨rfl, HB9.out⟩
                · by_cases d2 : (126 : Int) < ((more[m]).toNat : Int)
                  · clear HDn d10
                    go_wp2_with fail
                    refine (HAw _ (HT.out.below HB3.out)).mono ?_
                    rintro e w9 ⟨rfl, hb⟩
                    have HB9 : Hid (Below w.heap.size w w9) := HB3.out.trans (hb.mono HB3.out.size)
                    clear hb
                    go_wp2
                    go_ret
                    exact ⟨rfl, HB9.out⟩
                  · have HO2 : Hid (∀ b ∈ upto more (m + 1), ten32 b) := HDn.out ((HTen.out _).2 (.inr ⟨by omega, by omega⟩))
                    clear HDn d10
                    go_wp2
                    go_roundw
                    case rel => exact ⟨m + 1, by omega, by go_num, HO2.out, by first | rfl | trivial⟩
                    case measure => simp [intOf]; omega
            · have hall := HD.out
              rw [upto_all more m (by omega)] at hall
              have HAll : Hid (∀ b ∈ more.data.toList, ten32 b) := hall
              clear hall HD
              by_cases h0 : bad.length = 0
              · have hb0 : ((bad.length : Int) == 0) = true := by rw [beq_iff_eq]; omega
                clear HPw
                go_wp2_with fail
                refine (HAw _ (HT.out.below HB3.out)).mono ?_
                rintro e w9 ⟨rfl, hb⟩
                have HB9 : Hid (Below w.heap.size w w9) := HB3.out.trans (hb.mono HB3.out.size)
                clear hb
                go_wp2
                go_ret
                exact ⟨rfl, HB9.out⟩
              · have hb0 : ((bad.length : Int) == 0) = false := by rw [beq_eq_false_iff_ne]; omega
                by_cases h2 : bad.length = 2
                · have hb2 : ((bad.length : Int) == 2) = true := by rw [beq_iff_eq]; omega
                  clear HPw
                  go_wp2_with fail
                  refine (HAw _ (HT.out.below HB3.out)).mono ?_
                  rintro e w9 ⟨rfl, hb⟩
                  have HB9 : Hid (Below w.heap.size w w9) := HB3.out.trans (hb.mono HB3.out.size)
                  clear hb
                  go_wp2
                  go_ret
                  exact ⟨rfl, HB9.out⟩
                · have hb2 : ((bad.length : Int) == 2) = false := by rw [beq_eq_false_iff_ne]; omega
                  have HP := HPw.out HOk.out h0 h2 HAll.out
                  clear HPw HOk HAll
                  have hi1 : (((i + 1 : Nat) : Int) == (i : Int) + 1) = true := by rw [beq_iff_eq]; omega
                  generalize hBL : mkS (badL bad) = BL at HP hbl2 ⊢
                  clear hBL
                  obtain ⟨N1, hN1⟩ : ∃ N1 : Int, ((i + 1 : Nat) : Int) = N1 := ⟨_, rfl⟩
                  rw [hN1] at HP hi1
                  clear hN1
                  go_wp2_with fail
                  refine (HP _ (HT.out.below HB3.out).1).mono ?_
                  rintro e w7 ⟨rfl, hb⟩
                  have HF := fun o => stored_facts (HB3.out.trans (hb.mono HB3.out.size)) (D := zs) (o := o)
                  clear hb HP
                  go_wp2_with (first | (refine wpList_store_row rfl 23 (.tmp 18) (.tmp 122) rfl w7.heap.size zs rfl rfl 23 _ (heap_alloc_new w7 _) HIz.out HSz2.out.symm HOz.out ?_; obtain ⟨hf1, hf2⟩ := HF _; generalize World.setRow _ _ _ = W8 at hf1 hf2 ⊢; have HF2 : Hid _ := hf2; clear hf1 hf2 HF) | fail)
                  refine (HAw _ (HT.out.below HF2.out)).mono ?_
                  rintro e w9 ⟨rfl, hb⟩
                  have HB9 : Hid (Below w.heap.size w w9) := Below.trans HF2.out (hb.mono (Below.size HF2.out))
                  clear hb
                  go_wp2
                  go_ret
                  exact ⟨rfl, HB9.out⟩

theorem walk_ConfigLines (c : Cfg) (hz : c.zone.size ≤ 9223372036854775807) (a : Int) (_ : -9223372036854775808 ≤ a ∧ a ≤ 9223372036854775807) (bv : Value) (bad : List ByteArray) (more : ByteArray) (_ : more.size ≤ maxLen) (w : World) (ht : Tabs w) (hbad : IsStrs w bv bad ∧ ∀ x ∈ bad, x.size ≤ maxLen) :
    Calls Tryd.prog 8 #[.agg c.arr, .int .i64 a, bv, .string more] w fun e w' => e = .returned (.bool true) ∧ Below w.heap.size w w' := by
  cases hc : mayC c with
  | false => exact lines_not c hz hc a bv more w ht
  | true =>
    by_cases hl : 6 < bad.length ∨ 100 < more.size
    · exact lines_long c hz hc a bv bad more w ht hbad.1 hl
    · exact lines_may c hc a bv bad more w ht hbad.1 (fun x hx => hbad.2 x hx) (by omega) (by omega)

theorem reads_ConfigLines (os : Os) {H : Type} (enc : TypeId × Value → H) : ∃ places, DataW.whole enc Tryd.prog ((laidWorld os).forCall (fun _ _ => 0) ⟨#[], #[.agg #[.int .i64 0, .int .i64 0, .int .i64 0, .int .i64 0, .int .i64 0, .int .i64 0, .int .i64 0, .int .i64 0, .int .i64 0, .int .i64 0, .int .i64 0, .int .i64 0, .int .i64 0, .int .i64 0, .int .i64 0, .bool false, .int .i64 0, .int .i64 0, .int .i64 0, .int .i64 0, .int .i64 0, .string ByteArray.empty, .bool false], .int .i64 0, .slice none 0 0, .string ByteArray.empty], []⟩).memory Tryd.f8.params.toList Rows.configLinesSpec.vars false (#[.agg #[.int .i64 0, .int .i64 0, .int .i64 0, .int .i64 0, .int .i64 0, .int .i64 0, .int .i64 0, .int .i64 0, .int .i64 0, .int .i64 0, .int .i64 0, .int .i64 0, .int .i64 0, .int .i64 0, .int .i64 0, .bool false, .int .i64 0, .int .i64 0, .int .i64 0, .int .i64 0, .int .i64 0, .string ByteArray.empty, .bool false], .int .i64 0, .slice none 0 0, .string ByteArray.empty] : Array Value).toList 8 = some ([.agg [.lit (.int .i64 0), .lit (.int .i64 0), .lit (.int .i64 0), .lit (.int .i64 0), .lit (.int .i64 0), .lit (.int .i64 0), .lit (.int .i64 0), .lit (.int .i64 0), .lit (.int .i64 0), .lit (.int .i64 0), .lit (.int .i64 0), .lit (.int .i64 0), .lit (.int .i64 0), .lit (.int .i64 0), .lit (.int .i64 0), .lit (.bool false), .lit (.int .i64 0), .lit (.int .i64 0), .lit (.int .i64 0), .lit (.int .i64 0), .lit (.int .i64 0), .lit (.string []), .lit (.bool false)], .lit (.int .i64 0), .nil, .lit (.string [])], [], places) :=
  ⟨[], by kernel_rfl⟩

set_option maxRecDepth 100000 in
theorem lifted_ConfigLines (os : Os) (started : os.Started) (H : Type) (enc : TypeId × Value → H) (F : Stop.Interp) :
    ReturnsInHanded {} Tryd.checked os 8 .any ((OpenSpec.ofChange Rows.configLinesSpec).preRow enc Tryd.prog Tryd.f8 Rows.configLinesRow.domain false Rows.configLinesRow.laid) (((OpenSpec.ofChange Rows.configLinesSpec).at F).post enc Tryd.prog Tryd.f8 false true false false) := by
  obtain ⟨places, hx⟩ := reads_ConfigLines os enc
  refine returnsInHanded_of_row (C := Tryd.checked) (s := OpenSpec.ofChange Rows.configLinesSpec) own started (by kernel_rfl) Tryd.func8
    (witness_row_at (enc := enc) (C := Tryd.checked) false (laidWorld os) #[.agg #[.int .i64 0, .int .i64 0, .int .i64 0, .int .i64 0, .int .i64 0, .int .i64 0, .int .i64 0, .int .i64 0, .int .i64 0, .int .i64 0, .int .i64 0, .int .i64 0, .int .i64 0, .int .i64 0, .int .i64 0, .bool false, .int .i64 0, .int .i64 0, .int .i64 0, .int .i64 0, .int .i64 0, .string ByteArray.empty, .bool false], .int .i64 0, .slice none 0 0, .string ByteArray.empty] rfl (by kernel_rfl) (by kernel_rfl) (by kernel_rfl)
      (OpenSpec.preRow_of_cond 8 hx (by kernel_rfl) (fun k hk => by cases hk) (by kernel_rfl) (laid_met os _))) ?_
  intro W base args ds gs before hval0 hW _ _ hsz0 hL _ _
  have htab := table hL
  have hval : ∀ (j : Nat) t v, Tryd.f8.params[j]? = some t → args[j]? = some v → Value.okWide Tryd.prog W .any base t v := hval0
  have hW' := hW
  obtain ⟨p, q, hA0, hV, rfl, hfz, hnd⟩ := hW
  have hA : DataW.TrodAll enc Tryd.prog W 0 (fun _ => true) true Tryd.f8.params.toList args.toList ds p := hA0
  rw [Tryd.params8] at hA hval
  obtain ⟨v0, vs0, d0, ds0, p0, q0, hargs, rfl, rfl, h0, r0⟩ := trodAll_cons hA
  obtain ⟨v1, vs1, d1, ds1, p1, q1, rfl, rfl, rfl, h1, r1⟩ := trodAll_cons r0
  obtain ⟨v2, vs2, d2, ds2, p2, q2, rfl, rfl, rfl, h2, r2⟩ := trodAll_cons r1
  obtain ⟨v3, vs3, d3, ds3, p3, q3, rfl, rfl, rfl, h3, r3⟩ := trodAll_cons r2
  obtain ⟨rfl, rfl, rfl⟩ := trodAll_nil r3
  obtain rfl : args = #[v0, v1, v2, v3] := by cases args; simp_all
  obtain ⟨rfl, rfl⟩ := trodVars_none hV
  have k0 := h0
  have lt0 : ∀ x ∈ p0, x.block < W.heap.size := by obtain ⟨m, hm⟩ := k0; exact DataW.trod_lt m _ _ _ hm
  obtain ⟨z0, rfl, w0⟩ := open_cfg (hval 0 23 v0 rfl rfl) h0
  obtain ⟨a1, rfl, rfl, rfl, w1⟩ := open_int Tryd.underlying3 (hval 1 3 v1 rfl rfl) h1
  have k2 := h2
  have lt2 : ∀ x ∈ p2, x.block < W.heap.size := by obtain ⟨m, hm⟩ := k2; exact DataW.trod_lt m _ _ _ hm
  obtain ⟨z2, w2⟩ := open_bad (hval 2 34 v2 rfl rfl) h2
  obtain ⟨a3, rfl, rfl, rfl, w3⟩ := open_string Tryd.underlying9 (hval 3 9 v3 rfl rfl) h3
  clear hA0 hval0
  refine (walk_ConfigLines z0 w0 a1 (bounds_i64 w1) _ z2 a3 w3 W htab w2).mono fun e W' ⟨he, bel⟩ => ?_
  subst he
  exact ⟨_, rfl, _, _, _, [], _, [], hW', trodAll_mk1 (shut_bool Tryd.underlying4 _), (trodAll_cons_mk (Below.trod laidOut (by kernel_rfl) (of_decide_eq_true (by kernel_rfl)) k0 bel lt0) (trodAll_cons_mk (shut_int Tryd.underlying3 w1) (trodAll_cons_mk (Below.trod laidOut (by kernel_rfl) (of_decide_eq_true (by kernel_rfl)) k2 bel lt2) (trodAll_cons_mk (shut_string Tryd.underlying9 w3) trodAll_mk0)))), rfl, bel.frame _, fun h => by cases h⟩

theorem said_ConfigLines : Rows.ConfigLinesSaid :=
  OpenClaim.holds_of_cond 8 Tryd.f8 rfl rfl rfl rfl rfl rfl rfl ⟨rfl, rfl, rfl, rfl, rfl⟩ rfl rfl rfl rfl rfl (by kernel_rfl) Tryd.func8 (by kernel_rfl)
    (of_decide_eq_true (by kernel_rfl)) (by unfold Func.isWrapper; first | (rw [if_pos (by decide +kernel)]; kernel_rfl) | (rw [if_neg (by decide +kernel)]; exact ⟨rfl, rfl⟩))
    (fun os started H enc _ F => by rw [OpenClaim.pre_eq_preRow]; exact lifted_ConfigLines os started H enc F)

theorem plain_ConfigLines (f : FuncId) (fn : Func) (hf : Tryd.pinned.checked.prog.funcNamed Rows.configLinesRow.func = some f) (hfn : Tryd.pinned.checked.prog.funcs[f]? = some fn) :
    false = Tryd.pinned.checked.prog.looks [] ∧ ∀ (j : Nat) t, fn.params[j]? = some t → Tryd.pinned.checked.prog.wantsStandIn t = false := by
  obtain rfl : f = 8 := Option.some.inj ((show Tryd.prog.funcNamed Rows.configLinesRow.func = some 8 by kernel_rfl).symm.trans hf) |>.symm
  obtain rfl : fn = Tryd.f8 := (Option.some.inj (Tryd.func8.symm.trans hfn)).symm
  refine ⟨by kernel_rfl, fun j t ht => ?_⟩
  rw [Tryd.params8] at ht
  have hm := Array.mem_of_getElem? ht
  simp only [List.mem_toArray, List.mem_cons, List.not_mem_nil, or_false] at hm
  rcases hm with rfl | rfl | rfl | rfl
  · exact (show Tryd.prog.wantsStandIn 23 = false by kernel_rfl)
  · exact (show Tryd.prog.wantsStandIn 3 = false by kernel_rfl)
  · exact (show Tryd.prog.wantsStandIn 34 = false by kernel_rfl)
  · exact (show Tryd.prog.wantsStandIn 9 = false by kernel_rfl)

/-- The statement. -/
theorem configLines_holds : Rows.ConfigLinesCardSaid :=
  Claim7.holds_tied_plain_at .later [] _ _ _ _ said_ConfigLines (fun _ h => by cases h) (by kernel_rfl) (fun _ h => by cases h) configLines_row_tie rfl ⟨rfl, rfl⟩ (by kernel_rfl) rfl plain_ConfigLines (by kernel_rfl)
#print axioms configLines_holds

end Go.Proofs.YtmhbfcjlbhighaaDoor
