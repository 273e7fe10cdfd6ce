/-
  The reference's answers to chapter 6: a configuration's text.
-/
import Derived.Test.YtkninlahlgipoaaDoorRefMayC
import Derived.Test.YtkninlahlgipoaaDoorConf9
import Derived.Test.YtkninlahlgipoaaDoorConf5
namespace Go.Proofs.YtkninlahlgipoaaDoor
open Go.RowKit

theorem names_other (k : Nat) (hk : k < 23) : (k ≠ 21 → ((nameC k).toList == [122, 111, 110, 101]) = false) ∧ (k ≠ 20 → ((nameC k).toList == [112, 111, 108, 105, 99, 121]) = false) ∧ (k ≠ 15 → ((nameC k).toList == [111, 110, 101]) = false) ∧ (k ≠ 22 → ((nameC k).toList == [102, 97, 108, 108, 98, 97, 99, 107]) = false) := by
  have h : ∀ k : Fin 23, (k.1 ≠ 21 → ((nameC k.1).data.toList == [122, 111, 110, 101]) = false) ∧ (k.1 ≠ 20 → ((nameC k.1).data.toList == [112, 111, 108, 105, 99, 121]) = false) ∧ (k.1 ≠ 15 → ((nameC k.1).data.toList == [111, 110, 101]) = false) ∧ (k.1 ≠ 22 → ((nameC k.1).data.toList == [102, 97, 108, 108, 98, 97, 99, 107]) = false) := by decide +kernel
  rw [ByteArray.toList_eq]
  exact h ⟨k, hk⟩
theorem someC_next (n : List Int) (z : ByteArray) (k : Nat) : someC n z (List.range (k + 1)) = someC n z (List.range k) ++ (lineC n z k ++ [10]) := by
  unfold someC
  rw [List.range_succ, List.flatMap_append]
  simp
theorem line_cat (a : List UInt8) (n : List Int) (z : ByteArray) (k : Nat) : mkS a ++ (((nameC k ++ ⟨#[32]⟩) ++ valW n z k) ++ ⟨#[10]⟩) = mkS (a ++ (lineC n z k ++ [10])) := by
  apply ByteArray.ext
  unfold mkS lineC
  simp

set_option maxRecDepth 100000 in
set_option maxHeartbeats 4000000 in
theorem rText_may (c : Cfg) (hc : mayC c = true) (w : World) (ht : Tabs w) :
    Calls Tryd.prog 8 #[.agg c.arr] w fun e w' => e = .returned (.string (mkS (textC c))) ∧ Below w.heap.size w w' := by
  have HT : Hid (Tabs w) := ht
  obtain ⟨hfits, hzone⟩ := may_parts hc
  have hz : c.zone.size ≤ 9223372036854775807 := by
    rcases hzone with h | h
    · omega
    · have := (clean_name h).2; omega
  have HMay := fun W => rMay_any c W hz
  rw [hc, val_arr] at HMay
  have HNums := fun W => rNums_any c W
  rw [val_arr] at HNums
  have HI : Hid _ := (show (Tryd.prog.info? 23).map (·.size) = some c.arr.size by rw [arr_size]; kernel_rfl)
  have HZn : Hid (c.arr[21]? = some (.string c.zone)) := arr_zone c
  have HEnd : Hid (mkS (someC c.nums c.zone (List.range 23)) = mkS (textC c)) := by show _ = _; rw [textC_may hc]
  have HNx : Hid (∀ k, someC c.nums c.zone (List.range (k + 1)) = someC c.nums c.zone (List.range k) ++ (lineC c.nums c.zone k ++ [10])) := someC_next _ _
  have HSz : Hid (∀ k, k ≤ 23 → (someC c.nums c.zone (List.range k)).length ≤ 598) := fun k hk => by
    have := someC_length hzone (List.range k) (fun i hi => by have : i < k := by simpa using hi
                                                              omega) (fun i hi => hfits i (by have : i < k := by simpa using hi
                                                                                              omega))
    simp at this
    omega
  have HCat : Hid (∀ k, mkS (someC c.nums c.zone (List.range k)) ++ (((nameC k ++ ⟨#[32]⟩) ++ valW c.nums c.zone k) ++ ⟨#[10]⟩) = mkS (someC c.nums c.zone (List.range (k + 1)))) := fun k => by
    rw [line_cat, HNx.out k]
  have HVal : Hid (∀ k, k < 23 → (valW c.nums c.zone k).size ≤ 12 ∧ (nameC k).size ≤ 12) := fun k hk => ⟨(val_clean k hk (hfits k hk) hzone).2, (name_clean k hk).2⟩
  have HItoa := fun k hk W h => itoa_any (c.nums.getD k 0) (by have := fits_bounds (hfits k hk); have := bounds_tab k hk; omega) (by have := fits_bounds (hfits k hk); have := bounds_tab k hk; omega) W h
  have HDig : Hid (∀ k, k < 23 → k ≠ 21 → k ≠ 20 → k ≠ 15 → k ≠ 22 → valW c.nums c.zone k = digC (c.nums.getD k 0)) := fun k _ h1 h2 h3 h4 => by
    unfold valW
    rw [if_neg h1, if_neg h2, if_neg (by omega)]
  have HV21 : Hid (valW c.nums c.zone 21 = if c.zone.size = 0 then mkS [45] else c.zone) := rfl
  have HV20 : Hid (valW c.nums c.zone 20 = polW.getD (c.nums.getD 20 0 - 1).toNat ByteArray.empty) := rfl
  have HV15 : Hid (valW c.nums c.zone 15 = yesW.getD (c.nums.getD 15 0).toNat ByteArray.empty) := rfl
  have HV22 : Hid (valW c.nums c.zone 22 = yesW.getD (c.nums.getD 22 0).toNat ByteArray.empty) := rfl
  have HB20 : Hid (c.nums.getD 20 0 = 1 ∨ c.nums.getD 20 0 = 2 ∨ c.nums.getD 20 0 = 3) := by
    have h := fits_bounds (hfits 20 (by omega))
    have e1 : lowC 20 = 1 := rfl
    have e2 : highC 20 = 3 := rfl
    rw [e1, e2] at h
    show _ ∨ _
    omega
  have HB15 : Hid (c.nums.getD 15 0 = 0 ∨ c.nums.getD 15 0 = 1) := by
    have h := fits_bounds (hfits 15 (by omega))
    have e1 : lowC 15 = 0 := rfl
    have e2 : highC 15 = 1 := rfl
    rw [e1, e2] at h
    show _ ∨ _
    omega
  have HB22 : Hid (c.nums.getD 22 0 = 0 ∨ c.nums.getD 22 0 = 1) := by
    have h := fits_bounds (hfits 22 (by omega))
    have e1 : lowC 22 = 0 := rfl
    have e2 : highC 22 = 1 := rfl
    rw [e1, e2] at h
    show _ ∨ _
    omega
  have HS0 : Hid (mkS (someC c.nums c.zone (List.range 0)) = ⟨#[]⟩) := rfl
  clear ht hc hz hfits hzone HNx
  generalize mkS (textC c) = R at HEnd ⊢
  generalize hSC : (fun k => someC c.nums c.zone (List.range k)) = SC at HEnd HSz HCat HS0
  have hSC' : ∀ k, someC c.nums c.zone (List.range k) = SC k := fun k => by rw [← hSC]
  rw [hSC'] at HEnd HS0
  simp only [hSC'] at HSz HCat
  clear hSC hSC'
  generalize valW c.nums c.zone = VW at HCat HVal HDig HV21 HV20 HV15 HV22
  generalize c.nums = NS at HNums HItoa HDig HV20 HV15 HV22 HB20 HB15 HB22
  generalize c.arr = cs at HMay HNums HI HZn ⊢
  generalize c.zone = zn at HZn HV21
  go_enter Tryd.func8, Tryd.ntmps8
  go_wp2_with (first | (refine wpList_load_row rfl 23 (.tmp 1) rfl w.heap.size rfl 23 cs (0, 0) _ (heap_alloc_new w _) Tryd.underlying23 rfl HI.out ?_) | fail)
  generalize hW0 : w.alloc _ = W0
  have HC0 : Hid (CellsAt W0 w.heap.size cs) := by show CellsAt _ _ _; rw [← hW0]; exact heap_alloc_new w _
  have HB0 : Hid (Below w.heap.size w W0) := by show Below _ _ _; rw [← hW0]; exact (Below.refl _ _).alloc (Nat.le_refl _) _
  clear hW0
  refine (HMay _).mono ?_
  rintro e w1 ⟨rfl, hb⟩
  have HC1 : Hid (CellsAt w1 w.heap.size cs) := HC0.out.below hb
  have HB1 : Hid (Below w.heap.size w w1) := HB0.out.trans (hb.mono HB0.out.size)
  clear hb HMay HC0 HB0
  go_wp2_with (first | (refine wpList_load_row rfl 23 (.tmp 1) rfl w.heap.size rfl 23 cs (0, 0) _ HC1.out Tryd.underlying23 rfl HI.out ?_) | fail)
  refine (HNums _).mono ?_
  rintro e w2 ⟨nv, rfl, hn, hb⟩
  obtain ⟨nb, noff, ncap, rfl, hnb, hnc⟩ := numsAt hn (by omega)
  have HNc : Hid (∀ i, i < 23 → w2.cell? ⟨nb, noff + i, none⟩ = some (.int .i64 (NS.getD i 0))) := hnc
  have HNb : Hid (nb < w2.heap.size) := hnb
  have HC2 : Hid (CellsAt w2 w.heap.size cs) := HC1.out.below hb
  have HB2 : Hid (Below w.heap.size w w2) := HB1.out.trans (hb.mono HB1.out.size)
  clear hb hn hnc hnb HC1 HB1 HNums
  go_wp2_with fail
  refine (rRows_any _).mono ?_
  rintro e w3 ⟨v, rfl, hr, hb⟩
  obtain ⟨ao, cap, rfl⟩ := hr.shaped
  have HR : Hid (IsRow 4 w3 (.slice ao 23 cap) 23 rowsV) := hr
  have HB3 : Hid (Below w2.heap.size w2 w3) := hb
  have HC3 : Hid (CellsAt w3 w.heap.size cs) := HC2.out.below hb
  have HBa : Hid (Below w.heap.size w w3) := HB2.out.trans (hb.mono HB2.out.size)
  clear hr hb HC2 HB2
  go_wp2
  go_loopw [4, 15] (fun t q wr => ∃ k : Nat, k ≤ 23 ∧ q = .int .i64 k ∧ t = .string (mkS (SC k)) ∧ Below w3.heap.size w3 wr) (fun _ q _ => 23 - (intOf q).toNat)
  case atStart => exact ⟨0, Nat.zero_le _, rfl, by rw [HS0.out], Below.refl _ _⟩
  case round =>
    obtain ⟨k, hk, rfl, rfl, hb⟩ := hrel
    have HB : Hid (Below w3.heap.size w3 wr) := hb
    clear hb
    by_cases hlt : k < 23
    · obtain ⟨b, off, rfl, hbl, g0, g1, g2, g3⟩ := rowsAt (HR.out.below HB.out) k hlt
      have gn : wr.cell? ⟨nb, noff + k, none⟩ = some (.int .i64 (NS.getD k 0)) := (HB.out.cell (p := ⟨nb, noff + k, none⟩) (by have := HNb.out; have := HB3.out.size; show nb < _; omega)).trans ((HB3.out.cell (p := ⟨nb, noff + k, none⟩) HNb.out).trans (HNc.out k hlt))
      have hnbl : nb < wr.heap.size := by have := HNb.out; have := HB3.out.size; have := HB.out.size; omega
      have HCk : Hid (CellsAt wr w.heap.size cs) := HC3.out.below HB.out
      have HTk : Hid (Tabs wr) := (HT.out.below HBa.out).below HB.out
      have HBk : Hid (Below w.heap.size w wr) := HBa.out.trans (HB.out.mono HBa.out.size)
      have hsz := HSz.out k hk
      have hv := HVal.out k hlt
      have HCt := HCat.out k
      have HIt := HItoa k hlt
      have hms : (mkS (SC k)).size = (SC k).length := rfl
      have h32 : (⟨#[32]⟩ : ByteArray).size = 1 := rfl
      have h10 : (⟨#[10]⟩ : ByteArray).size = 1 := rfl
      generalize selfC k = sv at g3
      generalize lowC k = lv at g1
      generalize highC k = hv' at g2
      obtain ⟨S1', hS1'⟩ : ∃ S, mkS (SC (k + 1)) = S := ⟨_, rfl⟩
      have HS1 : Hid (S1' = mkS (SC (k + 1))) := hS1'.symm
      rw [hS1'] at HCt
      clear hS1'
      by_cases h21 : k = 21
      · have hkk := h21
        clear h21
        subst hkk
        have en : nameC 21 = ⟨#[122, 111, 110, 101]⟩ := rfl
        rw [en] at g0 hv HCt
        clear en
        have hv1 := hv.1
        have hns : (⟨#[122, 111, 110, 101]⟩ : ByteArray).size = 4 := rfl
        have hzc := HCk.out.cell.trans HZn.out
        have hzl : w.heap.size < wr.heap.size := HCk.out.lt
        have hV := HV21.out
        generalize VW 21 = val at HCt hv1 hV
        generalize mkS (SC 21) = S0 at HCt hms
        have hs0 : S0.size ≤ 598 := by omega
        have HCx : Hid _ := HCt
        clear HCt hms hsz hv
        generalize NS.getD 21 0 = x at gn HIt
        generalize digC x = dx at HIt
        by_cases hz0 : zn.size = 0
        · rw [if_pos hz0] at hV
          have hx1 := empty_size zn hz0
          have hx2 : zn.toList = [] := by simpa using hx1
          have hV2 : val = ⟨#[45]⟩ := hV
          subst hV2
          clear hV hx1 hz0
          go_wp2_with fail
          refine (HIt _ (HTk.out.alloc _)).mono ?_
          rintro e w5 ⟨rfl, hb⟩
          have HB5 : Hid (Below w3.heap.size w3 w5) := (HB.out.alloc HB.out.size _).trans (hb.mono (by have := HB.out.size; simp; omega))
          have c0 : w5.cell? ⟨wr.heap.size, 0, none⟩ = some (.string ⟨#[122, 111, 110, 101]⟩) := (hb.cell (p := ⟨wr.heap.size, 0, none⟩) (by simp)).trans (World.cell?_alloc_at _ _ _ _ rfl)
          have hnb5 : nb < w5.heap.size := by have := hb.size; simp at this; omega
          have hwr5 : wr.heap.size < w5.heap.size := by have := hb.size; simp at this; omega
          have cn : w5.cell? ⟨nb, noff + 21, none⟩ = some (.int .i64 x) := (hb.cell (p := ⟨nb, noff + 21, none⟩) (by simp; omega)).trans ((World.cell?_alloc_past _ _ _ hnbl).trans gn)
          have cz : w5.cell? ⟨w.heap.size, 21, none⟩ = some (.string zn) := (hb.cell (p := ⟨w.heap.size, 21, none⟩) (by simp; omega)).trans ((World.cell?_alloc_past _ _ _ hzl).trans hzc)
          have hzl5 : w.heap.size < w5.heap.size := by have := hb.size; simp at this; omega
          clear hb HIt g0 g1 g2 g3 gn
          go_wp2
          go_roundw
          case rel => exact ⟨21 + 1, by omega, by go_num, by rw [← HS1.out, ← HCx.out], HB5.out⟩
          case measure => simp [intOf] <;> omega
        · rw [if_neg hz0] at hV
          have hx1 := nonempty_size zn hz0
          have hx2 : zn.toList.isEmpty = false := by simpa using hx1
          have hV2 := hV.symm
          subst hV2
          clear hz0 hV
          go_wp2_with fail
          refine (HIt _ (HTk.out.alloc _)).mono ?_
          rintro e w5 ⟨rfl, hb⟩
          have HB5 : Hid (Below w3.heap.size w3 w5) := (HB.out.alloc HB.out.size _).trans (hb.mono (by have := HB.out.size; simp; omega))
          have c0 : w5.cell? ⟨wr.heap.size, 0, none⟩ = some (.string ⟨#[122, 111, 110, 101]⟩) := (hb.cell (p := ⟨wr.heap.size, 0, none⟩) (by simp)).trans (World.cell?_alloc_at _ _ _ _ rfl)
          have hnb5 : nb < w5.heap.size := by have := hb.size; simp at this; omega
          have hwr5 : wr.heap.size < w5.heap.size := by have := hb.size; simp at this; omega
          have cn : w5.cell? ⟨nb, noff + 21, none⟩ = some (.int .i64 x) := (hb.cell (p := ⟨nb, noff + 21, none⟩) (by simp; omega)).trans ((World.cell?_alloc_past _ _ _ hnbl).trans gn)
          have cz : w5.cell? ⟨w.heap.size, 21, none⟩ = some (.string zn) := (hb.cell (p := ⟨w.heap.size, 21, none⟩) (by simp; omega)).trans ((World.cell?_alloc_past _ _ _ hzl).trans hzc)
          have hzl5 : w.heap.size < w5.heap.size := by have := hb.size; simp at this; omega
          clear hb HIt g0 g1 g2 g3 gn
          go_wp2
          go_roundw
          case rel => exact ⟨21 + 1, by omega, by go_num, by rw [← HS1.out, ← HCx.out], HB5.out⟩
          case measure => simp [intOf] <;> omega
      · by_cases h20 : k = 20
        · have hkk := h20
          clear h20 h21
          subst hkk
          have en : nameC 20 = ⟨#[112, 111, 108, 105, 99, 121]⟩ := rfl
          rw [en] at g0 hv HCt
          clear en
          have hv1 := hv.1
          have hns : (⟨#[112, 111, 108, 105, 99, 121]⟩ : ByteArray).size = 6 := rfl
          have hV := HV20.out
          generalize VW 20 = val at HCt hv1 hV
          generalize mkS (SC 20) = S0 at HCt hms
          have hs0 : S0.size ≤ 598 := by omega
          have HCx : Hid _ := HCt
          clear HCt hms hsz hv
          have hx := HB20.out
          generalize NS.getD 20 0 = x at gn HIt hx hV
          generalize digC x = dx at HIt
          rcases hx with rfl | rfl | rfl
          · have hV2 : val = ⟨#[114, 111, 117, 110, 100]⟩ := hV
            subst hV2
            clear hV
            go_wp2_with fail
            refine (HIt _ (HTk.out.alloc _)).mono ?_
            rintro e w5 ⟨rfl, hb⟩
            have HB5 : Hid (Below w3.heap.size w3 w5) := (HB.out.alloc HB.out.size _).trans (hb.mono (by have := HB.out.size; simp; omega))
            have c0 : w5.cell? ⟨wr.heap.size, 0, none⟩ = some (.string ⟨#[112, 111, 108, 105, 99, 121]⟩) := (hb.cell (p := ⟨wr.heap.size, 0, none⟩) (by simp)).trans (World.cell?_alloc_at _ _ _ _ rfl)
            have hnb5 : nb < w5.heap.size := by have := hb.size; simp at this; omega
            have hwr5 : wr.heap.size < w5.heap.size := by have := hb.size; simp at this; omega
            have cn : w5.cell? ⟨nb, noff + 20, none⟩ = some (.int .i64 1) := (hb.cell (p := ⟨nb, noff + 20, none⟩) (by simp; omega)).trans ((World.cell?_alloc_past _ _ _ hnbl).trans gn)
            clear hb HIt g0 g1 g2 g3 gn
            go_wp2
            go_roundw
            case rel => exact ⟨20 + 1, by omega, by go_num, by rw [← HS1.out, ← HCx.out], HB5.out.alloc HB5.out.size _⟩
            case measure => simp [intOf] <;> omega
          · have hV2 : val = ⟨#[108, 101, 97, 115, 116]⟩ := hV
            subst hV2
            clear hV
            go_wp2_with fail
            refine (HIt _ (HTk.out.alloc _)).mono ?_
            rintro e w5 ⟨rfl, hb⟩
            have HB5 : Hid (Below w3.heap.size w3 w5) := (HB.out.alloc HB.out.size _).trans (hb.mono (by have := HB.out.size; simp; omega))
            have c0 : w5.cell? ⟨wr.heap.size, 0, none⟩ = some (.string ⟨#[112, 111, 108, 105, 99, 121]⟩) := (hb.cell (p := ⟨wr.heap.size, 0, none⟩) (by simp)).trans (World.cell?_alloc_at _ _ _ _ rfl)
            have hnb5 : nb < w5.heap.size := by have := hb.size; simp at this; omega
            have hwr5 : wr.heap.size < w5.heap.size := by have := hb.size; simp at this; omega
            have cn : w5.cell? ⟨nb, noff + 20, none⟩ = some (.int .i64 2) := (hb.cell (p := ⟨nb, noff + 20, none⟩) (by simp; omega)).trans ((World.cell?_alloc_past _ _ _ hnbl).trans gn)
            clear hb HIt g0 g1 g2 g3 gn
            go_wp2
            go_roundw
            case rel => exact ⟨20 + 1, by omega, by go_num, by rw [← HS1.out, ← HCx.out], HB5.out.alloc HB5.out.size _⟩
            case measure => simp [intOf] <;> omega
          · have hV2 : val = ⟨#[114, 105, 110, 103]⟩ := hV
            subst hV2
            clear hV
            go_wp2_with fail
            refine (HIt _ (HTk.out.alloc _)).mono ?_
            rintro e w5 ⟨rfl, hb⟩
            have HB5 : Hid (Below w3.heap.size w3 w5) := (HB.out.alloc HB.out.size _).trans (hb.mono (by have := HB.out.size; simp; omega))
            have c0 : w5.cell? ⟨wr.heap.size, 0, none⟩ = some (.string ⟨#[112, 111, 108, 105, 99, 121]⟩) := (hb.cell (p := ⟨wr.heap.size, 0, none⟩) (by simp)).trans (World.cell?_alloc_at _ _ _ _ rfl)
            have hnb5 : nb < w5.heap.size := by have := hb.size; simp at this; omega
            have hwr5 : wr.heap.size < w5.heap.size := by have := hb.size; simp at this; omega
            have cn : w5.cell? ⟨nb, noff + 20, none⟩ = some (.int .i64 3) := (hb.cell (p := ⟨nb, noff + 20, none⟩) (by simp; omega)).trans ((World.cell?_alloc_past _ _ _ hnbl).trans gn)
            clear hb HIt g0 g1 g2 g3 gn
            go_wp2
            go_roundw
            case rel => exact ⟨20 + 1, by omega, by go_num, by rw [← HS1.out, ← HCx.out], HB5.out.alloc HB5.out.size _⟩
            case measure => simp [intOf] <;> omega
        · by_cases h15 : k = 15
          · have hkk := h15
            clear h15 h20 h21
            subst hkk
            have en : nameC 15 = ⟨#[111, 110, 101]⟩ := rfl
            rw [en] at g0 hv HCt
            clear en
            have hv1 := hv.1
            have hns : (⟨#[111, 110, 101]⟩ : ByteArray).size = 3 := rfl
            have hV := HV15.out
            generalize VW 15 = val at HCt hv1 hV
            generalize mkS (SC 15) = S0 at HCt hms
            have hs0 : S0.size ≤ 598 := by omega
            have HCx : Hid _ := HCt
            clear HCt hms hsz hv
            have hx := HB15.out
            generalize NS.getD 15 0 = x at gn HIt hx hV
            generalize digC x = dx at HIt
            rcases hx with rfl | rfl
            · have hV2 : val = ⟨#[110, 111]⟩ := hV
              subst hV2
              clear hV
              go_wp2_with fail
              refine (HIt _ (HTk.out.alloc _)).mono ?_
              rintro e w5 ⟨rfl, hb⟩
              have HB5 : Hid (Below w3.heap.size w3 w5) := (HB.out.alloc HB.out.size _).trans (hb.mono (by have := HB.out.size; simp; omega))
              have c0 : w5.cell? ⟨wr.heap.size, 0, none⟩ = some (.string ⟨#[111, 110, 101]⟩) := (hb.cell (p := ⟨wr.heap.size, 0, none⟩) (by simp)).trans (World.cell?_alloc_at _ _ _ _ rfl)
              have hnb5 : nb < w5.heap.size := by have := hb.size; simp at this; omega
              have hwr5 : wr.heap.size < w5.heap.size := by have := hb.size; simp at this; omega
              have cn : w5.cell? ⟨nb, noff + 15, none⟩ = some (.int .i64 0) := (hb.cell (p := ⟨nb, noff + 15, none⟩) (by simp; omega)).trans ((World.cell?_alloc_past _ _ _ hnbl).trans gn)
              clear hb HIt g0 g1 g2 g3 gn
              go_wp2
              go_roundw
              case rel => exact ⟨15 + 1, by omega, by go_num, by rw [← HS1.out, ← HCx.out], HB5.out.alloc HB5.out.size _⟩
              case measure => simp [intOf] <;> omega
            · have hV2 : val = ⟨#[121, 101, 115]⟩ := hV
              subst hV2
              clear hV
              go_wp2_with fail
              refine (HIt _ (HTk.out.alloc _)).mono ?_
              rintro e w5 ⟨rfl, hb⟩
              have HB5 : Hid (Below w3.heap.size w3 w5) := (HB.out.alloc HB.out.size _).trans (hb.mono (by have := HB.out.size; simp; omega))
              have c0 : w5.cell? ⟨wr.heap.size, 0, none⟩ = some (.string ⟨#[111, 110, 101]⟩) := (hb.cell (p := ⟨wr.heap.size, 0, none⟩) (by simp)).trans (World.cell?_alloc_at _ _ _ _ rfl)
              have hnb5 : nb < w5.heap.size := by have := hb.size; simp at this; omega
              have hwr5 : wr.heap.size < w5.heap.size := by have := hb.size; simp at this; omega
              have cn : w5.cell? ⟨nb, noff + 15, none⟩ = some (.int .i64 1) := (hb.cell (p := ⟨nb, noff + 15, none⟩) (by simp; omega)).trans ((World.cell?_alloc_past _ _ _ hnbl).trans gn)
              clear hb HIt g0 g1 g2 g3 gn
              go_wp2
              go_roundw
              case rel => exact ⟨15 + 1, by omega, by go_num, by rw [← HS1.out, ← HCx.out], HB5.out.alloc HB5.out.size _⟩
              case measure => simp [intOf] <;> omega
          · by_cases h22 : k = 22
            · have hkk := h22
              clear h22 h15 h20 h21
              subst hkk
              have en : nameC 22 = ⟨#[102, 97, 108, 108, 98, 97, 99, 107]⟩ := rfl
              rw [en] at g0 hv HCt
              clear en
              have hv1 := hv.1
              have hns : (⟨#[102, 97, 108, 108, 98, 97, 99, 107]⟩ : ByteArray).size = 8 := rfl
              have hV := HV22.out
              generalize VW 22 = val at HCt hv1 hV
              generalize mkS (SC 22) = S0 at HCt hms
              have hs0 : S0.size ≤ 598 := by omega
              have HCx : Hid _ := HCt
              clear HCt hms hsz hv
              have hx := HB22.out
              generalize NS.getD 22 0 = x at gn HIt hx hV
              generalize digC x = dx at HIt
              rcases hx with rfl | rfl
              · have hV2 : val = ⟨#[110, 111]⟩ := hV
                subst hV2
                clear hV
                go_wp2_with fail
                refine (HIt _ (HTk.out.alloc _)).mono ?_
                rintro e w5 ⟨rfl, hb⟩
                have HB5 : Hid (Below w3.heap.size w3 w5) := (HB.out.alloc HB.out.size _).trans (hb.mono (by have := HB.out.size; simp; omega))
                have c0 : w5.cell? ⟨wr.heap.size, 0, none⟩ = some (.string ⟨#[102, 97, 108, 108, 98, 97, 99, 107]⟩) := (hb.cell (p := ⟨wr.heap.size, 0, none⟩) (by simp)).trans (World.cell?_alloc_at _ _ _ _ rfl)
                have hnb5 : nb < w5.heap.size := by have := hb.size; simp at this; omega
                have hwr5 : wr.heap.size < w5.heap.size := by have := hb.size; simp at this; omega
                have cn : w5.cell? ⟨nb, noff + 22, none⟩ = some (.int .i64 0) := (hb.cell (p := ⟨nb, noff + 22, none⟩) (by simp; omega)).trans ((World.cell?_alloc_past _ _ _ hnbl).trans gn)
                clear hb HIt g0 g1 g2 g3 gn
                go_wp2
                go_roundw
                case rel => exact ⟨22 + 1, by omega, by go_num, by rw [← HS1.out, ← HCx.out], HB5.out.alloc HB5.out.size _⟩
                case measure => simp [intOf] <;> omega
              · have hV2 : val = ⟨#[121, 101, 115]⟩ := hV
                subst hV2
                clear hV
                go_wp2_with fail
                refine (HIt _ (HTk.out.alloc _)).mono ?_
                rintro e w5 ⟨rfl, hb⟩
                have HB5 : Hid (Below w3.heap.size w3 w5) := (HB.out.alloc HB.out.size _).trans (hb.mono (by have := HB.out.size; simp; omega))
                have c0 : w5.cell? ⟨wr.heap.size, 0, none⟩ = some (.string ⟨#[102, 97, 108, 108, 98, 97, 99, 107]⟩) := (hb.cell (p := ⟨wr.heap.size, 0, none⟩) (by simp)).trans (World.cell?_alloc_at _ _ _ _ rfl)
                have hnb5 : nb < w5.heap.size := by have := hb.size; simp at this; omega
                have hwr5 : wr.heap.size < w5.heap.size := by have := hb.size; simp at this; omega
                have cn : w5.cell? ⟨nb, noff + 22, none⟩ = some (.int .i64 1) := (hb.cell (p := ⟨nb, noff + 22, none⟩) (by simp; omega)).trans ((World.cell?_alloc_past _ _ _ hnbl).trans gn)
                clear hb HIt g0 g1 g2 g3 gn
                go_wp2
                go_roundw
                case rel => exact ⟨22 + 1, by omega, by go_num, by rw [← HS1.out, ← HCx.out], HB5.out.alloc HB5.out.size _⟩
                case measure => simp [intOf] <;> omega
            · obtain ⟨n1, n2, n3, n4⟩ := names_other k hlt
              have f1 := n1 h21
              have f2 := n2 h20
              have f3 := n3 h15
              have f4 := n4 h22
              clear n1 n2 n3 n4
              rw [← HDig.out k hlt h21 h20 h15 h22] at HIt
              generalize nameC k = nm at g0 hv HCt f1 f2 f3 f4
              generalize VW k = val at hv HCt HIt
              generalize NS.getD k 0 = x at gn HIt
              generalize mkS (SC k) = S0 at HCt hms
              have hs0 : S0.size ≤ 598 := by omega
              have hv1 := hv.1
              have hv2 := hv.2
              have HCx : Hid _ := HCt
              clear HCt hms hsz hv
              go_wp2_with fail
              refine (HIt _ (HTk.out.alloc _)).mono ?_
              rintro e w5 ⟨rfl, hb⟩
              have HB5 : Hid (Below w3.heap.size w3 w5) := (HB.out.alloc HB.out.size _).trans (hb.mono (by have := HB.out.size; simp; omega))
              have c0 : w5.cell? ⟨wr.heap.size, 0, none⟩ = some (.string nm) := (hb.cell (p := ⟨wr.heap.size, 0, none⟩) (by simp)).trans (World.cell?_alloc_at _ _ _ _ rfl)
              have hnb5 : nb < w5.heap.size := by have := hb.size; simp at this; omega
              have hwr5 : wr.heap.size < w5.heap.size := by have := hb.size; simp at this; omega
              have cn : w5.cell? ⟨nb, noff + k, none⟩ = some (.int .i64 x) := (hb.cell (p := ⟨nb, noff + k, none⟩) (by simp; omega)).trans ((World.cell?_alloc_past _ _ _ hnbl).trans gn)
              clear hb HIt g0 g1 g2 g3 gn
              go_wp2
              go_roundw
              case rel => exact ⟨k + 1, by omega, by go_num, by rw [← HS1.out, ← HCx.out], HB5.out⟩
              case measure => simp [intOf] <;> omega
    · obtain rfl : k = 23 := by omega
      have HBf : Hid (Below w.heap.size w wr) := HBa.out.trans (HB.out.mono HBa.out.size)
      go_wp2
      go_ret
      exact ⟨by rw [← HEnd.out]; rfl, HBf.out⟩

set_option maxRecDepth 100000 in
set_option maxHeartbeats 2000000 in
theorem rText_not (c : Cfg) (hc : mayC c = false) (w : World) (hz : c.zone.size ≤ 9223372036854775807) :
    Calls Tryd.prog 8 #[.agg c.arr] w fun e w' => e = .returned (.string ⟨#[]⟩) ∧ Below w.heap.size w w' := by
  have HMay := fun W => rMay_any c W hz
  rw [hc, val_arr] at HMay
  have HI : Hid _ := (show (Tryd.prog.info? 23).map (·.size) = some c.arr.size by rw [arr_size]; kernel_rfl)
  clear hc hz
  generalize c.arr = cs at HMay HI ⊢
  go_enter Tryd.func8, Tryd.ntmps8
  go_wp2_with (first | (refine wpList_load_row rfl 23 (.tmp 1) rfl w.heap.size rfl 23 cs (0, 0) _ (heap_alloc_new w _) Tryd.underlying23 rfl HI.out ?_) | fail)
  refine (HMay _).mono ?_
  rintro e w1 ⟨rfl, hb⟩
  have HB1 : Hid (Below w.heap.size w w1) := ((Below.refl _ w).alloc (Nat.le_refl _) _).trans (hb.mono (by simp))
  clear hb HMay
  go_wp2
  go_ret
  exact ⟨rfl, HB1.out⟩
theorem rText_any (c : Cfg) (w : World) (ht : Tabs w) (hz : c.zone.size ≤ 9223372036854775807) :
    Calls Tryd.prog 8 #[.agg c.arr] w fun e w' => e = .returned (.string (mkS (textC c))) ∧ Below w.heap.size w w' := by
  cases hc : mayC c with
  | true => exact rText_may c hc w ht
  | false =>
    have e : textC c = [] := by unfold textC; rw [hc]; rfl
    rw [e]
    exact rText_not c hc w hz

end Go.Proofs.YtkninlahlgipoaaDoor
