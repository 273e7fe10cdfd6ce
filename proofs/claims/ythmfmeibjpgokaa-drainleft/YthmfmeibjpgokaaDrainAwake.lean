/-
  The drains that every program must know: awake of triagelaw15.
-/
import Derived.Test.YthmfmeibjpgokaaDrain2
namespace Go.Proofs.Ythmfmeibjpgokaa
open Go.RowKit

def awS : StatT := ⟨noHost, ⟨false, 0, 0, 0⟩, 3, ⟨0, 0⟩, noOg, false, 0, 0, 1⟩
def awD : StatT := ⟨noHost, ⟨false, 0, 0, 0⟩, 0, ⟨0, 0⟩, noOg, true, 15, 0, 1⟩
theorem aw_arr : awS.arr nilW = #[.int .i64 0, .string ByteArray.empty, .int .i64 0, .string ByteArray.empty, .int .i64 0, nilW, .bool false, .int .i64 0, .int .i64 0, .int .i64 0, .int .i64 3, .int .i64 0, .int .i64 0, .bool false, .int .i64 0, .int .i64 0, .int .i64 0, .bool false, .int .i64 0, .int .i64 0, .int .i64 1] := rfl

set_option maxRecDepth 100000 in
set_option maxHeartbeats 4000000 in
theorem awake15_any (w : World) : Calls Try.prog 6 #[] w fun e w' => e = .returned (.bool true) ∧ Below w.heap.size w w' := by
  have HBe : Hid (∀ W : World, Calls Try.prog 7 #[.agg (awS.arr nilW), .int .i64 10, .int .i64 5] W fun e w' => ∃ ao c, e = .returned (.agg (awD.arr (.slice ao 0 c))) ∧ Below W.heap.size W w') := fun W =>
    (dBegin_any awS nilW 10 5 W (isPairs_nil W) (by decide)).mono fun e w' ⟨mv', h1, h2, h3⟩ => by
      obtain ⟨ao, c, rfl⟩ := (isRow_own h2).shaped
      exact ⟨ao, c, by rw [h1, show beginD awS 10 5 = awD by decide +kernel]; rfl, h3⟩
  have HO1 : Hid (∀ (mv : Value) (W : World), Calls Try.prog 10 #[.agg (awD.arr mv), .int .i64 14] W fun e w' => e = .returned (.bool false) ∧ Below W.heap.size W w') := fun mv W => by
    have := dOver_any awD mv 14 W
    rwa [show overD awD 14 = false by decide +kernel] at this
  have HO2 : Hid (∀ (mv : Value) (W : World), Calls Try.prog 10 #[.agg (awD.arr mv), .int .i64 15] W fun e w' => e = .returned (.bool true) ∧ Below W.heap.size W w') := fun mv W => by
    have := dOver_any awD mv 15 W
    rwa [show overD awD 15 = true by decide +kernel] at this
  have HLe : Hid (∀ (mv : Value) (W : World), Calls Try.prog 8 #[.agg (awD.arr mv), .int .i64 12] W fun e w' => e = .returned (.int .i64 3) ∧ Below W.heap.size W w') := fun mv W => by
    have := dLeft_any awD mv 12 W
    rwa [show leftD awD 12 = 3 by decide +kernel] at this
  rw [aw_arr] at HBe
  go_enter Try.func6, Try.ntmps6
  go_wp2_with fail
  refine (HBe.out _).mono ?_
  rintro e w1 ⟨ao, c, rfl, hb⟩
  have HB1 : Hid (Below w.heap.size w w1) := hb
  clear hb HBe
  go_upto_region 2 with (first | (refine wpList_store_row rfl 32 (.tmp 1) (.tmp 3) rfl w1.heap.size (awD.arr (.slice ao 0 c)) rfl rfl 32 _ (heap_alloc_new w1 _) (st_inf _ _) rfl (st_one _ _ _ _) ?_; generalize hW2 : World.setRow _ _ _ = W2) | fail)
  have HX2 : Hid (HasBox W2 w1.heap.size 32 (awD.arr (.slice ao 0 c))) := by show HasBox _ _ _ _; rw [← hW2]; exact (hasBox_new w1 _ _).row
  have HB2 : Hid (Below w.heap.size w W2) := by show Below _ _ _; rw [← hW2]; exact below_setRow (HB1.out.alloc HB1.out.size _) HB1.out.size _
  clear hW2
  have c17 : W2.cell? ⟨w1.heap.size, 17, none⟩ = some (.bool true) := HX2.out.cell 17
  have c18 : W2.cell? ⟨w1.heap.size, 18, none⟩ = some (.int .i64 15) := HX2.out.cell 18
  have c10 : W2.cell? ⟨w1.heap.size, 10, none⟩ = some (.int .i64 0) := HX2.out.cell 10
  go_wp2_with (first | (refine wpList_load_all (by first | rfl | (simp [Region.wanted, yielded]; done)) 32 (.tmp 1) rfl w1.heap.size rfl 32 _ _ HX2.out Try.underlying32 rfl (st_inf _ _) ?_) | fail)
  refine (HO1.out _ _).mono ?_
  rintro e w3 ⟨rfl, hb⟩
  have HX3 : Hid (HasBox w3 w1.heap.size 32 (awD.arr (.slice ao 0 c))) := HX2.out.below hb
  have HB3 : Hid (Below w.heap.size w w3) := HB2.out.trans (hb.mono HB2.out.size)
  clear hb HX2 HB2 c17 c18 c10
  go_wp2_with (first | (refine wpList_load_all (by first | rfl | (simp [Region.wanted, yielded]; done)) 32 (.tmp 1) rfl w1.heap.size rfl 32 _ _ HX3.out Try.underlying32 rfl (st_inf _ _) ?_) | fail)
  refine (HO2.out _ _).mono ?_
  rintro e w4 ⟨rfl, hb⟩
  have HX4 : Hid (HasBox w4 w1.heap.size 32 (awD.arr (.slice ao 0 c))) := HX3.out.below hb
  have HB4 : Hid (Below w.heap.size w w4) := HB3.out.trans (hb.mono HB3.out.size)
  clear hb HX3 HB3
  go_wp2_with (first | (refine wpList_load_all (by first | rfl | (simp [Region.wanted, yielded]; done)) 32 (.tmp 1) rfl w1.heap.size rfl 32 _ _ HX4.out Try.underlying32 rfl (st_inf _ _) ?_) | fail)
  refine (HLe.out _ _).mono ?_
  rintro e w5 ⟨rfl, hb⟩
  have HB5 : Hid (Below w.heap.size w w5) := HB4.out.trans (hb.mono HB4.out.size)
  clear hb HX4 HB4
  go_wp2
  go_ret
  exact ⟨rfl, HB5.out⟩

end Go.Proofs.Ythmfmeibjpgokaa
