/-
  The buckets that every program must know: awake.
-/
import Derived.Test.YthoecpciiphofaaBucketOpen
namespace Go.Proofs.Ythoecpciiphofaa
open Go.RowKit

set_option maxHeartbeats 2000000 in
theorem awake12_any (w : World) : Calls Try.prog 17 #[] w fun e w' => e = .returned (.bool true) ∧ Below w.heap.size w w' := by
  have HN1 : Hid (∀ W : World, Calls Try.prog 7 #[.agg #[.int .i64 0, .int .i64 0], .bool true] W fun e w' => e = .returned (.agg #[.int .i64 1, .int .i64 1]) ∧ Below W.heap.size W w') := fun W => kNote_any ⟨0, 0⟩ true W
  have HN2 : Hid (∀ W : World, Calls Try.prog 7 #[.agg #[.int .i64 1, .int .i64 1], .bool false] W fun e w' => e = .returned (.agg #[.int .i64 1, .int .i64 2]) ∧ Below W.heap.size W w') := fun W => kNote_any ⟨1, 1⟩ false W
  have HR : Hid (∀ W : World, Calls Try.prog 11 #[.agg #[.int .i64 1, .int .i64 2]] W fun e w' => e = .returned (.int .i64 5000) ∧ Below W.heap.size W w') := fun W => kRate_any ⟨1, 2⟩ (by unfold inK; simp) W
  have HE : Hid (∀ W : World, Calls Try.prog 13 #[.agg #[.int .i64 1, .int .i64 2], .int .i64 2] W fun e w' => e = .returned (.bool true) ∧ Below W.heap.size W w') := fun W => kEnough_any ⟨1, 2⟩ 2 W
  have HE3 : Hid (∀ W : World, Calls Try.prog 13 #[.agg #[.int .i64 1, .int .i64 2], .int .i64 3] W fun e w' => e = .returned (.bool false) ∧ Below W.heap.size W w') := fun W => kEnough_any ⟨1, 2⟩ 3 W
  have HF : Hid (∀ W : World, Calls Try.prog 15 #[.agg #[.int .i64 1, .int .i64 2], .int .i64 50] W fun e w' => e = .returned (.bool true) ∧ Below W.heap.size W w') := fun W => kFail_any ⟨1, 2⟩ 50 (by omega) W
  have HF1 : Hid (∀ W : World, Calls Try.prog 15 #[.agg #[.int .i64 1, .int .i64 2], .int .i64 51] W fun e w' => e = .returned (.bool false) ∧ Below W.heap.size W w') := fun W => kFail_any ⟨1, 2⟩ 51 (by omega) W
  have HM : Hid (∀ W : World, Calls Try.prog 9 #[.agg #[.int .i64 1, .int .i64 2]] W fun e w' => e = .returned (.bool true) ∧ Below W.heap.size W w') := fun W => kMay_any ⟨1, 2⟩ W
  have heq : ∀ W : World, (binOp .eql 23 (.agg #[.int .i64 1, .int .i64 2]) (.agg #[.int .i64 1, .int .i64 2])).run Try.prog W = .ok (.bool true) W := fun W => run_eqK_same ⟨1, 2⟩ W
  have hgd := guard_bucket
  go_enter Try.func17, Try.ntmps17
  go_wp2_with fail
  refine (HN1.out _).mono ?_
  rintro e w1 ⟨rfl, hb1⟩
  go_wp2_with fail
  refine (HN2.out _).mono ?_
  rintro e w2 ⟨rfl, hb2⟩
  have HB2 : Hid (Below w.heap.size w w2) := hb1.trans (hb2.mono hb1.size)
  have HA2 : Hid (w.heap.size ≤ w2.heap.size) := HB2.out.size
  clear hb1 hb2
  go_wp2_with fail
  refine (HR.out _).mono ?_
  rintro e w3 ⟨rfl, hb⟩
  have HX3 : Hid (HasBox w3 w2.heap.size 23 #[.int .i64 1, .int .i64 2]) := HasBox.below (hasBox_new w2 _ _) hb
  have HB3 : Hid (Below w.heap.size w w3) := HB2.out.trans ((((Below.refl _ _).alloc (Nat.le_refl _) _).trans (hb.mono (by simp))).mono HA2.out)
  clear hb HR HB2
  have c1 : w3.cell? ⟨w2.heap.size, 0, none⟩ = some (.int .i64 1) := HX3.out.cell 0
  have c2 : w3.cell? ⟨w2.heap.size, 1, none⟩ = some (.int .i64 2) := HX3.out.cell 1
  go_wp2_with fail
  refine (HE.out _).mono ?_
  rintro e w4 ⟨rfl, hb⟩
  clear c1 c2
  have HX4 : Hid (HasBox w4 w2.heap.size 23 #[.int .i64 1, .int .i64 2]) := HX3.out.below hb
  have HB4 : Hid (Below w.heap.size w w4) := HB3.out.trans (hb.mono HB3.out.size)
  clear hb HE HX3 HB3
  have c1 : w4.cell? ⟨w2.heap.size, 0, none⟩ = some (.int .i64 1) := HX4.out.cell 0
  have c2 : w4.cell? ⟨w2.heap.size, 1, none⟩ = some (.int .i64 2) := HX4.out.cell 1
  go_wp2_with fail
  refine (HE3.out _).mono ?_
  rintro e w5 ⟨rfl, hb⟩
  clear c1 c2
  have HX5 : Hid (HasBox w5 w2.heap.size 23 #[.int .i64 1, .int .i64 2]) := HX4.out.below hb
  have HB5 : Hid (Below w.heap.size w w5) := HB4.out.trans (hb.mono HB4.out.size)
  clear hb HE3 HX4 HB4
  have c1 : w5.cell? ⟨w2.heap.size, 0, none⟩ = some (.int .i64 1) := HX5.out.cell 0
  have c2 : w5.cell? ⟨w2.heap.size, 1, none⟩ = some (.int .i64 2) := HX5.out.cell 1
  go_wp2_with fail
  refine (HF.out _).mono ?_
  rintro e w6 ⟨rfl, hb⟩
  clear c1 c2
  have HX6 : Hid (HasBox w6 w2.heap.size 23 #[.int .i64 1, .int .i64 2]) := HX5.out.below hb
  have HB6 : Hid (Below w.heap.size w w6) := HB5.out.trans (hb.mono HB5.out.size)
  clear hb HF HX5 HB5
  have c1 : w6.cell? ⟨w2.heap.size, 0, none⟩ = some (.int .i64 1) := HX6.out.cell 0
  have c2 : w6.cell? ⟨w2.heap.size, 1, none⟩ = some (.int .i64 2) := HX6.out.cell 1
  go_wp2_with fail
  refine (HF1.out _).mono ?_
  rintro e w7 ⟨rfl, hb⟩
  clear c1 c2
  have HX7 : Hid (HasBox w7 w2.heap.size 23 #[.int .i64 1, .int .i64 2]) := HX6.out.below hb
  have HB7 : Hid (Below w.heap.size w w7) := HB6.out.trans (hb.mono HB6.out.size)
  clear hb HF1 HX6 HB6
  have c1 : w7.cell? ⟨w2.heap.size, 0, none⟩ = some (.int .i64 1) := HX7.out.cell 0
  have c2 : w7.cell? ⟨w2.heap.size, 1, none⟩ = some (.int .i64 2) := HX7.out.cell 1
  go_wp2_with fail
  refine (HM.out _).mono ?_
  rintro e w8 ⟨rfl, hb⟩
  clear c1 c2
  have HX8 : Hid (HasBox w8 w2.heap.size 23 #[.int .i64 1, .int .i64 2]) := HX7.out.below hb
  have HB8 : Hid (Below w.heap.size w w8) := HB7.out.trans (hb.mono HB7.out.size)
  clear hb HM HX7 HB7
  go_wp2
  go_ret
  exact ⟨rfl, HB8.out⟩

end Go.Proofs.Ythoecpciiphofaa
