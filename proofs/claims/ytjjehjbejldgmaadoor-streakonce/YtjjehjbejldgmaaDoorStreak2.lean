/-
  The streaks that every program must know: awake.
-/
import Derived.Test.YtjjehjbejldgmaaDoorStreak1
import Derived.Test.YtjjehjbejldgmaaDoorRefMay
import Derived.Test.YtjjehjbejldgmaaDoorCfgFrame
namespace Go.Proofs.YtjjehjbejldgmaaDoor
open Go.RowKit

set_option maxRecDepth 100000 in
set_option maxHeartbeats 4000000 in
theorem awake11_any (w : World) (htab : TabC w) : Calls Tryd.prog 6 #[] w fun e w' => e = .returned (.bool true) ∧ Below w.heap.size w w' := by
  have HT : Hid (TabC w) := htab
  clear htab
  have HDef : Hid (∀ W : World, Calls Tryd.prog 12 #[] W fun e w' => e = .returned (.agg defC.arr) ∧ Below W.heap.size W w') := rDefault_any
  have HNt : ∀ (n : Int) (ok : Bool) (m : Int) (y : Bool), nextS 5 (capS n) ok = (m, y) → ∀ W : World, TabC W → Calls Tryd.prog 7 #[.agg defC.arr, .int .i64 n, .bool ok] W fun e w' => e = .returned (.tuple #[.int .i64 m, .bool y]) ∧ Below W.heap.size W w' := fun n ok m y he W h => by
    have := note_any defC n ok W h def_zone
    rw [known_self defC_may, show defC.f7 = 5 from rfl, he] at this
    exact this
  have HN1 : Hid (∀ W : World, TabC W → Calls Tryd.prog 7 #[.agg defC.arr, .int .i64 3, .bool false] W fun e w' => e = .returned (.tuple #[.int .i64 4, .bool false]) ∧ Below W.heap.size W w') := HNt 3 false 4 false (by decide)
  have HN2 : Hid (∀ W : World, TabC W → Calls Tryd.prog 7 #[.agg defC.arr, .int .i64 4, .bool false] W fun e w' => e = .returned (.tuple #[.int .i64 5, .bool true]) ∧ Below W.heap.size W w') := HNt 4 false 5 true (by decide)
  have HN3 : Hid (∀ W : World, TabC W → Calls Tryd.prog 7 #[.agg defC.arr, .int .i64 4, .bool true] W fun e w' => e = .returned (.tuple #[.int .i64 0, .bool false]) ∧ Below W.heap.size W w') := HNt 4 true 0 false (by decide)
  have HI : Hid ((Tryd.prog.info? 23).map (·.size) = some defC.arr.size) := arr_inf defC
  have HO : Hid (defC.arr.all (·.oneCell') = true) := arr_one defC
  have HS : Hid ((23 : Nat) = defC.arr.size) := (arr_size defC).symm
  clear HNt
  generalize defC.arr = cs at HDef HN1 HN2 HN3 HI HO HS
  go_enter Tryd.func6, Tryd.ntmps6
  go_wp2_with fail
  refine (HDef.out _).mono ?_
  rintro e w1 ⟨rfl, hb⟩
  have HB1 : Hid (Below w.heap.size w w1) := hb
  clear hb HDef
  go_upto_region 2 with (first | (refine wpList_store_row rfl 23 (.tmp 1) (.tmp 8) rfl w1.heap.size cs rfl rfl 23 _ (heap_alloc_new w1 _) HI.out HS.out HO.out ?_; generalize hW2 : World.setRow _ _ _ = W2) | fail)
  have HC2 : Hid (CellsAt W2 w1.heap.size cs) := by show CellsAt _ _ _; rw [← hW2]; exact setRow_heap _ _ _ _ _ _ (heap_alloc_new w1 _)
  have HB2 : Hid (Below w.heap.size w W2) := by show Below _ _ _; rw [← hW2]; exact below_setRow (HB1.out.alloc HB1.out.size _) HB1.out.size _
  clear hW2 HB1
  generalize w1.heap.size = b1 at HC2 ⊢
  go_wp2_with (first | (refine wpList_load_bx rfl 23 (.tmp 1) rfl b1 rfl 23 _ _ HC2.out Tryd.underlying23 rfl HI.out ?_) | fail)
  refine (HN1.out _ (HT.out.below HB2.out)).mono ?_
  rintro e w3 ⟨rfl, hb⟩
  have HC3 : Hid (CellsAt w3 b1 cs) := HC2.out.below hb
  have HB3 : Hid (Below w.heap.size w w3) := HB2.out.trans (hb.mono HB2.out.size)
  clear hb HC2 HB2 HN1
  go_wp2_with (first | (refine wpList_load_bx rfl 23 (.tmp 1) rfl b1 rfl 23 _ _ HC3.out Tryd.underlying23 rfl HI.out ?_) | fail)
  refine (HN2.out _ (HT.out.below HB3.out)).mono ?_
  rintro e w4 ⟨rfl, hb⟩
  have HC4 : Hid (CellsAt w4 b1 cs) := HC3.out.below hb
  have HB4 : Hid (Below w.heap.size w w4) := HB3.out.trans (hb.mono HB3.out.size)
  clear hb HC3 HB3 HN2
  go_wp2_with (first | (refine wpList_load_bx rfl 23 (.tmp 1) rfl b1 rfl 23 _ _ HC4.out Tryd.underlying23 rfl HI.out ?_) | fail)
  refine (HN3.out _ (HT.out.below HB4.out)).mono ?_
  rintro e w5 ⟨rfl, hb⟩
  have HB5 : Hid (Below w.heap.size w w5) := HB4.out.trans (hb.mono HB4.out.size)
  clear hb HC4 HB4 HN3
  go_wp2
  go_ret
  exact ⟨rfl, HB5.out⟩

end Go.Proofs.YtjjehjbejldgmaaDoor
