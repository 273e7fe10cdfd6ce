/-
  The spreads that every program must know: awake.
-/
import Derived.Test.YtjknflpclniiiaaDoorSpread4
import Derived.Test.YtjknflpclniiiaaDoorRefMay
namespace Go.Proofs.YtjknflpclniiiaaDoor
open Go.RowKit

def awC : Cfg := { defC with f12 := 50, f10 := 2 }
def awL : List Rd := [⟨5, ⟨1, 4⟩⟩, ⟨3, ⟨0, 4⟩⟩, ⟨1, ⟨4, 4⟩⟩]
theorem awC_may : mayC awC = true := by decide +kernel
theorem awC_zone : awC.zone.size ≤ 9223372036854775807 := by decide
theorem awFar : farA [9000, 9000, 9000, 1000] 1000 = [false, false, false, true] := by decide +kernel
theorem awBad : badL awC awL = [3, 5] := by
  have h1 : mayRd awL = true := by decide +kernel
  rw [badL_yes awC_may h1]
  unfold badK
  have h2 : keysB (enL awL awC.f10) (farOf (enL awL awC.f10) awC.f9 awC.f11) awC.f12 (enL awL awC.f10).length = [(2500, 5), (0, 3)] := by decide +kernel
  rw [h2]
  have h3 : sortV [((2500 : Int), (5 : Int)), (0, 3)] = [(0, 3), (2500, 5)] := (sortV_unique (List.Perm.swap _ _ _) (by decide)).symm
  rw [h3]
  rfl

set_option maxRecDepth 100000 in
set_option maxHeartbeats 4000000 in
theorem awake13_any (w : World) (htab : TabC w) : Calls Tryd.prog 7 #[] w fun e w' => e = .returned (.bool true) ∧ Below w.heap.size w w' := by
  have HT : Hid (TabC w) := htab
  clear htab
  have HDef : Hid (∀ W : World, Calls Tryd.prog 19 #[] W fun e w' => e = .returned (.agg defC.arr) ∧ Below W.heap.size W w') := rDefault_any
  have HFar : Hid (∀ (W : World) (v : Value), IsInts W v [9000, 9000, 9000, 1000] → Calls Tryd.prog 9 #[v, .int .i64 1000] W fun e w' => ∃ v', e = .returned v' ∧ IsBools w' v' [false, false, false, true] ∧ Below W.heap.size W w') := fun W v h => by
    have := far_any [9000, 9000, 9000, 1000] 1000 v W h
    rwa [awFar] at this
  have HBad : Hid (∀ (W : World) (v : Value), TabC W → IsRd W v awL → Calls Tryd.prog 12 #[.agg awC.arr, v] W fun e w' => ∃ v', e = .returned v' ∧ IsInts w' v' [3, 5] ∧ Below W.heap.size W w') := fun W v ht h => by
    have := bad_any awC awL v W ht awC_zone h
    rwa [awBad] at this
  have HI : Hid ((Tryd.prog.info? 24).map (·.size) = some defC.arr.size) := arr_inf defC
  have HO : Hid (defC.arr.all (·.oneCell') = true) := arr_one defC
  have HS : Hid ((23 : Nat) = defC.arr.size) := (arr_size defC).symm
  have HI2 : Hid ((Tryd.prog.info? 24).map (·.size) = some awC.arr.size) := arr_inf awC
  have HW : Hid (((defC.arr.setIfInBounds 12 (.int .i64 50)).setIfInBounds 10 (.int .i64 2)) = awC.arr) := rfl
  have HD10 : Hid (defC.arr[10]? = some (.int .i64 defC.f10)) := rfl
  have HD12 : Hid (defC.arr[12]? = some (.int .i64 defC.f12)) := rfl
  generalize defC.f10 = d10 at HD10
  generalize defC.f12 = d12 at HD12
  generalize awC.arr = ca at *
  generalize defC.arr = cs at *
  go_enter Tryd.func7, Tryd.ntmps7
  go_wp2_with fail
  refine (HFar.out _ _ (IsInts.fresh w [9000, 9000, 9000, 1000] 3 4 (by simp) (by simp) (by simp))).mono ?_
  rintro e w1 ⟨v1, rfl, hf, hb⟩
  have HF1 : Hid (IsBools w1 v1 [false, false, false, true]) := hf
  have HB1 : Hid (Below w.heap.size w w1) := ((Below.refl _ _).alloc (Nat.le_refl _) _).trans (hb.mono (by simp))
  clear hf hb HFar
  go_wp2_with fail
  refine (HDef.out _).mono ?_
  rintro e w2 ⟨rfl, hb⟩
  have HF2 : Hid (IsBools w2 v1 [false, false, false, true]) := HF1.out.below hb
  have HB2 : Hid (Below w.heap.size w w2) := HB1.out.trans (hb.mono HB1.out.size)
  clear hb HDef HF1 HB1
  go_upto_region 3 with (first | (refine wpList_store_row rfl 24 (.tmp 2) (.tmp 6) rfl w2.heap.size cs rfl rfl 24 _ (heap_alloc_new w2 _) HI.out HS.out HO.out ?_; generalize hW3 : World.setRow _ _ _ = W3) | fail)
  have HC3 : Hid (HasBox W3 w2.heap.size 24 cs) := by show CellsAt _ _ _; rw [← hW3]; exact setRow_heap _ _ _ _ _ _ (heap_alloc_new w2 _)
  have HB3' : Hid (Below w2.heap.size w2 W3) := by show Below _ _ _; rw [← hW3]; exact below_setRow ((Below.refl _ _).alloc (Nat.le_refl _) _) (Nat.le_refl _) _
  clear hW3
  have q12 : W3.cell? ⟨w2.heap.size, 12, none⟩ = some (.int .i64 d12) := (HC3.out.cell 12).trans HD12.out
  have q10 : W3.cell? ⟨w2.heap.size, 10, none⟩ = some (.int .i64 d10) := (HC3.out.cell 10).trans HD10.out
  have f12 : W3.frozen? ⟨w2.heap.size, 12, none⟩ = false := HC3.out.frozen 12
  have f10 : W3.frozen? ⟨w2.heap.size, 10, none⟩ = false := HC3.out.frozen 10
  go_upto_region 4 with fail
  generalize hW4 : World.setCell _ _ _ = W4
  have HC4 : Hid (HasBox W4 w2.heap.size 24 ca) := by show HasBox _ _ _ _; rw [← hW4, ← HW.out]; exact (HC3.out.set 12 _).set 10 _
  have HB4' : Hid (Below w2.heap.size w2 W4) := by show Below _ _ _; rw [← hW4]; exact (HB3'.out.setCell (Nat.le_refl _) _).setCell (Nat.le_refl _) _
  have HF4 : Hid (IsBools W4 v1 [false, false, false, true]) := HF2.out.below HB4'.out
  have HB4 : Hid (Below w.heap.size w W4) := HB2.out.trans (HB4'.out.mono HB2.out.size)
  clear hW4 q12 q10 f12 f10 HB3' HC3 HF2 HB4' HB2
  generalize w2.heap.size = B at *
  go_wp2_with (first | (refine wpList_load_bx rfl 24 (.tmp 2) rfl B rfl 24 _ _ HC4.out Tryd.underlying24 rfl HI2.out ?_) | fail)
  have HR5 : Hid (IsRd (W4.alloc (.cells #[.int .i64 5, .int .i64 1, .int .i64 4, .int .i64 3, .int .i64 0, .int .i64 4, .int .i64 1, .int .i64 4, .int .i64 4] 39)) (.slice (some ⟨W4.heap.size, 0, none⟩) 3 3) awL) :=
    ⟨by unfold awL inRd inBk; simp, IsRow.fresh W4 (rdCells awL) 3 3 39 3 rfl (by omega) (by unfold maxLen; omega) (by omega)⟩
  refine (HBad.out _ _ ((HT.out.below HB4.out).below ((Below.refl _ _).alloc (Nat.le_refl _) _)) HR5.out).mono ?_
  rintro e w6 ⟨v6, rfl, hi, hb⟩
  have hb4 : Below W4.heap.size W4 w6 := ((Below.refl _ _).alloc (Nat.le_refl _) _).trans (hb.mono (by simp))
  have HF6 : Hid (IsBools w6 v1 [false, false, false, true]) := HF4.out.below hb4
  have HI6 : Hid (IsInts w6 v6 [3, 5]) := hi
  have HB6 : Hid (Below w.heap.size w w6) := HB4.out.trans (hb4.mono HB4.out.size)
  clear hb hb4 hi HF4 HB4 HC4 HR5 HBad
  obtain ⟨fo, fc, rfl⟩ := HF6.out.shaped
  obtain ⟨io, ic, rfl⟩ := HI6.out.shape
  obtain ⟨b3, o3, rfl, l3, x3⟩ := HF6.out.at 3 (by simp)
  obtain ⟨b0, o0, e0, l0, x0⟩ := HF6.out.at 0 (by simp)
  simp only [Option.some.injEq, Addr.mk.injEq] at e0
  obtain ⟨rfl, rfl, _⟩ := e0
  obtain ⟨b4, o4, rfl, l4, y0⟩ := HI6.out.hit 0 (by simp)
  obtain ⟨b5, o5, e5, l5, y1⟩ := HI6.out.hit 1 (by simp)
  simp only [Option.some.injEq, Addr.mk.injEq] at e5
  obtain ⟨rfl, rfl, _⟩ := e5
  simp at x3 x0 y0 y1
  clear HF6 HI6
  go_wp2
  go_ret
  exact ⟨rfl, HB6.out⟩

end Go.Proofs.YtjknflpclniiiaaDoor
