/-
  The statements' own 'awake' of stage 5.
-/
import Derived.Test.YtpccjlocmbfmnaaLines1
namespace Go.Proofs.Ytpccjlocmbfmnaa
open Go.RowKit

def awakeS : ByteArray := { data := #[97, 32, 98, 32, 35, 99, 10, 10, 32, 100] }
theorem awake_split : splitV awakeS = ([(1, [mkS [97], mkS [98]]), (3, [mkS [100]])], 0, 0) := by decide +kernel
theorem awake_num : numV { data := #[49, 50, 48] } = 120 ∧ numOK { data := #[49, 50, 48] } = true := by decide +kernel
theorem awake_name1 : nameOK { data := #[97, 45, 49, 46, 98] } = true := by decide +kernel
theorem awake_name2 : nameOK { data := #[45] } = false := by decide +kernel

theorem HasLines.below {w w' : World} {v : Value} {L : List LineT} (h : HasLines w v L) (hb : Below w.heap.size w w') : HasLines w' v L := by
  obtain ⟨vs, h⟩ := h
  exact ⟨vs, h.below hb⟩

set_option maxRecDepth 100000 in
set_option maxHeartbeats 1000000 in
theorem awake_any (w : World) :
    Calls Try.prog 10 #[] w fun e w' => e = .returned (.bool true) ∧ Below w.heap.size w w' := by
  have hsp := fun W => split_any awakeS W (by decide)
  rw [awake_split] at hsp
  have hnm := fun W => number_any { data := #[49, 50, 48] } W (by decide)
  rw [awake_num.1, awake_num.2] at hnm
  have hn1 := fun W => name_any { data := #[97, 45, 49, 46, 98] } W (by decide)
  rw [awake_name1] at hn1
  have hn2 := fun W => name_any { data := #[45] } W (by decide)
  rw [awake_name2] at hn2
  unfold awakeS at hsp
  go_enter Try.func10, Try.ntmps10
  go_wp2_with fail
  refine (hsp _).mono ?_
  rintro e w1 ⟨v1, rfl, ⟨vs, hk1⟩, hb1⟩
  obtain ⟨ao, ac, rfl⟩ := hk1.2.1.shaped
  have HK1 : Hid (IsLines w1 (.slice ao 2 ac) vs [(1, [mkS [97], mkS [98]]), (3, [mkS [100]])]) := hk1
  have HB1 : Hid (Below w.heap.size w w1) := hb1
  clear hk1 hb1 hsp
  go_wp2_with fail
  refine (hnm _).mono ?_
  rintro e w2 ⟨rfl, hb2⟩
  have hk2 := HK1.out.below hb2
  have HB2 : Hid (Below w.heap.size w w2) := HB1.out.trans (hb2.mono HB1.out.size)
  obtain ⟨b1, o1, rfl, hbl1, g1, g2⟩ := hk2.at 0 (by simp)
  obtain ⟨_, _, e, _, g3, g4⟩ := hk2.at 1 (by simp)
  simp only [Option.some.injEq, Addr.mk.injEq, and_true] at e
  obtain ⟨rfl, rfl⟩ := e
  have hW := hk2.2.2 0 (by simp)
  generalize vs.getD 0 nilW = p1 at g2 hW
  obtain ⟨wo, wc, rfl⟩ := IsRow.shaped hW
  simp at g1 g2 g3
  clear hk2 hb2 HK1 HB1 hnm hW g4
  go_wp2_with fail
  refine (hn1 _).mono ?_
  rintro e w3 ⟨rfl, hb3⟩
  have HB3 : Hid (Below w.heap.size w w3) := HB2.out.trans (hb3.mono HB2.out.size)
  clear hb3
  go_wp2_with fail
  refine (hn2 _).mono ?_
  rintro e w4 ⟨rfl, hb4⟩
  have HB4 : Hid (Below w.heap.size w w4) := HB3.out.trans (hb4.mono HB3.out.size)
  clear hb4
  go_wp2
  go_ret
  exact ⟨rfl, HB4.out⟩

end Go.Proofs.Ytpccjlocmbfmnaa
