/-
  The statements' own 'awake': it returns true, and no memory that was there has turned.
-/
import Derived.Test.YtkhklfbgfikeoaaRatio4
namespace Go.Proofs.Ytkhklfbgfikeoaa
open Go.RowKit

theorem s111 : spreadV 100 [1, 1, 1] = [34, 33, 33] := by decide +kernel
theorem m794 : mdV 7 9 4 = 15 ∧ mdOk 7 9 4 = true := by decide +kernel
theorem c3462 : cmpV (oz 3 * oz 4) (oz 6 * oz 2) = 0 := by decide +kernel
theorem d15 : drawV (-1) 5 = 4 := by decide +kernel
theorem s23 : sumV [2, 3] = 5 := by decide +kernel
theorem p5010 : mdV 50 10 100 = 5 := by decide +kernel

set_option maxHeartbeats 1000000 in
theorem awake_any (w : World) :
    Calls Try.prog 9 #[] w fun e w' => e = .returned (.bool true) ∧ Below w.heap.size w w' := by
  go_enter Try.func9, Try.ntmps9
  go_wp2_with fail
  refine (mulDiv_any 7 9 4 _ (by omega) (by omega) (by omega)).mono ?_
  rintro e w1 ⟨rfl, hb1⟩
  rw [m794.1, m794.2]
  go_wp2_with fail
  refine (spread_any 100 [1, 1, 1] _ _ (IsInts.fresh w1 [1, 1, 1] 3 3 (by simp) (by simp) (by simp)) (by simp)).mono ?_
  rintro e w2 ⟨v, rfl, hi2, hb2⟩
  rw [s111] at hi2
  obtain ⟨b, off, cap, hv⟩ : ∃ b off cap, v = .slice (some ⟨b, off, none⟩) 3 cap ∧ b < w2.heap.size ∧ w2.cell? ⟨b, off, none⟩ = some (.int .i64 34) := by
    rcases hi2.2.2 with ⟨h, _⟩ | ⟨_, b, off, cap, rfl, hlt, hc⟩
    · simp at h
    · exact ⟨b, off, cap, rfl, hlt, by simpa using hc 0 (by simp)⟩
  obtain ⟨rfl, hlt, hc2⟩ := hv
  have HB2 : Hid (Below w.heap.size w w2) := hb1.trans (((Below.refl _ _).alloc hb1.size _).trans (hb2.mono (by have := hb1.size; simp; omega)))
  have H2 : Hid (w2.cell? ⟨b, off, none⟩ = some (.int .i64 34)) := hc2
  clear hi2 hb1 hb2 hc2
  go_wp2_with fail
  refine (compare_any 3 4 6 2 _ (by omega) (by omega) (by omega) (by omega)).mono ?_
  rintro e w3 ⟨rfl, hb3⟩
  rw [c3462]
  have HB3 : Hid (Below w2.heap.size w2 w3) := hb3
  clear hb3
  go_wp2_with fail
  refine (draw_any (-1) 5 _ (by omega)).mono ?_
  rintro e w4 ⟨rfl, hw⟩
  subst w4
  rw [d15]
  go_wp2_with fail
  refine (sum_any [2, 3] _ _ (IsInts.fresh w3 [2, 3] 3 2 (by simp) (by simp) (by simp))).mono ?_
  rintro e w4 ⟨rfl, hw⟩
  subst w4
  rw [s23]
  go_wp2_with fail
  refine (percent_any 50 10 _ (by omega) (by omega)).mono ?_
  rintro e w4 ⟨rfl, hb4⟩
  rw [p5010]
  have HB4 : Hid (Below w2.heap.size w2 w4) := HB3.out.trans (((Below.refl _ _).alloc HB3.out.size _).trans (hb4.mono (by have := HB3.out.size; simp; omega)))
  have hc4 : w4.cell? ⟨b, off, none⟩ = some (.int .i64 34) := (HB4.out.cell (p := ⟨b, off, none⟩) hlt).trans H2.out
  clear hb4
  go_wp2
  go_ret
  exact ⟨rfl, HB2.out.trans (HB4.out.mono HB2.out.size)⟩

end Go.Proofs.Ytkhklfbgfikeoaa
