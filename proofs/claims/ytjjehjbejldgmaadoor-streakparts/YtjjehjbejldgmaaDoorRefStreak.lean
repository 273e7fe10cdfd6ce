/-
  The reference's answers to chapter 11: the configuration that counts; a time; failures in a row.
-/
import Derived.Test.YtjjehjbejldgmaaDoorStreakMath
import Derived.Test.YtjjehjbejldgmaaDoorKnownKit
import Derived.Test.YtjjehjbejldgmaaDoorRefMay
import Derived.Test.YtjjehjbejldgmaaDoorRefMayC
import Derived.Laws.Rows
import Derived.Laws.Small
import Derived.Deep.CutRange
import Derived.BigQuiet
import Derived.Deep.QuietTactic
namespace Go.Proofs.YtjjehjbejldgmaaDoor
open Go.RowKit

theorem rTime_any (n : Int) (w : World) : Calls Tryd.prog 16 #[.int .i64 n] w fun e w' => e = .returned (.int .i64 (capS n)) ∧ w' = w := by
  obtain ⟨R, hR⟩ : ∃ R, capS n = R := ⟨_, rfl⟩
  rw [hR]
  unfold capS topS at hR
  go_enter Tryd.func16, Tryd.ntmps16
  by_cases h1 : 4611686018427387904 < n
  · have hR2 : (4611686018427387904 : Int) = R := by rw [← hR, if_neg (by omega), if_pos h1]
    clear hR
    subst hR2
    go_wp2
    go_ret
    exact ⟨rfl, rfl⟩
  · by_cases h0 : n < 0
    · rw [if_pos h0] at hR
      subst hR
      have h2 : ¬ (0 : Int) < n := by omega
      go_wp2
      go_ret
      exact ⟨rfl, rfl⟩
    · rw [if_neg h0, if_neg h1] at hR
      subst hR
      by_cases h2 : 0 < n
      · go_wp2
        go_ret
        exact ⟨rfl, rfl⟩
      · obtain rfl : n = 0 := by omega
        go_wp2
        go_ret
        exact ⟨rfl, rfl⟩

set_option maxRecDepth 100000 in
set_option maxHeartbeats 2000000 in
theorem rHeld_any (c : Cfg) (w : World) (hz : c.zone.size ≤ 9223372036854775807) :
    Calls Tryd.prog 11 #[.agg c.arr] w fun e w' => e = .returned (.agg (knownC c).arr) ∧ Below w.heap.size w w' := by
  have HMay : Hid (∀ W : World, Calls Tryd.prog 10 #[.agg c.arr] W fun e w' => e = .returned (.bool (mayC c)) ∧ Below W.heap.size W w') := fun W => rMay_any c W hz
  have HK : Hid (knownC c = if mayC c then c else defC) := rfl
  have HI : Hid ((Tryd.prog.info? 23).map (·.size) = some c.arr.size) := arr_inf c
  have HJ : Hid ((Tryd.prog.info? 23).map (·.size) = some defC.arr.size) := arr_inf defC
  have HOc : Hid (c.arr.all (·.oneCell') = true) := arr_one c
  have HOd : Hid (defC.arr.all (·.oneCell') = true) := arr_one defC
  have HDef : Hid (∀ W : World, Calls Tryd.prog 12 #[] W fun e w' => e = .returned (.agg defC.arr) ∧ Below W.heap.size W w') := rDefault_any
  have HR : Hid ((knownC c).arr = if mayC c then c.arr else defC.arr) := by show _ = _; rw [HK.out]; split <;> rfl
  have hs1 : c.arr.size = 23 := arr_size c
  have hs2 : defC.arr.size = 23 := arr_size defC
  have HS1 : Hid (c.arr.size = 23) := hs1
  have HS2 : Hid (defC.arr.size = 23) := hs2
  clear HK hs1 hs2
  generalize (knownC c).arr = R at HR ⊢
  generalize c.arr = cs at HMay HI HOc HR HS1 ⊢
  generalize defC.arr = ds at HDef HJ HOd HR HS2
  generalize mayC c = q at HMay HR
  go_enter Tryd.func11, Tryd.ntmps11
  go_upto_region 1 with fail
  generalize hW0 : (w.alloc _).alloc _ = W0
  obtain ⟨old, hold, hg0⟩ : ∃ old : Array Value, old.size = 23 ∧ CellsAt W0 (w.heap.size + 1) old := ⟨_, rfl, by rw [← hW0]; exact heap_alloc2_new w _ _⟩
  have HZ0 : Hid (CellsAt W0 (w.heap.size + 1) old) := hg0
  have HOld : Hid (old.size = 23) := hold
  have HC0 : Hid (CellsAt W0 w.heap.size cs) := by show CellsAt _ _ _; rw [← hW0]; exact heap_alloc2_old w _ _
  have HB0 : Hid (Below w.heap.size w W0) := by show Below _ _ _; rw [← hW0]; exact ((Below.refl _ _).alloc (Nat.le_refl _) _).alloc (by simp) _
  clear hW0 hold hg0
  go_wp2_with (first | (refine wpList_load_row rfl 23 (.tmp 1) rfl w.heap.size rfl 23 _ (0, 0) _ HC0.out Tryd.underlying23 rfl HI.out ?_) | fail)
  refine (HMay.out _).mono ?_
  rintro e w1 ⟨rfl, hb⟩
  have HC1 : Hid (CellsAt w1 w.heap.size cs) := HC0.out.below hb
  have HZ1 : Hid (CellsAt w1 (w.heap.size + 1) old) := HZ0.out.below hb
  have HB1 : Hid (Below w.heap.size w w1) := HB0.out.trans (hb.mono HB0.out.size)
  clear hb HC0 HZ0 HB0 HMay
  cases q with
  | true =>
    have e : R = cs := HR.out
    subst e
    have HOS : Hid (old.size = R.size) := HOld.out.trans HS1.out.symm
    go_wp2_with (first | (refine wpList_load_row rfl 23 (.tmp 1) rfl w.heap.size rfl 23 _ (0, 0) _ HC1.out Tryd.underlying23 rfl HI.out ?_) | (refine wpList_store_row rfl 23 (.tmp 2) (.tmp 7) rfl (w.heap.size + 1) R rfl rfl 23 _ HZ1.out HI.out HOS.out HOc.out ?_) | fail)
    refine bodyPost_ret (results_cell_row rfl _ _ (w.heap.size + 1) 23 _ _ _ rfl (setRow_heap w1 _ _ _ _ _ HZ1.out) Tryd.underlying23 rfl HI.out) rfl ?_
    exact ⟨rfl, below_setRow HB1.out (by omega) _⟩
  | false =>
    have e : R = ds := HR.out
    subst e
    have HOS : Hid (old.size = R.size) := HOld.out.trans HS2.out.symm
    go_wp2_with fail
    refine (HDef.out _).mono ?_
    rintro e w2 ⟨rfl, hb⟩
    have HZ2 : Hid (CellsAt w2 (w.heap.size + 1) old) := HZ1.out.below hb
    have HB2 : Hid (Below w.heap.size w w2) := HB1.out.trans (hb.mono HB1.out.size)
    clear hb HC1 HZ1 HB1 HDef
    go_wp2_with (first | (refine wpList_store_row rfl 23 (.tmp 2) (.tmp 6) rfl (w.heap.size + 1) R rfl rfl 23 _ HZ2.out HJ.out HOS.out HOd.out ?_) | fail)
    refine bodyPost_ret (results_cell_row rfl _ _ (w.heap.size + 1) 23 _ _ _ rfl (setRow_heap w2 _ _ _ _ _ HZ2.out) Tryd.underlying23 rfl HJ.out) rfl ?_
    exact ⟨rfl, below_setRow HB2.out (by omega) _⟩

set_option maxRecDepth 100000 in
set_option maxHeartbeats 2000000 in
theorem rStreak_any (c : Cfg) (n : Int) (ok : Bool) (w : World) (hz : c.zone.size ≤ 9223372036854775807) :
    Calls Tryd.prog 8 #[.agg c.arr, .int .i64 n, .bool ok] w fun e w' => e = .returned (.tuple #[.int .i64 (nextS (knownC c).f7 (capS n) ok).1, .bool (nextS (knownC c).f7 (capS n) ok).2]) ∧ Below w.heap.size w w' := by
  have HHd : Hid (∀ W : World, Calls Tryd.prog 11 #[.agg c.arr] W fun e w' => e = .returned (.agg (knownC c).arr) ∧ Below W.heap.size W w') := fun W => rHeld_any c W hz
  have HI : Hid ((Tryd.prog.info? 23).map (·.size) = some c.arr.size) := arr_inf c
  have HJ : Hid ((Tryd.prog.info? 23).map (·.size) = some (knownC c).arr.size) := arr_inf _
  have HOd : Hid ((knownC c).arr.all (·.oneCell') = true) := arr_one _
  have HOS : Hid (c.arr.size = (knownC c).arr.size) := (arr_size c).trans (arr_size _).symm
  have HD7 : Hid ((knownC c).arr[7]? = some (.int .i64 (knownC c).f7)) := rfl
  have HTm : Hid (∀ W : World, Calls Tryd.prog 16 #[.int .i64 n] W fun e w' => e = .returned (.int .i64 (capS n)) ∧ w' = W) := rTime_any n
  obtain ⟨m0, m1⟩ := capS_in n
  have HE : Hid (0 ≤ (knownC c).f7 ∧ (knownC c).f7 ≤ 100) := may_num7 (known_may c)
  generalize (knownC c).f7 = E at HD7 HE ⊢
  generalize capS n = m at HTm m0 m1 ⊢
  generalize (knownC c).arr = ds at HHd HJ HOd HOS HD7
  generalize c.arr = cs at HHd HI HOS ⊢
  have HS : Hid (cs.size = ds.size) := HOS
  go_enter Tryd.func8, Tryd.ntmps8
  go_upto_region 1 with fail
  generalize hW0 : w.alloc _ = W0
  have HC0 : Hid (CellsAt W0 w.heap.size cs) := by show CellsAt _ _ _; rw [← hW0]; exact heap_alloc_new w _
  have HB0 : Hid (Below w.heap.size w W0) := by show Below _ _ _; rw [← hW0]; exact (Below.refl _ _).alloc (Nat.le_refl _) _
  clear hW0
  go_wp2_with (first | (refine wpList_load_row rfl 23 (.tmp 3) rfl w.heap.size rfl 23 _ (0, 0) _ HC0.out Tryd.underlying23 rfl HI.out ?_) | fail)
  refine (HHd.out _).mono ?_
  rintro e w1 ⟨rfl, hb⟩
  have HC1 : Hid (CellsAt w1 w.heap.size cs) := HC0.out.below hb
  have HB1 : Hid (Below w.heap.size w w1) := HB0.out.trans (hb.mono HB0.out.size)
  clear hb HC0 HB0 HHd
  cases ok with
  | true =>
    go_wp2_with (first | (refine wpList_store_row rfl 23 (.tmp 3) (.tmp 9) rfl w.heap.size ds rfl rfl 23 _ HC1.out HJ.out HS.out HOd.out ?_; generalize hW : World.setRow _ _ _ = W3; have HB3 : Hid (Below w.heap.size w W3) := (by show Below _ _ _; rw [← hW]; exact below_setRow HB1.out (Nat.le_refl _) _); clear hW) | fail)
    go_ret2
    exact ⟨rfl, HB3.out⟩
  | false =>
    obtain ⟨M, hM⟩ : ∃ M, moreS m = M := ⟨_, rfl⟩
    have hn : nextS E m false = (M, decide (0 < E) && decide (E ≤ M)) := by unfold nextS; rw [if_neg (by decide), hM]
    have HN : Hid (nextS E m false = (M, decide (0 < E) && decide (E ≤ M))) := hn
    clear hn
    unfold moreS topS at hM
    unfold topS at m1
    have hM0 : IntKind.i64.wrap (m + 1) = m + 1 := wrap_in (by omega) (by omega)
    have hM3 : wrap64 (m + 1) = m + 1 := by unfold wrap64; omega
    have hM1 : (if (4611686018427387904 : Int) < m + 1 then (4611686018427387904 : Int) else m + 1) = M := by
      by_cases h : m < 4611686018427387904
      · rw [if_pos h] at hM; rw [if_neg (by omega)]; omega
      · rw [if_neg h] at hM; rw [if_pos (by omega)]; omega
    have HM1 : Hid _ := hM1
    clear hM m0 m1 hM1
    go_wp2_with (first | (refine wpList_store_row rfl 23 (.tmp 3) (.tmp 9) rfl w.heap.size ds rfl rfl 23 _ HC1.out HJ.out HS.out HOd.out ?_; generalize hW : World.setRow _ _ _ = W3; have HB3 : Hid (Below w.heap.size w W3) := (by show Below _ _ _; rw [← hW]; exact below_setRow HB1.out (Nat.le_refl _) _); have g7 : W3.cell? ⟨w.heap.size, 7, none⟩ = some (.int .i64 E) := (by rw [← hW]; exact (HasBox.cell (HasBox.row HC1.out) 7).trans HD7.out); clear hW HC1 HB1) | fail)
    refine (HTm.out _).mono ?_
    rintro e w4 ⟨rfl, hw⟩
    subst w4
    have hM1 := HM1.out
    clear HTm
    by_cases h1 : 0 < E
    · have HN1 : Hid (nextS E m false = (M, decide (E ≤ M))) := by show _ = _; rw [HN.out, decide_eq_true h1, Bool.true_and]
      have d1 : decide (0 < E) = true := decide_eq_true h1
      by_cases h2 : E ≤ M
      · have HN2 : Hid (nextS E m false = (M, true)) := by show _ = _; rw [HN1.out, decide_eq_true h2]
        have d2 : decide (E ≤ M) = true := decide_eq_true h2
        go_wp2
        go_quiet (fail)
        go_wp2
        go_ret2
        exact ⟨by rw [HN2.out]; rfl, below_drewN HB3.out _⟩
      · have HN2 : Hid (nextS E m false = (M, false)) := by show _ = _; rw [HN1.out, decide_eq_false h2]
        have d2 : decide (E ≤ M) = false := decide_eq_false h2
        go_wp2
        go_quiet (fail)
        go_wp2
        go_ret2
        exact ⟨by rw [HN2.out]; rfl, below_drewN HB3.out _⟩
    · have HN2 : Hid (nextS E m false = (M, false)) := by show _ = _; rw [HN.out, decide_eq_false h1, Bool.false_and]
      have d1 : decide (0 < E) = false := decide_eq_false h1
      go_wp2
      go_quiet (fail)
      go_wp2
      go_ret2
      exact ⟨by rw [HN2.out]; rfl, below_drewN HB3.out _⟩

end Go.Proofs.YtjjehjbejldgmaaDoor
