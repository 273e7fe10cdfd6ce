/-
  The reference's answers to chapter 6: what may be.
-/
import Derived.Test.YtomhmndpjkfppaaDoorRefMayKit
import Derived.Test.YtomhmndpjkfppaaDoorRefNums
import Derived.Test.YtomhmndpjkfppaaDoorRefWord
import Derived.Test.YtomhmndpjkfppaaDoorRefSplitKit
import Derived.BigQuiet
import Derived.Deep.QuietTactic
import Derived.StillTailTactics
import Derived.Laws.Rows
import Derived.Laws.CopyOwn
namespace Go.Proofs.YtomhmndpjkfppaaDoor
open Go.RowKit

theorem may_bad (c : Cfg) (k : Nat) (hk : k < 23) (h : fitsC c.nums k = false) : mayC c = false := by
  unfold mayC
  have : (List.range 23).all (fitsC c.nums) = false := by
    rw [List.all_eq_false]
    exact ⟨k, List.mem_range.2 hk, by rw [h]; simp⟩
  rw [this]; rfl
theorem may_good (c : Cfg) (h : ∀ k, k < 23 → fitsC c.nums k = true) : mayC c = (decide (c.zone.size = 0) || nameOK c.zone) := by
  unfold mayC
  have : (List.range 23).all (fitsC c.nums) = true := by
    rw [List.all_eq_true]
    intro k hk
    exact h k (List.mem_range.1 hk)
  rw [this]; rfl

theorem below_drewN {B : Nat} {a w : World} (h : Below B a w) (n : Nat) : Below B a (w.drewN n) := ⟨h.os, h.tape, h.output, h.size, h.block⟩

set_option maxRecDepth 100000 in
set_option maxHeartbeats 4000000 in
theorem rMay_any (c : Cfg) (w : World) (hz : c.zone.size ≤ 9223372036854775807) :
    Calls Tryd.prog 7 #[c.val] w fun e w' => e = .returned (.bool (mayC c)) ∧ Below w.heap.size w w' := by
  have HBad : Hid (∀ k, k < 23 → fitsC c.nums k = false → mayC c = false) := may_bad c
  have HGood : Hid ((∀ k, k < 23 → fitsC c.nums k = true) → mayC c = (decide (c.zone.size = 0) || nameOK c.zone)) := may_good c
  have HFit : Hid (∀ k, fitsC c.nums k = decide (lowC k ≤ c.nums.getD k 0 ∧ c.nums.getD k 0 ≤ highC k)) := fun k => rfl
  have HNums := fun W => rNums_any c W
  unfold Cfg.val at HNums ⊢
  generalize mayC c = R at HBad HGood ⊢
  generalize c.nums = D at HBad HGood HFit HNums
  obtain ⟨a0, a1, a2, a3, a4, a5, a6, a7, a8, a9, a10, a11, a12, a13, a14, q15, a16, a17, a18, a19, a20, z, q22⟩ := c
  simp only at hz HBad HGood HNums ⊢
  go_enter Tryd.func7, Tryd.ntmps7
  iterate 14 go_step
  refine wpList_load_row rfl 23 (.tmp 1) rfl w.heap.size rfl 23 _ (0, 0) _ (heap_alloc_new w _) Tryd.underlying23 rfl (by kernel_rfl) ?_
  go_wp2_with fail
  generalize hW0 : w.alloc _ = W0
  have HC0 : Hid (W0.cell? ⟨w.heap.size, 21, none⟩ = some (.string z)) := by show _ = _; rw [← hW0, World.cell?_alloc_at _ _ _ _ rfl]; rfl
  have HB0 : Hid (Below w.heap.size w W0) := by show Below _ _ _; rw [← hW0]; exact (Below.refl _ _).alloc (Nat.le_refl _) _
  have HN0 : Hid (W0.heap.size = w.heap.size + 1) := by show _ = _; rw [← hW0]; simp
  clear hW0
  refine (HNums _).mono ?_
  rintro e w1 ⟨nv, rfl, hn, hb⟩
  clear HNums
  obtain ⟨nb, noff, ncap, rfl, hnb, hnc⟩ := numsAt hn (by omega)
  have HNc : Hid (∀ i, i < 23 → w1.cell? ⟨nb, noff + i, none⟩ = some (.int .i64 (D.getD i 0))) := hnc
  have HNb : Hid (nb < w1.heap.size) := hnb
  have HB1 : Hid (Below W0.heap.size W0 w1) := hb
  clear hn hb hnc hnb
  go_wp2_with fail
  refine (rRows_any _).mono ?_
  rintro e w2 ⟨v, rfl, hr, hb⟩
  obtain ⟨ao, cap, rfl⟩ := hr.shaped
  have HR : Hid (IsRow 4 w2 (.slice ao 23 cap) 23 rowsV) := hr
  have HB2 : Hid (Below w1.heap.size w1 w2) := hb
  clear hr hb
  go_wp2
  go_loopw [10] (fun q wr => ∃ k : Nat, k ≤ 23 ∧ q = .int .i64 k ∧ (∀ j, j < k → fitsC D j = true) ∧ Below w2.heap.size w2 wr) (fun q _ => 23 - (intOf q).toNat)
  case atStart => exact ⟨0, Nat.zero_le _, rfl, fun j h => by omega, Below.refl _ _⟩
  case round =>
    obtain ⟨k, hk, rfl, hd, hb⟩ := hrel
    have HD : Hid (∀ j, j < k → fitsC D j = true) := hd
    have HB : Hid (Below w2.heap.size w2 wr) := hb
    clear hd hb
    have HBa : Hid (Below w.heap.size w wr) := HB0.out.trans ((HB1.out.mono (by have := HN0.out; omega)).trans ((HB2.out.mono (by have := HB1.out.size; have := HN0.out; omega)).trans (HB.out.mono (by have := HB1.out.size; have := HB2.out.size; have := HN0.out; omega))))
    by_cases hlt : k < 23
    · obtain ⟨b, off, rfl, hbl, g0, g1, g2, g3⟩ := rowsAt (HR.out.below HB.out) k hlt
      have hnbl : nb < wr.heap.size := by have := HNb.out; have := HB2.out.size; have := HB.out.size; omega
      have gn : wr.cell? ⟨nb, noff + k, none⟩ = some (.int .i64 (D.getD k 0)) := (HB.out.cell (p := ⟨nb, noff + k, none⟩) (by have := HNb.out; have := HB2.out.size; show nb < _; omega)).trans ((HB2.out.cell (p := ⟨nb, noff + k, none⟩) HNb.out).trans (HNc.out k hlt))
      have HF := HFit.out k
      have HBd : Hid (fitsC D k = false → R = false) := HBad.out k hlt
      have HNx : Hid (fitsC D k = true → ∀ j, j < k + 1 → fitsC D j = true) := fun h j hj => by
        rcases Nat.lt_or_ge j k with h1 | h1
        · exact HD.out j h1
        · have e : j = k := by omega
          rw [e]; exact h
      generalize fitsC D k = fk at HF HBd HNx
      generalize D.getD k 0 = x at gn HF
      generalize selfC k = sv at g3
      generalize nameC k = nv at g0
      generalize lowC k = lv at g1 HF
      generalize highC k = hv at g2 HF
      have HFx : Hid (fk = decide (lv ≤ x ∧ x ≤ hv)) := HF
      clear HF
      by_cases d1 : x < lv
      · have e := HBd.out (by rw [HFx.out, decide_eq_false_iff_not]; omega)
        subst e
        have hd1 : decide (x < lv) = true := decide_eq_true d1
        go_wp2
        go_quiet (fail)
        go_wp2
        go_ret
        exact ⟨rfl, below_drewN (HBa.out.alloc HBa.out.size _) _⟩
      · have hd1 : decide (x < lv) = false := decide_eq_false d1
        by_cases d2 : hv < x
        · have e := HBd.out (by rw [HFx.out, decide_eq_false_iff_not]; omega)
          subst e
          go_wp2
          go_quiet (fail)
          go_wp2
          go_ret
          exact ⟨rfl, below_drewN (HBa.out.alloc HBa.out.size _) _⟩
        · have HN2 : Hid (∀ j, j < k + 1 → fitsC D j = true) := HNx.out (by rw [HFx.out, decide_eq_true_eq]; omega)
          go_wp2
          go_quiet (fail)
          go_wp2
          go_roundw
          case rel => exact ⟨k + 1, by omega, by go_num, HN2.out, below_drewN (HB.out.alloc HB.out.size _) _⟩
          case measure => simp [intOf]; omega
    · have e := HGood.out (fun j hj => HD.out j (by omega))
      have gz : wr.cell? ⟨w.heap.size, 21, none⟩ = some (.string z) := by
        have h0 := HN0.out
        have h1 := HB1.out.size
        have h2 := HB2.out.size
        exact (HB.out.cell (p := ⟨w.heap.size, 21, none⟩) (by show w.heap.size < _; omega)).trans ((HB2.out.cell (p := ⟨w.heap.size, 21, none⟩) (by show w.heap.size < _; omega)).trans ((HB1.out.cell (p := ⟨w.heap.size, 21, none⟩) (by show w.heap.size < _; omega)).trans HC0.out))
      by_cases hz0 : z.size = 0
      · have hx1 := empty_size z hz0
        have hx2 : z.toList = [] := by simpa using hx1
        rw [decide_eq_true hz0, Bool.true_or] at e
        subst e
        clear hx1 hz0
        go_wp2
        go_ret
        exact ⟨rfl, HBa.out⟩
      · have hx1 := nonempty_size z hz0
        have hx2 : z.toList.isEmpty = false := by simpa using hx1
        rw [decide_eq_false hz0, Bool.false_or] at e
        subst e
        clear hz0
        go_wp2_with fail
        refine (rWord_any z _ hz).mono ?_
        rintro e w7 ⟨rfl, hw7⟩
        subst w7
        go_wp2
        go_ret
        exact ⟨rfl, HBa.out⟩

end Go.Proofs.YtomhmndpjkfppaaDoor
