/-
  Contracts of the reference on buckets: MayBucket, Note, Rate, Enough, Failing.
-/
import Derived.Test.YtjknflpclniiiaaDoorBucket1
import Derived.Test.YtjknflpclniiiaaDoorRefCompare
namespace Go.Proofs.YtjknflpclniiiaaDoor
open Go.RowKit

set_option maxHeartbeats 1000000 in
theorem rkMay_any (b : Bk) (w : World) : Calls Tryd.prog 17 #[bval b] w fun e w' => e = .returned (.bool (mayBk b)) ∧ Below w.heap.size w w' := by
  obtain ⟨x, y⟩ := b
  have HB : Hid (∀ o, Below w.heap.size w (w.alloc o)) := fun o => (Below.refl _ _).alloc (Nat.le_refl _) _
  unfold bval bcells mayBk
  simp only
  by_cases h1 : 0 ≤ x
  · rw [decide_eq_true h1, Bool.true_and]
    by_cases h2 : x ≤ y
    · rw [decide_eq_true h2, Bool.true_and]
      by_cases h3 : y ≤ 1000000000
      · rw [decide_eq_true h3]
        go_enter Tryd.func17, Tryd.ntmps17
        go_wp2
        go_ret
        exact ⟨rfl, HB.out _⟩
      · rw [decide_eq_false h3]
        go_enter Tryd.func17, Tryd.ntmps17
        go_wp2
        go_ret
        exact ⟨rfl, HB.out _⟩
    · rw [decide_eq_false h2, Bool.false_and]
      go_enter Tryd.func17, Tryd.ntmps17
      go_wp2
      go_ret
      exact ⟨rfl, HB.out _⟩
  · rw [decide_eq_false h1, Bool.false_and]
    go_enter Tryd.func17, Tryd.ntmps17
    go_wp2
    go_ret
    exact ⟨rfl, HB.out _⟩


set_option maxHeartbeats 1000000 in
theorem rkRate_any (b : Bk) (w : World) : Calls Tryd.prog 16 #[bval b] w fun e w' => e = .returned (.int .i64 (rateK b)) ∧ Below w.heap.size w w' := by
  have HM : Hid (∀ W : World, Calls Tryd.prog 17 #[bval b] W fun e w' => e = .returned (.bool (mayBk b)) ∧ Below W.heap.size W w') := rkMay_any b
  have HB : Hid (∀ o, Below w.heap.size w (w.alloc o)) := fun o => (Below.refl _ _).alloc (Nat.le_refl _) _
  by_cases hm : mayBk b = true
  · rw [hm] at HM
    have hi := (mayBk_iff b).1 hm
    by_cases h0 : b.all = 0
    · have hr : rateK b = 0 := by unfold rateK; rw [if_neg (by simp [countsK, h0])]
      rw [hr]
      clear hr hi hm
      have e1 : (b.all == 0) = true := by simp [h0]
      clear h0
      obtain ⟨x, y⟩ := b
      unfold bval bcells at HM ⊢
      simp only at HM e1 ⊢
      go_enter Tryd.func16, Tryd.ntmps16
      go_wp2_with fail
      refine (HM.out _).mono ?_
      rintro e w1 ⟨rfl, hb⟩
      obtain ⟨hc, hf⟩ := bcell hb
      have HB1 : Hid (Below w.heap.size w w1) := (HB.out _).trans (hb.mono (by simp))
      clear hb
      go_wp2
      go_ret
      exact ⟨rfl, HB1.out⟩
    · have hc : countsK b = true := (countsK_iff b).2 (by omega)
      have hr : b.ok * 10000 / b.all = rateK b := by unfold rateK; rw [if_pos hc]
      have hq : (b.ok * 10000).tdiv b.all = rateK b := by rw [← hr]; exact Int.tdiv_eq_ediv_of_nonneg (by omega)
      have hbd := rateK_bd b
      have hw1 : IntKind.i64.wrap (b.ok * 10000) = b.ok * 10000 := by rw [IntKind.wrap_i64]; omega
      have hw2 : IntKind.i64.wrap (rateK b) = rateK b := by rw [IntKind.wrap_i64]; omega
      have e1 : (b.all == 0) = false := by simp [h0]
      clear hr hm hc hbd
      generalize rateK b = r at *
      obtain ⟨x, y⟩ := b
      unfold bval bcells at HM ⊢
      simp only at HM e1 h0 hi hq hw1 hw2 ⊢
      go_enter Tryd.func16, Tryd.ntmps16
      go_wp2_with fail
      refine (HM.out _).mono ?_
      rintro e w1 ⟨rfl, hb⟩
      obtain ⟨hc, hf⟩ := bcell hb
      have HB1 : Hid (Below w.heap.size w w1) := (HB.out _).trans (hb.mono (by simp))
      clear hb
      go_wp2
      go_ret
      exact ⟨rfl, HB1.out⟩
  · have h0 : mayBk b = false := by simpa using hm
    have hr : rateK b = 0 := by unfold rateK; rw [if_neg (by simp [countsK, h0])]
    rw [hr]
    rw [h0] at HM
    clear hr hm h0
    obtain ⟨x, y⟩ := b
    unfold bval bcells at HM ⊢
    simp only at HM ⊢
    go_enter Tryd.func16, Tryd.ntmps16
    go_wp2_with fail
    refine (HM.out _).mono ?_
    rintro e w1 ⟨rfl, hb⟩
    obtain ⟨hc, hf⟩ := bcell hb
    have HB1 : Hid (Below w.heap.size w w1) := (HB.out _).trans (hb.mono (by simp))
    clear hb
    go_wp2
    go_ret
    exact ⟨rfl, HB1.out⟩

set_option maxHeartbeats 1000000 in
theorem rkEnough_any (b : Bk) (n : Int) (w : World) : Calls Tryd.prog 15 #[bval b, .int .i64 n] w fun e w' => e = .returned (.bool (enoughK b n)) ∧ Below w.heap.size w w' := by
  have HM : Hid (∀ W : World, Calls Tryd.prog 17 #[bval b] W fun e w' => e = .returned (.bool (mayBk b)) ∧ Below W.heap.size W w') := rkMay_any b
  have HB : Hid (∀ o, Below w.heap.size w (w.alloc o)) := fun o => (Below.refl _ _).alloc (Nat.le_refl _) _
  obtain ⟨c, hc⟩ : ∃ c, enoughK b n = c := ⟨_, rfl⟩
  rw [hc]
  unfold enoughK countsK at hc
  generalize mayBk b = m at HM hc
  obtain ⟨x, y⟩ := b
  unfold bval bcells at HM ⊢
  simp only at HM hc ⊢
  have he : (m = false ∧ c = false) ∨ (m = true ∧ ¬ 0 < y ∧ c = false) ∨ (m = true ∧ 0 < y ∧ decide (n ≤ y) = c) := by
    subst hc
    cases m
    · exact .inl ⟨rfl, rfl⟩
    · by_cases h : 0 < y
      · exact .inr (.inr ⟨rfl, h, by simp [h]⟩)
      · exact .inr (.inl ⟨rfl, h, by simp [h]⟩)
  clear hc
  rcases he with ⟨rfl, rfl⟩ | ⟨rfl, h1, rfl⟩ | ⟨rfl, h1, rfl⟩
  all_goals
    go_enter Tryd.func15, Tryd.ntmps15
    go_wp2_with fail
    refine (HM.out _).mono ?_
    rintro e w1 ⟨rfl, hb⟩
    obtain ⟨hc, hf⟩ := bcell hb
    have HB1 : Hid (Below w.heap.size w w1) := (HB.out _).trans (hb.mono (by simp))
    clear hb
    go_wp2
    go_ret
    exact ⟨rfl, HB1.out⟩

set_option maxHeartbeats 2000000 in
theorem rkFail_any (b : Bk) (p : Int) (hp1 : p ≤ 9223372036854775807) (w : World) : Calls Tryd.prog 18 #[bval b, .int .i64 p] w fun e w' => e = .returned (.bool (failK b p)) ∧ Below w.heap.size w w' := by
  have HM : Hid (∀ W : World, Calls Tryd.prog 17 #[bval b] W fun e w' => e = .returned (.bool (mayBk b)) ∧ Below W.heap.size W w') := rkMay_any b
  have HB : Hid (∀ o, Below w.heap.size w (w.alloc o)) := fun o => (Below.refl _ _).alloc (Nat.le_refl _) _
  by_cases h : countsK b = true ∧ 0 < p
  · obtain ⟨v, hv, hd⟩ := cmp_hid h.1 h.2
    have hb := (countsK_iff b).1 h.1
    have hs : IntKind.i64.wrap (b.all - b.ok) = b.all - b.ok := by rw [IntKind.wrap_i64]; omega
    have HD : Hid (∀ W : World, Calls Tryd.prog 23 #[.int .i64 (b.all - b.ok), .int .i64 100, .int .i64 p, .int .i64 b.all] W fun e w' => e = .returned (.int .i64 v) ∧ w' = W) := fun W => by
      have := rCompare_any (b.all - b.ok) 100 p b.all W (by omega) (by omega) hp1 (by omega)
      rw [hv] at this
      exact this
    have hm : mayBk b = true := (mayBk_iff b).2 (by omega)
    have hp := h.2
    have ha : 0 < b.all := by omega
    have hd2 : decide (0 ≤ v) = failK b p := by
      rcases hd with h | h
      · rw [decide_eq_true h.1, h.2]
      · rw [decide_eq_false h.1, h.2]
    clear hv hb hp1 hd h
    rw [hm] at HM
    clear hm
    generalize failK b p = r at hd2 ⊢
    obtain ⟨x, y⟩ := b
    unfold bval bcells at HM ⊢
    simp only at HM HD hs ha ⊢
    subst hd2
    go_enter Tryd.func18, Tryd.ntmps18
    go_wp2_with fail
    refine (HM.out _).mono ?_
    rintro e w1 ⟨rfl, hb⟩
    obtain ⟨hc, hf⟩ := bcell hb
    have HB1 : Hid (Below w.heap.size w w1) := (HB.out _).trans (hb.mono (by simp))
    clear hb
    go_wp2_with fail
    refine (HD.out _).mono ?_
    rintro e w2 ⟨rfl, hw⟩
    subst w2
    go_wp2
    go_ret
    exact ⟨rfl, HB1.out⟩
  · have hr : failK b p = false := by
      by_cases hf : failK b p = true
      · unfold failK at hf
        simp only [Bool.and_eq_true, decide_eq_true_eq] at hf
        exact absurd ⟨hf.1, hf.2.1⟩ h
      · simpa using hf
    rw [hr]
    clear hr
    unfold countsK at h
    generalize mayBk b = m at HM h
    obtain ⟨x, y⟩ := b
    unfold bval bcells at HM ⊢
    simp only at HM h ⊢
    have he : (m = false) ∨ (m = true ∧ ¬ 0 < y) ∨ (m = true ∧ 0 < y ∧ ¬ 0 < p) := by
      cases m
      · exact .inl rfl
      · by_cases h1 : 0 < y
        · exact .inr (.inr ⟨rfl, h1, fun h2 => h ⟨by simp [h1], h2⟩⟩)
        · exact .inr (.inl ⟨rfl, h1⟩)
    clear h
    rcases he with rfl | ⟨rfl, h1⟩ | ⟨rfl, h1, h2⟩
    all_goals
      go_enter Tryd.func18, Tryd.ntmps18
      go_wp2_with fail
      refine (HM.out _).mono ?_
      rintro e w1 ⟨rfl, hb⟩
      obtain ⟨hc, hf⟩ := bcell hb
      have HB1 : Hid (Below w.heap.size w w1) := (HB.out _).trans (hb.mono (by simp))
      clear hb
      go_wp2
      go_ret
      exact ⟨rfl, HB1.out⟩

end Go.Proofs.YtjknflpclniiiaaDoor
