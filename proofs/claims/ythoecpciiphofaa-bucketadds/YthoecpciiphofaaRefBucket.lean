/-
  Contracts of the reference on buckets: MayBucket, Note, Rate, Enough, Failing.
-/
import Derived.Test.YthoecpciiphofaaBucket1
import Derived.Test.YthoecpciiphofaaRefCompare
namespace Go.Proofs.Ythoecpciiphofaa
open Go.RowKit

set_option maxHeartbeats 1000000 in
theorem rkMay_any (b : Bk) (w : World) : Calls Try.prog 10 #[bval b] w fun e w' => e = .returned (.bool (mayK b)) ∧ Below w.heap.size w w' := by
  obtain ⟨x, y⟩ := b
  have HB : Hid (∀ o, Below w.heap.size w (w.alloc o)) := fun o => (Below.refl _ _).alloc (Nat.le_refl _) _
  unfold bval bcells mayK
  simp only
  by_cases h1 : 0 ≤ x
  · rw [decide_eq_true h1, Bool.true_and]
    by_cases h2 : x ≤ y
    · rw [decide_eq_true h2, Bool.true_and]
      by_cases h3 : y ≤ 1000000000
      · rw [decide_eq_true h3]
        go_enter Try.func10, Try.ntmps10
        go_wp2
        go_ret
        exact ⟨rfl, HB.out _⟩
      · rw [decide_eq_false h3]
        go_enter Try.func10, Try.ntmps10
        go_wp2
        go_ret
        exact ⟨rfl, HB.out _⟩
    · rw [decide_eq_false h2, Bool.false_and]
      go_enter Try.func10, Try.ntmps10
      go_wp2
      go_ret
      exact ⟨rfl, HB.out _⟩
  · rw [decide_eq_false h1, Bool.false_and]
    go_enter Try.func10, Try.ntmps10
    go_wp2
    go_ret
    exact ⟨rfl, HB.out _⟩

set_option maxHeartbeats 2000000 in
theorem rkNote_any (b : Bk) (ok : Bool) (w : World) : Calls Try.prog 8 #[bval b, .bool ok] w fun e w' => e = .returned (bval (noteK b ok)) ∧ Below w.heap.size w w' := by
  have HM : Hid (∀ W : World, Calls Try.prog 10 #[bval b] W fun e w' => e = .returned (.bool (mayK b)) ∧ Below W.heap.size W w') := rkMay_any b
  obtain ⟨x, y⟩ := b
  by_cases h : mayK ⟨x, y⟩ = true
  · rw [h] at HM
    have hi := (mayK_iff _).1 h
    simp only at hi
    by_cases h1 : y = 1000000000
    · have hr : noteK ⟨x, y⟩ ok = ⟨x, y⟩ := by unfold noteK; rw [if_neg (by simp [h1])]
      rw [hr]
      clear hr h hi
      have e1 : (y == 1000000000) = true := by simp [h1]
      clear h1
      unfold bval bcells at HM ⊢
      simp only at HM ⊢
      go_enter Try.func8, Try.ntmps8
      go_wp2_with fail
      refine (HM.out _).mono ?_
      rintro e w1 ⟨rfl, hb⟩
      have HX : Hid (HasBox w1 w.heap.size 23 #[.int .i64 x, .int .i64 y]) := HasBox.below ((hasBox_new w _ _).alloc _) hb
      have HZ : Hid (HasBox w1 (w.heap.size + 1) 23 #[.int .i64 0, .int .i64 0]) := HasBox.below (hasBox_new' _ _ _ _ (by simp)) hb
      have HB1 : Hid (Below w.heap.size w w1) := (((Below.refl _ _).alloc (Nat.le_refl _) _).alloc (by simp) _).trans (hb.mono (by simp; omega))
      obtain ⟨hc, hf⟩ := bcell hb
      have hz : w.heap.size + 2 ≤ w1.heap.size := by have := hb.size; simp at this; omega
      clear hb
      go_upto_region 2 with fail
      generalize hW : w1 = W
      have HX2 : Hid (HasBox W w.heap.size 23 #[.int .i64 (x), .int .i64 (y)]) := by rw [← hW]; exact HX.out
      have HZ2 : Hid (HasBox W (w.heap.size + 1) 23 #[.int .i64 0, .int .i64 0]) := by rw [← hW]; exact HZ.out
      have HB2 : Hid (Below w.heap.size w W) := by rw [← hW]; exact HB1.out
      clear hW HX HZ HB1 hc hf hz
      have c1 : W.cell? ⟨w.heap.size, 0, none⟩ = some (.int .i64 (x)) := HX2.out.cell 0
      have c2 : W.cell? ⟨w.heap.size, 1, none⟩ = some (.int .i64 (y)) := HX2.out.cell 1
      have c3 : W.cell? ⟨w.heap.size + 1, 0, none⟩ = some (.int .i64 0) := HZ2.out.cell 0
      have c4 : W.cell? ⟨w.heap.size + 1, 1, none⟩ = some (.int .i64 0) := HZ2.out.cell 1
      have f3 : W.frozen? ⟨w.heap.size + 1, 0, none⟩ = false := HZ2.out.frozen 0
      have f4 : W.frozen? ⟨w.heap.size + 1, 1, none⟩ = false := HZ2.out.frozen 1
      go_wp2
      refine bodyPost_ret (results_cell_row rfl _ _ (w.heap.size + 1) 23 #[.int .i64 (x), .int .i64 (y)] (0, 0) _ rfl (by have hR := (HZ2.out.set 0 (.int .i64 (x))).set 1 (.int .i64 (y)); simpa [HasBox] using hR) Try.underlying23 rfl infoBucket) rfl ?_
      exact ⟨rfl, (HB2.out.setCell (by simp) _).setCell (by simp) _⟩
    · have e1 : (y == 1000000000) = false := by simp [h1]
      have hw1 : IntKind.i64.wrap (y + 1) = y + 1 := by rw [IntKind.wrap_i64]; omega
      have hw2 : IntKind.i64.wrap (x + 1) = x + 1 := by rw [IntKind.wrap_i64]; omega
      cases ok with
      | true =>
        have hr : noteK ⟨x, y⟩ true = ⟨x + 1, y + 1⟩ := by unfold noteK; rw [if_pos ⟨h, h1⟩]; rfl
        rw [hr]
        clear hr h hi h1
        unfold bval bcells at HM ⊢
        simp only at HM ⊢
        go_enter Try.func8, Try.ntmps8
        go_wp2_with fail
        refine (HM.out _).mono ?_
        rintro e w1 ⟨rfl, hb⟩
        have HX : Hid (HasBox w1 w.heap.size 23 #[.int .i64 x, .int .i64 y]) := HasBox.below ((hasBox_new w _ _).alloc _) hb
        have HZ : Hid (HasBox w1 (w.heap.size + 1) 23 #[.int .i64 0, .int .i64 0]) := HasBox.below (hasBox_new' _ _ _ _ (by simp)) hb
        have HB1 : Hid (Below w.heap.size w w1) := (((Below.refl _ _).alloc (Nat.le_refl _) _).alloc (by simp) _).trans (hb.mono (by simp; omega))
        obtain ⟨hc, hf⟩ := bcell hb
        have hz : w.heap.size + 2 ≤ w1.heap.size := by have := hb.size; simp at this; omega
        clear hb
        go_upto_region 6 with fail
        generalize hW : (w1.setCell _ _).setCell _ _ = W
        have HX2 : Hid (HasBox W w.heap.size 23 #[.int .i64 (x + 1), .int .i64 (y + 1)]) := by rw [← hW]; exact ((HX.out.set 1 (.int .i64 (y + 1))).set 0 (.int .i64 (x + 1)))
        have HZ2 : Hid (HasBox W (w.heap.size + 1) 23 #[.int .i64 0, .int .i64 0]) := by rw [← hW]; exact ((HZ.out.setOther ⟨w.heap.size, 1, none⟩ (by simp) (.int .i64 (y + 1))).setOther ⟨w.heap.size, 0, none⟩ (by simp) (.int .i64 (x + 1)))
        have HB2 : Hid (Below w.heap.size w W) := by rw [← hW]; exact ((HB1.out.setCell (Nat.le_refl _) _).setCell (Nat.le_refl _) _)
        clear hW HX HZ HB1 hc hf hz
        have c1 : W.cell? ⟨w.heap.size, 0, none⟩ = some (.int .i64 (x + 1)) := HX2.out.cell 0
        have c2 : W.cell? ⟨w.heap.size, 1, none⟩ = some (.int .i64 (y + 1)) := HX2.out.cell 1
        have c3 : W.cell? ⟨w.heap.size + 1, 0, none⟩ = some (.int .i64 0) := HZ2.out.cell 0
        have c4 : W.cell? ⟨w.heap.size + 1, 1, none⟩ = some (.int .i64 0) := HZ2.out.cell 1
        have f3 : W.frozen? ⟨w.heap.size + 1, 0, none⟩ = false := HZ2.out.frozen 0
        have f4 : W.frozen? ⟨w.heap.size + 1, 1, none⟩ = false := HZ2.out.frozen 1
        go_wp2
        refine bodyPost_ret (results_cell_row rfl _ _ (w.heap.size + 1) 23 #[.int .i64 (x + 1), .int .i64 (y + 1)] (0, 0) _ rfl (by have hR := (HZ2.out.set 0 (.int .i64 (x + 1))).set 1 (.int .i64 (y + 1)); simpa [HasBox] using hR) Try.underlying23 rfl infoBucket) rfl ?_
        exact ⟨rfl, (HB2.out.setCell (by simp) _).setCell (by simp) _⟩
      | false =>
        have hr : noteK ⟨x, y⟩ false = ⟨x, y + 1⟩ := by unfold noteK; rw [if_pos ⟨h, h1⟩]; rfl
        rw [hr]
        clear hr h hi h1
        unfold bval bcells at HM ⊢
        simp only at HM ⊢
        go_enter Try.func8, Try.ntmps8
        go_wp2_with fail
        refine (HM.out _).mono ?_
        rintro e w1 ⟨rfl, hb⟩
        have HX : Hid (HasBox w1 w.heap.size 23 #[.int .i64 x, .int .i64 y]) := HasBox.below ((hasBox_new w _ _).alloc _) hb
        have HZ : Hid (HasBox w1 (w.heap.size + 1) 23 #[.int .i64 0, .int .i64 0]) := HasBox.below (hasBox_new' _ _ _ _ (by simp)) hb
        have HB1 : Hid (Below w.heap.size w w1) := (((Below.refl _ _).alloc (Nat.le_refl _) _).alloc (by simp) _).trans (hb.mono (by simp; omega))
        obtain ⟨hc, hf⟩ := bcell hb
        have hz : w.heap.size + 2 ≤ w1.heap.size := by have := hb.size; simp at this; omega
        clear hb
        go_upto_region 6 with fail
        generalize hW : w1.setCell _ _ = W
        have HX2 : Hid (HasBox W w.heap.size 23 #[.int .i64 (x), .int .i64 (y + 1)]) := by rw [← hW]; exact (HX.out.set 1 (.int .i64 (y + 1)))
        have HZ2 : Hid (HasBox W (w.heap.size + 1) 23 #[.int .i64 0, .int .i64 0]) := by rw [← hW]; exact (HZ.out.setOther ⟨w.heap.size, 1, none⟩ (by simp) (.int .i64 (y + 1)))
        have HB2 : Hid (Below w.heap.size w W) := by rw [← hW]; exact (HB1.out.setCell (Nat.le_refl _) _)
        clear hW HX HZ HB1 hc hf hz
        have c1 : W.cell? ⟨w.heap.size, 0, none⟩ = some (.int .i64 (x)) := HX2.out.cell 0
        have c2 : W.cell? ⟨w.heap.size, 1, none⟩ = some (.int .i64 (y + 1)) := HX2.out.cell 1
        have c3 : W.cell? ⟨w.heap.size + 1, 0, none⟩ = some (.int .i64 0) := HZ2.out.cell 0
        have c4 : W.cell? ⟨w.heap.size + 1, 1, none⟩ = some (.int .i64 0) := HZ2.out.cell 1
        have f3 : W.frozen? ⟨w.heap.size + 1, 0, none⟩ = false := HZ2.out.frozen 0
        have f4 : W.frozen? ⟨w.heap.size + 1, 1, none⟩ = false := HZ2.out.frozen 1
        go_wp2
        refine bodyPost_ret (results_cell_row rfl _ _ (w.heap.size + 1) 23 #[.int .i64 (x), .int .i64 (y + 1)] (0, 0) _ rfl (by have hR := (HZ2.out.set 0 (.int .i64 (x))).set 1 (.int .i64 (y + 1)); simpa [HasBox] using hR) Try.underlying23 rfl infoBucket) rfl ?_
        exact ⟨rfl, (HB2.out.setCell (by simp) _).setCell (by simp) _⟩
  · have hr : noteK ⟨x, y⟩ ok = ⟨x, y⟩ := by unfold noteK; rw [if_neg (fun q => h q.1)]
    rw [hr]
    clear hr
    have h0 : mayK ⟨x, y⟩ = false := by simpa using h
    rw [h0] at HM
    clear h h0
    unfold bval bcells at HM ⊢
    simp only at HM ⊢
    go_enter Try.func8, Try.ntmps8
    go_wp2_with fail
    refine (HM.out _).mono ?_
    rintro e w1 ⟨rfl, hb⟩
    have HX : Hid (HasBox w1 w.heap.size 23 #[.int .i64 x, .int .i64 y]) := HasBox.below ((hasBox_new w _ _).alloc _) hb
    have HZ : Hid (HasBox w1 (w.heap.size + 1) 23 #[.int .i64 0, .int .i64 0]) := HasBox.below (hasBox_new' _ _ _ _ (by simp)) hb
    have HB1 : Hid (Below w.heap.size w w1) := (((Below.refl _ _).alloc (Nat.le_refl _) _).alloc (by simp) _).trans (hb.mono (by simp; omega))
    obtain ⟨hc, hf⟩ := bcell hb
    have hz : w.heap.size + 2 ≤ w1.heap.size := by have := hb.size; simp at this; omega
    clear hb
    go_upto_region 2 with fail
    generalize hW : w1 = W
    have HX2 : Hid (HasBox W w.heap.size 23 #[.int .i64 (x), .int .i64 (y)]) := by rw [← hW]; exact HX.out
    have HZ2 : Hid (HasBox W (w.heap.size + 1) 23 #[.int .i64 0, .int .i64 0]) := by rw [← hW]; exact HZ.out
    have HB2 : Hid (Below w.heap.size w W) := by rw [← hW]; exact HB1.out
    clear hW HX HZ HB1 hc hf hz
    have c1 : W.cell? ⟨w.heap.size, 0, none⟩ = some (.int .i64 (x)) := HX2.out.cell 0
    have c2 : W.cell? ⟨w.heap.size, 1, none⟩ = some (.int .i64 (y)) := HX2.out.cell 1
    have c3 : W.cell? ⟨w.heap.size + 1, 0, none⟩ = some (.int .i64 0) := HZ2.out.cell 0
    have c4 : W.cell? ⟨w.heap.size + 1, 1, none⟩ = some (.int .i64 0) := HZ2.out.cell 1
    have f3 : W.frozen? ⟨w.heap.size + 1, 0, none⟩ = false := HZ2.out.frozen 0
    have f4 : W.frozen? ⟨w.heap.size + 1, 1, none⟩ = false := HZ2.out.frozen 1
    go_wp2
    refine bodyPost_ret (results_cell_row rfl _ _ (w.heap.size + 1) 23 #[.int .i64 (x), .int .i64 (y)] (0, 0) _ rfl (by have hR := (HZ2.out.set 0 (.int .i64 (x))).set 1 (.int .i64 (y)); simpa [HasBox] using hR) Try.underlying23 rfl infoBucket) rfl ?_
    exact ⟨rfl, (HB2.out.setCell (by simp) _).setCell (by simp) _⟩

set_option maxHeartbeats 1000000 in
theorem rkRate_any (b : Bk) (w : World) : Calls Try.prog 12 #[bval b] w fun e w' => e = .returned (.int .i64 (rateK b)) ∧ Below w.heap.size w w' := by
  have HM : Hid (∀ W : World, Calls Try.prog 10 #[bval b] W fun e w' => e = .returned (.bool (mayK b)) ∧ Below W.heap.size W w') := rkMay_any b
  have HB : Hid (∀ o, Below w.heap.size w (w.alloc o)) := fun o => (Below.refl _ _).alloc (Nat.le_refl _) _
  by_cases hm : mayK b = true
  · rw [hm] at HM
    have hi := (mayK_iff b).1 hm
    by_cases h0 : b.all = 0
    · have hr : rateK b = 0 := by unfold rateK; rw [if_neg (by simp [countsK, h0])]
      rw [hr]
      clear hr hi hm
      have e1 : (b.all == 0) = true := by simp [h0]
      clear h0
      obtain ⟨x, y⟩ := b
      unfold bval bcells at HM ⊢
      simp only at HM e1 ⊢
      go_enter Try.func12, Try.ntmps12
      go_wp2_with fail
      refine (HM.out _).mono ?_
      rintro e w1 ⟨rfl, hb⟩
      obtain ⟨hc, hf⟩ := bcell hb
      have HB1 : Hid (Below w.heap.size w w1) := (HB.out _).trans (hb.mono (by simp))
      clear hb
      go_wp2
      go_ret
      exact ⟨rfl, HB1.out⟩
    · have hc : countsK b = true := (countsK_iff b).2 (by omega)
      have hr : b.ok * 10000 / b.all = rateK b := by unfold rateK; rw [if_pos hc]
      have hq : (b.ok * 10000).tdiv b.all = rateK b := by rw [← hr]; exact Int.tdiv_eq_ediv_of_nonneg (by omega)
      have hbd := rateK_bd b
      have hw1 : IntKind.i64.wrap (b.ok * 10000) = b.ok * 10000 := by rw [IntKind.wrap_i64]; omega
      have hw2 : IntKind.i64.wrap (rateK b) = rateK b := by rw [IntKind.wrap_i64]; omega
      have e1 : (b.all == 0) = false := by simp [h0]
      clear hr hm hc hbd
      generalize rateK b = r at *
      obtain ⟨x, y⟩ := b
      unfold bval bcells at HM ⊢
      simp only at HM e1 h0 hi hq hw1 hw2 ⊢
      go_enter Try.func12, Try.ntmps12
      go_wp2_with fail
      refine (HM.out _).mono ?_
      rintro e w1 ⟨rfl, hb⟩
      obtain ⟨hc, hf⟩ := bcell hb
      have HB1 : Hid (Below w.heap.size w w1) := (HB.out _).trans (hb.mono (by simp))
      clear hb
      go_wp2
      go_ret
      exact ⟨rfl, HB1.out⟩
  · have h0 : mayK b = false := by simpa using hm
    have hr : rateK b = 0 := by unfold rateK; rw [if_neg (by simp [countsK, h0])]
    rw [hr]
    rw [h0] at HM
    clear hr hm h0
    obtain ⟨x, y⟩ := b
    unfold bval bcells at HM ⊢
    simp only at HM ⊢
    go_enter Try.func12, Try.ntmps12
    go_wp2_with fail
    refine (HM.out _).mono ?_
    rintro e w1 ⟨rfl, hb⟩
    obtain ⟨hc, hf⟩ := bcell hb
    have HB1 : Hid (Below w.heap.size w w1) := (HB.out _).trans (hb.mono (by simp))
    clear hb
    go_wp2
    go_ret
    exact ⟨rfl, HB1.out⟩

set_option maxHeartbeats 1000000 in
theorem rkEnough_any (b : Bk) (n : Int) (w : World) : Calls Try.prog 14 #[bval b, .int .i64 n] w fun e w' => e = .returned (.bool (enoughK b n)) ∧ Below w.heap.size w w' := by
  have HM : Hid (∀ W : World, Calls Try.prog 10 #[bval b] W fun e w' => e = .returned (.bool (mayK b)) ∧ Below W.heap.size W w') := rkMay_any b
  have HB : Hid (∀ o, Below w.heap.size w (w.alloc o)) := fun o => (Below.refl _ _).alloc (Nat.le_refl _) _
  obtain ⟨c, hc⟩ : ∃ c, enoughK b n = c := ⟨_, rfl⟩
  rw [hc]
  unfold enoughK countsK at hc
  generalize mayK b = m at HM hc
  obtain ⟨x, y⟩ := b
  unfold bval bcells at HM ⊢
  simp only at HM hc ⊢
  have he : (m = false ∧ c = false) ∨ (m = true ∧ ¬ 0 < y ∧ c = false) ∨ (m = true ∧ 0 < y ∧ decide (n ≤ y) = c) := by
    subst hc
    cases m
    · exact .inl ⟨rfl, rfl⟩
    · by_cases h : 0 < y
      · exact .inr (.inr ⟨rfl, h, by simp [h]⟩)
      · exact .inr (.inl ⟨rfl, h, by simp [h]⟩)
  clear hc
  rcases he with ⟨rfl, rfl⟩ | ⟨rfl, h1, rfl⟩ | ⟨rfl, h1, rfl⟩
  all_goals
    go_enter Try.func14, Try.ntmps14
    go_wp2_with fail
    refine (HM.out _).mono ?_
    rintro e w1 ⟨rfl, hb⟩
    obtain ⟨hc, hf⟩ := bcell hb
    have HB1 : Hid (Below w.heap.size w w1) := (HB.out _).trans (hb.mono (by simp))
    clear hb
    go_wp2
    go_ret
    exact ⟨rfl, HB1.out⟩

set_option maxHeartbeats 2000000 in
theorem rkFail_any (b : Bk) (p : Int) (hp1 : p ≤ 9223372036854775807) (w : World) : Calls Try.prog 16 #[bval b, .int .i64 p] w fun e w' => e = .returned (.bool (failK b p)) ∧ Below w.heap.size w w' := by
  have HM : Hid (∀ W : World, Calls Try.prog 10 #[bval b] W fun e w' => e = .returned (.bool (mayK b)) ∧ Below W.heap.size W w') := rkMay_any b
  have HB : Hid (∀ o, Below w.heap.size w (w.alloc o)) := fun o => (Below.refl _ _).alloc (Nat.le_refl _) _
  by_cases h : countsK b = true ∧ 0 < p
  · obtain ⟨v, hv, hd⟩ := cmp_hid h.1 h.2
    have hb := (countsK_iff b).1 h.1
    have hs : IntKind.i64.wrap (b.all - b.ok) = b.all - b.ok := by rw [IntKind.wrap_i64]; omega
    have HD : Hid (∀ W : World, Calls Try.prog 21 #[.int .i64 (b.all - b.ok), .int .i64 100, .int .i64 p, .int .i64 b.all] W fun e w' => e = .returned (.int .i64 v) ∧ w' = W) := fun W => by
      have := rCompare_any (b.all - b.ok) 100 p b.all W (by omega) (by omega) hp1 (by omega)
      rw [hv] at this
      exact this
    have hm : mayK b = true := (mayK_iff b).2 (by omega)
    have hp := h.2
    have ha : 0 < b.all := by omega
    have hd2 : decide (0 ≤ v) = failK b p := by
      rcases hd with h | h
      · rw [decide_eq_true h.1, h.2]
      · rw [decide_eq_false h.1, h.2]
    clear hv hb hp1 hd h
    rw [hm] at HM
    clear hm
    generalize failK b p = r at hd2 ⊢
    obtain ⟨x, y⟩ := b
    unfold bval bcells at HM ⊢
    simp only at HM HD hs ha ⊢
    subst hd2
    go_enter Try.func16, Try.ntmps16
    go_wp2_with fail
    refine (HM.out _).mono ?_
    rintro e w1 ⟨rfl, hb⟩
    obtain ⟨hc, hf⟩ := bcell hb
    have HB1 : Hid (Below w.heap.size w w1) := (HB.out _).trans (hb.mono (by simp))
    clear hb
    go_wp2_with fail
    refine (HD.out _).mono ?_
    rintro e w2 ⟨rfl, hw⟩
    subst w2
    go_wp2
    go_ret
    exact ⟨rfl, HB1.out⟩
  · have hr : failK b p = false := by
      by_cases hf : failK b p = true
      · unfold failK at hf
        simp only [Bool.and_eq_true, decide_eq_true_eq] at hf
        exact absurd ⟨hf.1, hf.2.1⟩ h
      · simpa using hf
    rw [hr]
    clear hr
    unfold countsK at h
    generalize mayK b = m at HM h
    obtain ⟨x, y⟩ := b
    unfold bval bcells at HM ⊢
    simp only at HM h ⊢
    have he : (m = false) ∨ (m = true ∧ ¬ 0 < y) ∨ (m = true ∧ 0 < y ∧ ¬ 0 < p) := by
      cases m
      · exact .inl rfl
      · by_cases h1 : 0 < y
        · exact .inr (.inr ⟨rfl, h1, fun h2 => h ⟨by simp [h1], h2⟩⟩)
        · exact .inr (.inl ⟨rfl, h1⟩)
    clear h
    rcases he with rfl | ⟨rfl, h1⟩ | ⟨rfl, h1, h2⟩
    all_goals
      go_enter Try.func16, Try.ntmps16
      go_wp2_with fail
      refine (HM.out _).mono ?_
      rintro e w1 ⟨rfl, hb⟩
      obtain ⟨hc, hf⟩ := bcell hb
      have HB1 : Hid (Below w.heap.size w w1) := (HB.out _).trans (hb.mono (by simp))
      clear hb
      go_wp2
      go_ret
      exact ⟨rfl, HB1.out⟩

end Go.Proofs.Ythoecpciiphofaa
