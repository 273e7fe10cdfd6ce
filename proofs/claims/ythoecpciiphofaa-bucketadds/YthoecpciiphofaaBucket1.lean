/-
  Buckets in memory; contracts of package bucket: May, counts, Note, Rate, Enough, Failing.
-/
import Derived.Test.YthoecpciiphofaaBucketMath
import Derived.Test.YthoecpciiphofaaBoxOne
import Derived.Test.YthoecpciiphofaaRatio2
import Derived.Laws.ResultCell
import Derived.Deep.CutRange
namespace Go.Proofs.Ythoecpciiphofaa
open Go.RowKit

abbrev bcells (b : Bk) : Array Value := #[.int .i64 b.ok, .int .i64 b.all]
abbrev bval (b : Bk) : Value := .agg (bcells b)
theorem infoBucket : (Try.prog.info? 23).map (·.size) = some 2 := by kernel_rfl

set_option maxHeartbeats 1000000 in
theorem kMay_any (b : Bk) (w : World) : Calls Try.prog 9 #[bval b] w fun e w' => e = .returned (.bool (mayK b)) ∧ Below w.heap.size w w' := by
  obtain ⟨x, y⟩ := b
  have HB : Hid (∀ o, Below w.heap.size w (w.alloc o)) := fun o => (Below.refl _ _).alloc (Nat.le_refl _) _
  unfold bval bcells mayK
  simp only
  by_cases h1 : 0 ≤ x
  · rw [decide_eq_true h1, Bool.true_and]
    by_cases h2 : x ≤ y
    · rw [decide_eq_true h2, Bool.true_and]
      by_cases h3 : y ≤ 1000000000
      · rw [decide_eq_true h3]
        go_enter Try.func9, Try.ntmps9
        go_wp2
        go_ret
        exact ⟨rfl, HB.out _⟩
      · rw [decide_eq_false h3]
        go_enter Try.func9, Try.ntmps9
        go_wp2
        go_ret
        exact ⟨rfl, HB.out _⟩
    · rw [decide_eq_false h2, Bool.false_and]
      go_enter Try.func9, Try.ntmps9
      go_wp2
      go_ret
      exact ⟨rfl, HB.out _⟩
  · rw [decide_eq_false h1, Bool.false_and]
    go_enter Try.func9, Try.ntmps9
    go_wp2
    go_ret
    exact ⟨rfl, HB.out _⟩

set_option maxHeartbeats 2000000 in
theorem kNote_any (b : Bk) (ok : Bool) (w : World) : Calls Try.prog 7 #[bval b, .bool ok] w fun e w' => e = .returned (bval (noteK b ok)) ∧ Below w.heap.size w w' := by
  have HM : Hid (∀ W : World, Calls Try.prog 9 #[bval b] W fun e w' => e = .returned (.bool (mayK b)) ∧ Below W.heap.size W w') := kMay_any b
  obtain ⟨x, y⟩ := b
  by_cases h : mayK ⟨x, y⟩ = true
  · rw [h] at HM
    have hi := (mayK_iff _).1 h
    simp only at hi
    by_cases h1 : y = 1000000000
    · have hr : noteK ⟨x, y⟩ ok = ⟨x, y⟩ := by unfold noteK; rw [if_neg (by simp [h1])]
      rw [hr]
      clear hr h hi
      have e1 : (y == 1000000000) = true := by simp [h1]
      clear h1
      unfold bval bcells at HM ⊢
      simp only at HM ⊢
      go_enter Try.func7, Try.ntmps7
      go_wp2_with fail
      refine (HM.out _).mono ?_
      rintro e w1 ⟨rfl, hb⟩
      have HX : Hid (HasBox w1 w.heap.size 23 #[.int .i64 x, .int .i64 y]) := HasBox.below ((hasBox_new w _ _).alloc _) hb
      have HZ : Hid (HasBox w1 (w.heap.size + 1) 23 #[.int .i64 0, .int .i64 0]) := HasBox.below (hasBox_new' _ _ _ _ (by simp)) hb
      have HB1 : Hid (Below w.heap.size w w1) := (((Below.refl _ _).alloc (Nat.le_refl _) _).alloc (by simp) _).trans (hb.mono (by simp; omega))
      obtain ⟨hc, hf⟩ := bcell hb
      have hz : w.heap.size + 2 ≤ w1.heap.size := by have := hb.size; simp at this; omega
      clear hb
      go_upto_region 2 with fail
      generalize hW : w1 = W
      have HX2 : Hid (HasBox W w.heap.size 23 #[.int .i64 (x), .int .i64 (y)]) := by rw [← hW]; exact HX.out
      have HZ2 : Hid (HasBox W (w.heap.size + 1) 23 #[.int .i64 0, .int .i64 0]) := by rw [← hW]; exact HZ.out
      have HB2 : Hid (Below w.heap.size w W) := by rw [← hW]; exact HB1.out
      clear hW HX HZ HB1 hc hf hz
      have c1 : W.cell? ⟨w.heap.size, 0, none⟩ = some (.int .i64 (x)) := HX2.out.cell 0
      have c2 : W.cell? ⟨w.heap.size, 1, none⟩ = some (.int .i64 (y)) := HX2.out.cell 1
      have c3 : W.cell? ⟨w.heap.size + 1, 0, none⟩ = some (.int .i64 0) := HZ2.out.cell 0
      have c4 : W.cell? ⟨w.heap.size + 1, 1, none⟩ = some (.int .i64 0) := HZ2.out.cell 1
      have f3 : W.frozen? ⟨w.heap.size + 1, 0, none⟩ = false := HZ2.out.frozen 0
      have f4 : W.frozen? ⟨w.heap.size + 1, 1, none⟩ = false := HZ2.out.frozen 1
      go_wp2
      refine bodyPost_ret (results_cell_row rfl _ _ (w.heap.size + 1) 23 #[.int .i64 (x), .int .i64 (y)] (0, 0) _ rfl (by have hR := (HZ2.out.set 0 (.int .i64 (x))).set 1 (.int .i64 (y)); simpa [HasBox] using hR) Try.underlying23 rfl infoBucket) rfl ?_
      exact ⟨rfl, (HB2.out.setCell (by simp) _).setCell (by simp) _⟩
    · have e1 : (y == 1000000000) = false := by simp [h1]
      have hw1 : IntKind.i64.wrap (y + 1) = y + 1 := by rw [IntKind.wrap_i64]; omega
      have hw2 : IntKind.i64.wrap (x + 1) = x + 1 := by rw [IntKind.wrap_i64]; omega
      cases ok with
      | true =>
        have hr : noteK ⟨x, y⟩ true = ⟨x + 1, y + 1⟩ := by unfold noteK; rw [if_pos ⟨h, h1⟩]; rfl
        rw [hr]
        clear hr h hi h1
        unfold bval bcells at HM ⊢
        simp only at HM ⊢
        go_enter Try.func7, Try.ntmps7
        go_wp2_with fail
        refine (HM.out _).mono ?_
        rintro e w1 ⟨rfl, hb⟩
        have HX : Hid (HasBox w1 w.heap.size 23 #[.int .i64 x, .int .i64 y]) := HasBox.below ((hasBox_new w _ _).alloc _) hb
        have HZ : Hid (HasBox w1 (w.heap.size + 1) 23 #[.int .i64 0, .int .i64 0]) := HasBox.below (hasBox_new' _ _ _ _ (by simp)) hb
        have HB1 : Hid (Below w.heap.size w w1) := (((Below.refl _ _).alloc (Nat.le_refl _) _).alloc (by simp) _).trans (hb.mono (by simp; omega))
        obtain ⟨hc, hf⟩ := bcell hb
        have hz : w.heap.size + 2 ≤ w1.heap.size := by have := hb.size; simp at this; omega
        clear hb
        go_upto_region 6 with fail
        generalize hW : (w1.setCell _ _).setCell _ _ = W
        have HX2 : Hid (HasBox W w.heap.size 23 #[.int .i64 (x + 1), .int .i64 (y + 1)]) := by rw [← hW]; exact ((HX.out.set 1 (.int .i64 (y + 1))).set 0 (.int .i64 (x + 1)))
        have HZ2 : Hid (HasBox W (w.heap.size + 1) 23 #[.int .i64 0, .int .i64 0]) := by rw [← hW]; exact ((HZ.out.setOther ⟨w.heap.size, 1, none⟩ (by simp) (.int .i64 (y + 1))).setOther ⟨w.heap.size, 0, none⟩ (by simp) (.int .i64 (x + 1)))
        have HB2 : Hid (Below w.heap.size w W) := by rw [← hW]; exact ((HB1.out.setCell (Nat.le_refl _) _).setCell (Nat.le_refl _) _)
        clear hW HX HZ HB1 hc hf hz
        have c1 : W.cell? ⟨w.heap.size, 0, none⟩ = some (.int .i64 (x + 1)) := HX2.out.cell 0
        have c2 : W.cell? ⟨w.heap.size, 1, none⟩ = some (.int .i64 (y + 1)) := HX2.out.cell 1
        have c3 : W.cell? ⟨w.heap.size + 1, 0, none⟩ = some (.int .i64 0) := HZ2.out.cell 0
        have c4 : W.cell? ⟨w.heap.size + 1, 1, none⟩ = some (.int .i64 0) := HZ2.out.cell 1
        have f3 : W.frozen? ⟨w.heap.size + 1, 0, none⟩ = false := HZ2.out.frozen 0
        have f4 : W.frozen? ⟨w.heap.size + 1, 1, none⟩ = false := HZ2.out.frozen 1
        go_wp2
        refine bodyPost_ret (results_cell_row rfl _ _ (w.heap.size + 1) 23 #[.int .i64 (x + 1), .int .i64 (y + 1)] (0, 0) _ rfl (by have hR := (HZ2.out.set 0 (.int .i64 (x + 1))).set 1 (.int .i64 (y + 1)); simpa [HasBox] using hR) Try.underlying23 rfl infoBucket) rfl ?_
        exact ⟨rfl, (HB2.out.setCell (by simp) _).setCell (by simp) _⟩
      | false =>
        have hr : noteK ⟨x, y⟩ false = ⟨x, y + 1⟩ := by unfold noteK; rw [if_pos ⟨h, h1⟩]; rfl
        rw [hr]
        clear hr h hi h1
        unfold bval bcells at HM ⊢
        simp only at HM ⊢
        go_enter Try.func7, Try.ntmps7
        go_wp2_with fail
        refine (HM.out _).mono ?_
        rintro e w1 ⟨rfl, hb⟩
        have HX : Hid (HasBox w1 w.heap.size 23 #[.int .i64 x, .int .i64 y]) := HasBox.below ((hasBox_new w _ _).alloc _) hb
        have HZ : Hid (HasBox w1 (w.heap.size + 1) 23 #[.int .i64 0, .int .i64 0]) := HasBox.below (hasBox_new' _ _ _ _ (by simp)) hb
        have HB1 : Hid (Below w.heap.size w w1) := (((Below.refl _ _).alloc (Nat.le_refl _) _).alloc (by simp) _).trans (hb.mono (by simp; omega))
        obtain ⟨hc, hf⟩ := bcell hb
        have hz : w.heap.size + 2 ≤ w1.heap.size := by have := hb.size; simp at this; omega
        clear hb
        go_upto_region 6 with fail
        generalize hW : w1.setCell _ _ = W
        have HX2 : Hid (HasBox W w.heap.size 23 #[.int .i64 (x), .int .i64 (y + 1)]) := by rw [← hW]; exact (HX.out.set 1 (.int .i64 (y + 1)))
        have HZ2 : Hid (HasBox W (w.heap.size + 1) 23 #[.int .i64 0, .int .i64 0]) := by rw [← hW]; exact (HZ.out.setOther ⟨w.heap.size, 1, none⟩ (by simp) (.int .i64 (y + 1)))
        have HB2 : Hid (Below w.heap.size w W) := by rw [← hW]; exact (HB1.out.setCell (Nat.le_refl _) _)
        clear hW HX HZ HB1 hc hf hz
        have c1 : W.cell? ⟨w.heap.size, 0, none⟩ = some (.int .i64 (x)) := HX2.out.cell 0
        have c2 : W.cell? ⟨w.heap.size, 1, none⟩ = some (.int .i64 (y + 1)) := HX2.out.cell 1
        have c3 : W.cell? ⟨w.heap.size + 1, 0, none⟩ = some (.int .i64 0) := HZ2.out.cell 0
        have c4 : W.cell? ⟨w.heap.size + 1, 1, none⟩ = some (.int .i64 0) := HZ2.out.cell 1
        have f3 : W.frozen? ⟨w.heap.size + 1, 0, none⟩ = false := HZ2.out.frozen 0
        have f4 : W.frozen? ⟨w.heap.size + 1, 1, none⟩ = false := HZ2.out.frozen 1
        go_wp2
        refine bodyPost_ret (results_cell_row rfl _ _ (w.heap.size + 1) 23 #[.int .i64 (x), .int .i64 (y + 1)] (0, 0) _ rfl (by have hR := (HZ2.out.set 0 (.int .i64 (x))).set 1 (.int .i64 (y + 1)); simpa [HasBox] using hR) Try.underlying23 rfl infoBucket) rfl ?_
        exact ⟨rfl, (HB2.out.setCell (by simp) _).setCell (by simp) _⟩
  · have hr : noteK ⟨x, y⟩ ok = ⟨x, y⟩ := by unfold noteK; rw [if_neg (fun q => h q.1)]
    rw [hr]
    clear hr
    have h0 : mayK ⟨x, y⟩ = false := by simpa using h
    rw [h0] at HM
    clear h h0
    unfold bval bcells at HM ⊢
    simp only at HM ⊢
    go_enter Try.func7, Try.ntmps7
    go_wp2_with fail
    refine (HM.out _).mono ?_
    rintro e w1 ⟨rfl, hb⟩
    have HX : Hid (HasBox w1 w.heap.size 23 #[.int .i64 x, .int .i64 y]) := HasBox.below ((hasBox_new w _ _).alloc _) hb
    have HZ : Hid (HasBox w1 (w.heap.size + 1) 23 #[.int .i64 0, .int .i64 0]) := HasBox.below (hasBox_new' _ _ _ _ (by simp)) hb
    have HB1 : Hid (Below w.heap.size w w1) := (((Below.refl _ _).alloc (Nat.le_refl _) _).alloc (by simp) _).trans (hb.mono (by simp; omega))
    obtain ⟨hc, hf⟩ := bcell hb
    have hz : w.heap.size + 2 ≤ w1.heap.size := by have := hb.size; simp at this; omega
    clear hb
    go_upto_region 2 with fail
    generalize hW : w1 = W
    have HX2 : Hid (HasBox W w.heap.size 23 #[.int .i64 (x), .int .i64 (y)]) := by rw [← hW]; exact HX.out
    have HZ2 : Hid (HasBox W (w.heap.size + 1) 23 #[.int .i64 0, .int .i64 0]) := by rw [← hW]; exact HZ.out
    have HB2 : Hid (Below w.heap.size w W) := by rw [← hW]; exact HB1.out
    clear hW HX HZ HB1 hc hf hz
    have c1 : W.cell? ⟨w.heap.size, 0, none⟩ = some (.int .i64 (x)) := HX2.out.cell 0
    have c2 : W.cell? ⟨w.heap.size, 1, none⟩ = some (.int .i64 (y)) := HX2.out.cell 1
    have c3 : W.cell? ⟨w.heap.size + 1, 0, none⟩ = some (.int .i64 0) := HZ2.out.cell 0
    have c4 : W.cell? ⟨w.heap.size + 1, 1, none⟩ = some (.int .i64 0) := HZ2.out.cell 1
    have f3 : W.frozen? ⟨w.heap.size + 1, 0, none⟩ = false := HZ2.out.frozen 0
    have f4 : W.frozen? ⟨w.heap.size + 1, 1, none⟩ = false := HZ2.out.frozen 1
    go_wp2
    refine bodyPost_ret (results_cell_row rfl _ _ (w.heap.size + 1) 23 #[.int .i64 (x), .int .i64 (y)] (0, 0) _ rfl (by have hR := (HZ2.out.set 0 (.int .i64 (x))).set 1 (.int .i64 (y)); simpa [HasBox] using hR) Try.underlying23 rfl infoBucket) rfl ?_
    exact ⟨rfl, (HB2.out.setCell (by simp) _).setCell (by simp) _⟩

set_option maxHeartbeats 1000000 in
theorem kCounts_any (b : Bk) (w : World) : Calls Try.prog 18 #[bval b] w fun e w' => e = .returned (.bool (countsK b)) ∧ Below w.heap.size w w' := by
  have HM : Hid (∀ W : World, Calls Try.prog 9 #[bval b] W fun e w' => e = .returned (.bool (mayK b)) ∧ Below W.heap.size W w') := kMay_any b
  have HB : Hid (∀ o, Below w.heap.size w (w.alloc o)) := fun o => (Below.refl _ _).alloc (Nat.le_refl _) _
  obtain ⟨c, hc⟩ : ∃ c, countsK b = c := ⟨_, rfl⟩
  rw [hc]
  unfold countsK at hc
  generalize mayK b = m at HM hc
  obtain ⟨x, y⟩ := b
  unfold bval bcells at HM ⊢
  simp only at HM hc ⊢
  have he : (m = false ∧ c = false) ∨ (m = true ∧ 0 < y ∧ c = true) ∨ (m = true ∧ ¬ 0 < y ∧ c = false) := by
    subst hc
    cases m
    · exact .inl ⟨rfl, rfl⟩
    · by_cases h : 0 < y
      · exact .inr (.inl ⟨rfl, h, by simp [h]⟩)
      · exact .inr (.inr ⟨rfl, h, by simp [h]⟩)
  clear hc
  rcases he with ⟨rfl, rfl⟩ | ⟨rfl, h1, rfl⟩ | ⟨rfl, h1, rfl⟩
  all_goals
    go_enter Try.func18, Try.ntmps18
    go_wp2_with fail
    refine (HM.out _).mono ?_
    rintro e w1 ⟨rfl, hb⟩
    obtain ⟨hc, hf⟩ := bcell hb
    have HB1 : Hid (Below w.heap.size w w1) := (HB.out _).trans (hb.mono (by simp))
    clear hb
    go_wp2
    go_ret
    first | exact ⟨rfl, HB1.out⟩ | exact ⟨ret_bool (decide_eq_false (by omega)), HB1.out⟩

set_option maxHeartbeats 1000000 in
theorem kRate_any (b : Bk) (hb0 : inK b) (w : World) : Calls Try.prog 11 #[bval b] w fun e w' => e = .returned (.int .i64 (rateK b)) ∧ Below w.heap.size w w' := by
  have HC : Hid (∀ W : World, Calls Try.prog 18 #[bval b] W fun e w' => e = .returned (.bool (countsK b)) ∧ Below W.heap.size W w') := kCounts_any b
  have HB : Hid (∀ o, Below w.heap.size w (w.alloc o)) := fun o => (Below.refl _ _).alloc (Nat.le_refl _) _
  by_cases h : countsK b = true
  · obtain ⟨o, ho⟩ : ∃ o, mdOk b.ok 10000 b.all = o := ⟨_, rfl⟩
    have HD : Hid (∀ W : World, Calls Try.prog 19 #[.int .i64 b.ok, .int .i64 10000, .int .i64 b.all] W fun e w' => e = .returned (.tuple #[.int .i64 (rateK b), .bool o]) ∧ Below W.heap.size W w') := fun W => by
      have := mulDiv_any b.ok 10000 b.all W hb0.1.2 (by omega) hb0.2.2
      rw [rateK_md h, ho] at this
      exact this
    clear ho
    rw [h] at HC
    clear h hb0
    generalize rateK b = r at HD ⊢
    obtain ⟨x, y⟩ := b
    unfold bval bcells at HC ⊢
    simp only at HC HD ⊢
    go_enter Try.func11, Try.ntmps11
    go_wp2_with fail
    refine (HC.out _).mono ?_
    rintro e w1 ⟨rfl, hb⟩
    obtain ⟨hc, hf⟩ := bcell hb
    have HB1 : Hid (Below w.heap.size w w1) := (HB.out _).trans (hb.mono (by simp))
    clear hb
    go_wp2_with fail
    refine (HD.out _).mono ?_
    rintro e w2 ⟨rfl, hb⟩
    clear hc hf
    have HB2 : Hid (Below w.heap.size w w2) := HB1.out.trans (hb.mono HB1.out.size)
    go_wp2
    go_ret
    exact ⟨rfl, HB2.out⟩
  · have hr : rateK b = 0 := if_neg h
    have h0 : countsK b = false := by simpa using h
    rw [hr]
    rw [h0] at HC
    clear hr h h0 hb0
    obtain ⟨x, y⟩ := b
    unfold bval bcells at HC ⊢
    simp only at HC ⊢
    go_enter Try.func11, Try.ntmps11
    go_wp2_with fail
    refine (HC.out _).mono ?_
    rintro e w1 ⟨rfl, hb⟩
    have HB1 : Hid (Below w.heap.size w w1) := (HB.out _).trans (hb.mono (by simp))
    clear hb
    go_wp2
    go_ret
    exact ⟨rfl, HB1.out⟩

set_option maxHeartbeats 1000000 in
theorem kEnough_any (b : Bk) (n : Int) (w : World) : Calls Try.prog 13 #[bval b, .int .i64 n] w fun e w' => e = .returned (.bool (enoughK b n)) ∧ Below w.heap.size w w' := by
  have HC : Hid (∀ W : World, Calls Try.prog 18 #[bval b] W fun e w' => e = .returned (.bool (countsK b)) ∧ Below W.heap.size W w') := kCounts_any b
  have HB : Hid (∀ o, Below w.heap.size w (w.alloc o)) := fun o => (Below.refl _ _).alloc (Nat.le_refl _) _
  obtain ⟨c, hc⟩ : ∃ c, enoughK b n = c := ⟨_, rfl⟩
  rw [hc]
  unfold enoughK at hc
  generalize countsK b = m at HC hc
  obtain ⟨x, y⟩ := b
  unfold bval bcells at HC ⊢
  simp only at HC hc ⊢
  have he : (m = false ∧ c = false) ∨ (m = true ∧ n ≤ y ∧ c = true) ∨ (m = true ∧ ¬ n ≤ y ∧ c = false) := by
    subst hc
    cases m
    · exact .inl ⟨rfl, rfl⟩
    · by_cases h : n ≤ y
      · exact .inr (.inl ⟨rfl, h, by simp [h]⟩)
      · exact .inr (.inr ⟨rfl, h, by simp [h]⟩)
  clear hc
  rcases he with ⟨rfl, rfl⟩ | ⟨rfl, h1, rfl⟩ | ⟨rfl, h1, rfl⟩
  all_goals
    go_enter Try.func13, Try.ntmps13
    go_wp2_with fail
    refine (HC.out _).mono ?_
    rintro e w1 ⟨rfl, hb⟩
    obtain ⟨hc, hf⟩ := bcell hb
    have HB1 : Hid (Below w.heap.size w w1) := (HB.out _).trans (hb.mono (by simp))
    clear hb
    go_wp2
    go_ret
    first | exact ⟨rfl, HB1.out⟩ | exact ⟨ret_bool (decide_eq_false (by omega)), HB1.out⟩

/-- What Compare says of a bucket that counts, and what 'failK' makes of it. -/
theorem cmp_hid {b : Bk} {p : Int} (h : countsK b = true) (hp : 0 < p) : ∃ v, cmpV (oz (b.all - b.ok) * oz 100) (oz p * oz b.all) = v ∧ ((0 ≤ v ∧ failK b p = true) ∨ (¬ 0 ≤ v ∧ failK b p = false)) := by
  refine ⟨_, rfl, ?_⟩
  have := failK_cmp h hp
  by_cases h0 : 0 ≤ cmpV (oz (b.all - b.ok) * oz 100) (oz p * oz b.all)
  · rw [decide_eq_true h0] at this
    exact .inl ⟨h0, this.symm⟩
  · rw [decide_eq_false h0] at this
    exact .inr ⟨h0, this.symm⟩

set_option maxHeartbeats 2000000 in
theorem kFail_any (b : Bk) (p : Int) (hp1 : p ≤ 9223372036854775807) (w : World) : Calls Try.prog 15 #[bval b, .int .i64 p] w fun e w' => e = .returned (.bool (failK b p)) ∧ Below w.heap.size w w' := by
  have HC : Hid (∀ W : World, Calls Try.prog 18 #[bval b] W fun e w' => e = .returned (.bool (countsK b)) ∧ Below W.heap.size W w') := kCounts_any b
  have HB : Hid (∀ o, Below w.heap.size w (w.alloc o)) := fun o => (Below.refl _ _).alloc (Nat.le_refl _) _
  by_cases h : countsK b = true
  · by_cases hp : 0 < p
    · obtain ⟨v, hv, hd⟩ := cmp_hid h hp
      have hb := (countsK_iff b).1 h
      have hs : IntKind.i64.wrap (b.all - b.ok) = b.all - b.ok := by rw [IntKind.wrap_i64]; omega
      have HD : Hid (∀ W : World, Calls Try.prog 20 #[.int .i64 (b.all - b.ok), .int .i64 100, .int .i64 p, .int .i64 b.all] W fun e w' => e = .returned (.int .i64 v) ∧ Below W.heap.size W w') := fun W => by
        have := compare_any (b.all - b.ok) 100 p b.all W (by omega) (by omega) hp1 (by omega)
        rw [hv] at this
        exact this
      clear hv hb hp1
      rw [h] at HC
      clear h
      generalize failK b p = r at hd ⊢
      obtain ⟨x, y⟩ := b
      unfold bval bcells at HC ⊢
      simp only at HC HD hs ⊢
      rcases hd with ⟨h1, rfl⟩ | ⟨h1, rfl⟩
      all_goals
        go_enter Try.func15, Try.ntmps15
        go_wp2_with fail
        refine (HC.out _).mono ?_
        rintro e w1 ⟨rfl, hb⟩
        obtain ⟨hc, hf⟩ := bcell hb
        have HB1 : Hid (Below w.heap.size w w1) := (HB.out _).trans (hb.mono (by simp))
        clear hb
        go_wp2_with fail
        refine (HD.out _).mono ?_
        rintro e w2 ⟨rfl, hb⟩
        clear hc hf
        have HB2 : Hid (Below w.heap.size w w2) := HB1.out.trans (hb.mono HB1.out.size)
        go_wp2
        go_ret
        first | exact ⟨rfl, HB2.out⟩ | exact ⟨ret_bool (decide_eq_false (by omega)), HB2.out⟩
    · have hr : failK b p = false := by unfold failK; simp [hp]
      rw [hr]
      rw [h] at HC
      clear hr h
      obtain ⟨x, y⟩ := b
      unfold bval bcells at HC ⊢
      simp only at HC ⊢
      go_enter Try.func15, Try.ntmps15
      go_wp2_with fail
      refine (HC.out _).mono ?_
      rintro e w1 ⟨rfl, hb⟩
      have HB1 : Hid (Below w.heap.size w w1) := (HB.out _).trans (hb.mono (by simp))
      clear hb
      go_wp2
      go_ret
      exact ⟨rfl, HB1.out⟩
  · have h0 : countsK b = false := by simpa using h
    have hr : failK b p = false := by unfold failK; rw [h0, Bool.false_and]
    rw [hr]
    rw [h0] at HC
    clear hr h h0
    obtain ⟨x, y⟩ := b
    unfold bval bcells at HC ⊢
    simp only at HC ⊢
    go_enter Try.func15, Try.ntmps15
    go_wp2_with fail
    refine (HC.out _).mono ?_
    rintro e w1 ⟨rfl, hb⟩
    have HB1 : Hid (Below w.heap.size w w1) := (HB.out _).trans (hb.mono (by simp))
    clear hb
    go_wp2
    go_ret
    exact ⟨rfl, HB1.out⟩

end Go.Proofs.Ythoecpciiphofaa
