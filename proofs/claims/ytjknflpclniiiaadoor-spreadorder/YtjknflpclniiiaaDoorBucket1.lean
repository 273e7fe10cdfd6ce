/-
  Buckets in memory; contracts of package bucket: May, counts, Note, Rate, Enough, Failing.
-/
import Derived.Test.YtjknflpclniiiaaDoorBase
import Derived.Test.YtjknflpclniiiaaDoorRatio2
import Derived.Laws.ResultCell
import Derived.Deep.CutRange
namespace Go.Proofs.YtjknflpclniiiaaDoor
open Go.RowKit

abbrev bcells (b : Bk) : Array Value := #[.int .i64 b.ok, .int .i64 b.all]
abbrev bval (b : Bk) : Value := .agg (bcells b)
theorem infoBucket : (Tryd.prog.info? 37).map (·.size) = some 2 := by kernel_rfl

set_option maxHeartbeats 1000000 in
theorem kMay_any (b : Bk) (w : World) : Calls Tryd.prog 40 #[bval b] w fun e w' => e = .returned (.bool (mayBk b)) ∧ Below w.heap.size w w' := by
  obtain ⟨x, y⟩ := b
  have HB : Hid (∀ o, Below w.heap.size w (w.alloc o)) := fun o => (Below.refl _ _).alloc (Nat.le_refl _) _
  unfold bval bcells mayBk
  simp only
  by_cases h1 : 0 ≤ x
  · rw [decide_eq_true h1, Bool.true_and]
    by_cases h2 : x ≤ y
    · rw [decide_eq_true h2, Bool.true_and]
      by_cases h3 : y ≤ 1000000000
      · rw [decide_eq_true h3]
        go_enter Tryd.func40, Tryd.ntmps40
        go_wp2
        go_ret
        exact ⟨rfl, HB.out _⟩
      · rw [decide_eq_false h3]
        go_enter Tryd.func40, Tryd.ntmps40
        go_wp2
        go_ret
        exact ⟨rfl, HB.out _⟩
    · rw [decide_eq_false h2, Bool.false_and]
      go_enter Tryd.func40, Tryd.ntmps40
      go_wp2
      go_ret
      exact ⟨rfl, HB.out _⟩
  · rw [decide_eq_false h1, Bool.false_and]
    go_enter Tryd.func40, Tryd.ntmps40
    go_wp2
    go_ret
    exact ⟨rfl, HB.out _⟩


set_option maxHeartbeats 1000000 in
theorem kCounts_any (b : Bk) (w : World) : Calls Tryd.prog 43 #[bval b] w fun e w' => e = .returned (.bool (countsK b)) ∧ Below w.heap.size w w' := by
  have HM : Hid (∀ W : World, Calls Tryd.prog 40 #[bval b] W fun e w' => e = .returned (.bool (mayBk b)) ∧ Below W.heap.size W w') := kMay_any b
  have HB : Hid (∀ o, Below w.heap.size w (w.alloc o)) := fun o => (Below.refl _ _).alloc (Nat.le_refl _) _
  obtain ⟨c, hc⟩ : ∃ c, countsK b = c := ⟨_, rfl⟩
  rw [hc]
  unfold countsK at hc
  generalize mayBk b = m at HM hc
  obtain ⟨x, y⟩ := b
  unfold bval bcells at HM ⊢
  simp only at HM hc ⊢
  have he : (m = false ∧ c = false) ∨ (m = true ∧ 0 < y ∧ c = true) ∨ (m = true ∧ ¬ 0 < y ∧ c = false) := by
    subst hc
    cases m
    · exact .inl ⟨rfl, rfl⟩
    · by_cases h : 0 < y
      · exact .inr (.inl ⟨rfl, h, by simp [h]⟩)
      · exact .inr (.inr ⟨rfl, h, by simp [h]⟩)
  clear hc
  rcases he with ⟨rfl, rfl⟩ | ⟨rfl, h1, rfl⟩ | ⟨rfl, h1, rfl⟩
  all_goals
    go_enter Tryd.func43, Tryd.ntmps43
    go_wp2_with fail
    refine (HM.out _).mono ?_
    rintro e w1 ⟨rfl, hb⟩
    obtain ⟨hc, hf⟩ := bcell hb
    have HB1 : Hid (Below w.heap.size w w1) := (HB.out _).trans (hb.mono (by simp))
    clear hb
    go_wp2
    go_ret
    first | exact ⟨rfl, HB1.out⟩ | exact ⟨ret_bool (decide_eq_false (by omega)), HB1.out⟩

set_option maxHeartbeats 1000000 in
theorem kRate_any (b : Bk) (hb0 : inBk b) (w : World) : Calls Tryd.prog 29 #[bval b] w fun e w' => e = .returned (.int .i64 (rateK b)) ∧ Below w.heap.size w w' := by
  have HC : Hid (∀ W : World, Calls Tryd.prog 43 #[bval b] W fun e w' => e = .returned (.bool (countsK b)) ∧ Below W.heap.size W w') := kCounts_any b
  have HB : Hid (∀ o, Below w.heap.size w (w.alloc o)) := fun o => (Below.refl _ _).alloc (Nat.le_refl _) _
  by_cases h : countsK b = true
  · obtain ⟨o, ho⟩ : ∃ o, mdOk b.ok 10000 b.all = o := ⟨_, rfl⟩
    have HD : Hid (∀ W : World, Calls Tryd.prog 44 #[.int .i64 b.ok, .int .i64 10000, .int .i64 b.all] W fun e w' => e = .returned (.tuple #[.int .i64 (rateK b), .bool o]) ∧ Below W.heap.size W w') := fun W => by
      have := mulDiv_any b.ok 10000 b.all W hb0.1.2 (by omega) hb0.2.2
      rw [rateK_md h, ho] at this
      exact this
    clear ho
    rw [h] at HC
    clear h hb0
    generalize rateK b = r at HD ⊢
    obtain ⟨x, y⟩ := b
    unfold bval bcells at HC ⊢
    simp only at HC HD ⊢
    go_enter Tryd.func29, Tryd.ntmps29
    go_wp2_with fail
    refine (HC.out _).mono ?_
    rintro e w1 ⟨rfl, hb⟩
    obtain ⟨hc, hf⟩ := bcell hb
    have HB1 : Hid (Below w.heap.size w w1) := (HB.out _).trans (hb.mono (by simp))
    clear hb
    go_wp2_with fail
    refine (HD.out _).mono ?_
    rintro e w2 ⟨rfl, hb⟩
    clear hc hf
    have HB2 : Hid (Below w.heap.size w w2) := HB1.out.trans (hb.mono HB1.out.size)
    go_wp2
    go_ret
    exact ⟨rfl, HB2.out⟩
  · have hr : rateK b = 0 := if_neg h
    have h0 : countsK b = false := by simpa using h
    rw [hr]
    rw [h0] at HC
    clear hr h h0 hb0
    obtain ⟨x, y⟩ := b
    unfold bval bcells at HC ⊢
    simp only at HC ⊢
    go_enter Tryd.func29, Tryd.ntmps29
    go_wp2_with fail
    refine (HC.out _).mono ?_
    rintro e w1 ⟨rfl, hb⟩
    have HB1 : Hid (Below w.heap.size w w1) := (HB.out _).trans (hb.mono (by simp))
    clear hb
    go_wp2
    go_ret
    exact ⟨rfl, HB1.out⟩

set_option maxHeartbeats 1000000 in
theorem kEnough_any (b : Bk) (n : Int) (w : World) : Calls Tryd.prog 42 #[bval b, .int .i64 n] w fun e w' => e = .returned (.bool (enoughK b n)) ∧ Below w.heap.size w w' := by
  have HC : Hid (∀ W : World, Calls Tryd.prog 43 #[bval b] W fun e w' => e = .returned (.bool (countsK b)) ∧ Below W.heap.size W w') := kCounts_any b
  have HB : Hid (∀ o, Below w.heap.size w (w.alloc o)) := fun o => (Below.refl _ _).alloc (Nat.le_refl _) _
  obtain ⟨c, hc⟩ : ∃ c, enoughK b n = c := ⟨_, rfl⟩
  rw [hc]
  unfold enoughK at hc
  generalize countsK b = m at HC hc
  obtain ⟨x, y⟩ := b
  unfold bval bcells at HC ⊢
  simp only at HC hc ⊢
  have he : (m = false ∧ c = false) ∨ (m = true ∧ n ≤ y ∧ c = true) ∨ (m = true ∧ ¬ n ≤ y ∧ c = false) := by
    subst hc
    cases m
    · exact .inl ⟨rfl, rfl⟩
    · by_cases h : n ≤ y
      · exact .inr (.inl ⟨rfl, h, by simp [h]⟩)
      · exact .inr (.inr ⟨rfl, h, by simp [h]⟩)
  clear hc
  rcases he with ⟨rfl, rfl⟩ | ⟨rfl, h1, rfl⟩ | ⟨rfl, h1, rfl⟩
  all_goals
    go_enter Tryd.func42, Tryd.ntmps42
    go_wp2_with fail
    refine (HC.out _).mono ?_
    rintro e w1 ⟨rfl, hb⟩
    obtain ⟨hc, hf⟩ := bcell hb
    have HB1 : Hid (Below w.heap.size w w1) := (HB.out _).trans (hb.mono (by simp))
    clear hb
    go_wp2
    go_ret
    first | exact ⟨rfl, HB1.out⟩ | exact ⟨ret_bool (decide_eq_false (by omega)), HB1.out⟩

/-- What Compare says of a bucket that counts, and what 'failK' makes of it. -/
theorem cmp_hid {b : Bk} {p : Int} (h : countsK b = true) (hp : 0 < p) : ∃ v, cmpV (oz (b.all - b.ok) * oz 100) (oz p * oz b.all) = v ∧ ((0 ≤ v ∧ failK b p = true) ∨ (¬ 0 ≤ v ∧ failK b p = false)) := by
  refine ⟨_, rfl, ?_⟩
  have := failK_cmp h hp
  by_cases h0 : 0 ≤ cmpV (oz (b.all - b.ok) * oz 100) (oz p * oz b.all)
  · rw [decide_eq_true h0] at this
    exact .inl ⟨h0, this.symm⟩
  · rw [decide_eq_false h0] at this
    exact .inr ⟨h0, this.symm⟩

set_option maxHeartbeats 2000000 in
theorem kFail_any (b : Bk) (p : Int) (hp1 : p ≤ 9223372036854775807) (w : World) : Calls Tryd.prog 28 #[bval b, .int .i64 p] w fun e w' => e = .returned (.bool (failK b p)) ∧ Below w.heap.size w w' := by
  have HC : Hid (∀ W : World, Calls Tryd.prog 43 #[bval b] W fun e w' => e = .returned (.bool (countsK b)) ∧ Below W.heap.size W w') := kCounts_any b
  have HB : Hid (∀ o, Below w.heap.size w (w.alloc o)) := fun o => (Below.refl _ _).alloc (Nat.le_refl _) _
  by_cases h : countsK b = true
  · by_cases hp : 0 < p
    · obtain ⟨v, hv, hd⟩ := cmp_hid h hp
      have hb := (countsK_iff b).1 h
      have hs : IntKind.i64.wrap (b.all - b.ok) = b.all - b.ok := by rw [IntKind.wrap_i64]; omega
      have HD : Hid (∀ W : World, Calls Tryd.prog 37 #[.int .i64 (b.all - b.ok), .int .i64 100, .int .i64 p, .int .i64 b.all] W fun e w' => e = .returned (.int .i64 v) ∧ Below W.heap.size W w') := fun W => by
        have := compare_any (b.all - b.ok) 100 p b.all W (by omega) (by omega) hp1 (by omega)
        rw [hv] at this
        exact this
      clear hv hb hp1
      rw [h] at HC
      clear h
      generalize failK b p = r at hd ⊢
      obtain ⟨x, y⟩ := b
      unfold bval bcells at HC ⊢
      simp only at HC HD hs ⊢
      rcases hd with ⟨h1, rfl⟩ | ⟨h1, rfl⟩
      all_goals
        go_enter Tryd.func28, Tryd.ntmps28
        go_wp2_with fail
        refine (HC.out _).mono ?_
        rintro e w1 ⟨rfl, hb⟩
        obtain ⟨hc, hf⟩ := bcell hb
        have HB1 : Hid (Below w.heap.size w w1) := (HB.out _).trans (hb.mono (by simp))
        clear hb
        go_wp2_with fail
        refine (HD.out _).mono ?_
        rintro e w2 ⟨rfl, hb⟩
        clear hc hf
        have HB2 : Hid (Below w.heap.size w w2) := HB1.out.trans (hb.mono HB1.out.size)
        go_wp2
        go_ret
        first | exact ⟨rfl, HB2.out⟩ | exact ⟨ret_bool (decide_eq_false (by omega)), HB2.out⟩
    · have hr : failK b p = false := by unfold failK; simp [hp]
      rw [hr]
      rw [h] at HC
      clear hr h
      obtain ⟨x, y⟩ := b
      unfold bval bcells at HC ⊢
      simp only at HC ⊢
      go_enter Tryd.func28, Tryd.ntmps28
      go_wp2_with fail
      refine (HC.out _).mono ?_
      rintro e w1 ⟨rfl, hb⟩
      have HB1 : Hid (Below w.heap.size w w1) := (HB.out _).trans (hb.mono (by simp))
      clear hb
      go_wp2
      go_ret
      exact ⟨rfl, HB1.out⟩
  · have h0 : countsK b = false := by simpa using h
    have hr : failK b p = false := by unfold failK; rw [h0, Bool.false_and]
    rw [hr]
    rw [h0] at HC
    clear hr h h0
    obtain ⟨x, y⟩ := b
    unfold bval bcells at HC ⊢
    simp only at HC ⊢
    go_enter Tryd.func28, Tryd.ntmps28
    go_wp2_with fail
    refine (HC.out _).mono ?_
    rintro e w1 ⟨rfl, hb⟩
    have HB1 : Hid (Below w.heap.size w w1) := (HB.out _).trans (hb.mono (by simp))
    clear hb
    go_wp2
    go_ret
    exact ⟨rfl, HB1.out⟩

end Go.Proofs.YtjknflpclniiiaaDoor
