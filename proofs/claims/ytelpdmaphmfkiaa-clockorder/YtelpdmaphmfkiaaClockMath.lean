/-
  Chapter 9's plain mathematics: what always holds of a clock's time and its row of timers. No program stands in it.
-/
import Derived.Test.YtelpdmaphmfkiaaTimerPlain
namespace Go.Proofs.Ytelpdmaphmfkiaa

structure GoodC (now : Int) (L : List TimerT) : Prop where
  low : 0 ≤ now
  high : now ≤ top62
  sorted : L.Pairwise fun a b => ltT a b = true
  one : L.Pairwise fun a b => ¬ (a.kind = b.kind ∧ a.id = b.id)
  from_ : ∀ t ∈ L, now ≤ t.at_
  upto : ∀ t ∈ L, t.at_ ≤ top62

theorem isT_iff (kind id : Int) (t : TimerT) : isT kind id t = true ↔ t.kind = kind ∧ t.id = id := by simp [isT]
theorem mem_cutT {L : List TimerT} {kind id : Int} {t : TimerT} : t ∈ cutT L kind id ↔ t ∈ L ∧ ¬ (t.kind = kind ∧ t.id = id) := by
  unfold cutT
  rw [List.mem_filter]
  have : (!isT kind id t) = true ↔ ¬ (t.kind = kind ∧ t.id = id) := by
    rw [← isT_iff]
    cases isT kind id t <;> simp
  rw [this]
theorem mem_putT {L : List TimerT} {t x : TimerT} : x ∈ putT L t ↔ x = t ∨ x ∈ L := by
  unfold putT
  rw [List.mem_append, List.mem_cons]
  have : x ∈ L ↔ x ∈ L.take (aheadT L t) ∨ x ∈ L.drop (aheadT L t) := by rw [← List.mem_append, List.take_append_drop]
  rw [this]
  constructor
  · rintro (h | h | h)
    · exact .inr (.inl h)
    · exact .inl h
    · exact .inr (.inr h)
  · rintro (h | h | h)
    · exact .inr (.inl h)
    · exact .inl h
    · exact .inr (.inr h)
theorem putT_nil (t : TimerT) : putT [] t = [t] := rfl
theorem putT_cons (x : TimerT) (r : List TimerT) (t : TimerT) : putT (x :: r) t = if ltT x t then x :: putT r t else t :: x :: r := by
  unfold putT
  by_cases h : ltT x t = true
  · simp [aheadT, h]
  · simp [aheadT, h]
theorem putT_sorted {L : List TimerT} {t : TimerT} (h : L.Pairwise fun a b => ltT a b = true) (hn : t ∉ L) : (putT L t).Pairwise fun a b => ltT a b = true := by
  induction L with
  | nil => rw [putT_nil]; exact List.pairwise_singleton _ _
  | cons x r ih =>
    obtain ⟨h1, h2⟩ := List.pairwise_cons.1 h
    have hx : t ≠ x := fun e => hn (by simp [e])
    have hr : t ∉ r := fun e => hn (by simp [e])
    rw [putT_cons]
    split
    · rename_i hl
      refine List.pairwise_cons.2 ⟨fun y hy => ?_, ih h2 hr⟩
      rcases mem_putT.1 hy with rfl | hy
      · exact hl
      · exact h1 y hy
    · rename_i hl
      have ht : ltT t x = true := by
        rcases ltT_tri t x with h | h | h
        · exact h
        · exact absurd h hx
        · exact absurd h hl
      refine List.pairwise_cons.2 ⟨fun y hy => ?_, h⟩
      rcases List.mem_cons.1 hy with rfl | hy
      · exact ht
      · exact ltT_trans ht (h1 y hy)
theorem putT_one {L : List TimerT} {t : TimerT} (h : L.Pairwise fun a b => ¬ (a.kind = b.kind ∧ a.id = b.id)) (hn : ∀ x ∈ L, ¬ (x.kind = t.kind ∧ x.id = t.id)) : (putT L t).Pairwise fun a b => ¬ (a.kind = b.kind ∧ a.id = b.id) := by
  induction L with
  | nil => rw [putT_nil]; exact List.pairwise_singleton _ _
  | cons x r ih =>
    obtain ⟨h1, h2⟩ := List.pairwise_cons.1 h
    have hx := hn x (by simp)
    have hr : ∀ y ∈ r, ¬ (y.kind = t.kind ∧ y.id = t.id) := fun y hy => hn y (by simp [hy])
    rw [putT_cons]
    split
    · refine List.pairwise_cons.2 ⟨fun y hy => ?_, ih h2 hr⟩
      rcases mem_putT.1 hy with rfl | hy
      · exact hx
      · exact h1 y hy
    · refine List.pairwise_cons.2 ⟨fun y hy => ?_, h⟩
      have := hn y hy
      exact fun e => this ⟨e.1.symm, e.2.symm⟩
theorem putT_length (L : List TimerT) (t : TimerT) : (putT L t).length = L.length + 1 := by
  unfold putT
  have := aheadT_le L t
  simp
  omega
theorem setT_length (now : Int) (L : List TimerT) (t : TimerT) : (setT now L t).length ≤ L.length + 1 := by
  unfold setT
  split
  · rw [putT_length]
    have := cutT_length L t.kind t.id
    omega
  · omega

theorem GoodC.new {now : Int} (h : 0 ≤ now) (h' : now ≤ top62) : GoodC now [] := ⟨h, h', .nil, .nil, by simp, by simp⟩
theorem GoodC.cut {now : Int} {L : List TimerT} (h : GoodC now L) (kind id : Int) : GoodC now (cutT L kind id) :=
  ⟨h.low, h.high, h.sorted.filter _, h.one.filter _, fun t ht => h.from_ t (mem_cutT.1 ht).1, fun t ht => h.upto t (mem_cutT.1 ht).1⟩
theorem GoodC.set {now : Int} {L : List TimerT} (h : GoodC now L) (t : TimerT) : GoodC now (setT now L t) := by
  unfold setT
  split
  · rename_i hs
    unfold setOK at hs
    simp only [Bool.and_eq_true, decide_eq_true_eq] at hs
    have hc := h.cut t.kind t.id
    have hno : ∀ x ∈ cutT L t.kind t.id, ¬ (x.kind = t.kind ∧ x.id = t.id) := fun x hx => (mem_cutT.1 hx).2
    refine ⟨h.low, h.high, putT_sorted hc.sorted fun e => hno t e ⟨rfl, rfl⟩, putT_one hc.one hno, fun x hx => ?_, fun x hx => ?_⟩
    · rcases mem_putT.1 hx with rfl | hx
      · exact hs.1
      · exact hc.from_ x hx
    · rcases mem_putT.1 hx with rfl | hx
      · exact hs.2
      · exact hc.upto x hx
  · exact h
theorem dueT_iff (L : List TimerT) (til : Int) : dueT L til = true ↔ ∃ x r, L = x :: r ∧ x.at_ ≤ til := by
  cases L with
  | nil => simp [dueT]
  | cons x r => simp [dueT]
theorem GoodC.next {now : Int} {L : List TimerT} (h : GoodC now L) (til : Int) : GoodC (nextT now L til).2.2.1 (nextT now L til).2.2.2 := by
  unfold nextT
  split
  · rename_i hd
    obtain ⟨x, r, rfl, hx⟩ := (dueT_iff _ _).1 hd
    obtain ⟨s1, s2⟩ := List.pairwise_cons.1 h.sorted
    obtain ⟨o1, o2⟩ := List.pairwise_cons.1 h.one
    have hn := h.from_ x (by simp)
    have hlow := h.low
    refine ⟨by simp; omega, by simpa using h.upto x (by simp), by simpa using s2, by simpa using o2, fun t ht => ?_, fun t ht => h.upto t (by simp at ht; simp [ht])⟩
    have ht' : t ∈ r := by simpa using ht
    have := (ltT_iff x t).1 (s1 t ht')
    simp
    omega
  · exact h
theorem GoodC.go {now : Int} {L : List TimerT} (h : GoodC now L) (til : Int) : GoodC (if goOK now L til then til else now) L := by
  split
  · rename_i hg
    unfold goOK at hg
    simp only [Bool.and_eq_true, decide_eq_true_eq, Bool.not_eq_true'] at hg
    have hlow := h.low
    refine ⟨by omega, hg.1.2, h.sorted, h.one, fun t ht => ?_, h.upto⟩
    cases L with
    | nil => simp at ht
    | cons x r =>
      have hx : ¬ x.at_ ≤ til := by simpa [dueT] using hg.2
      rcases List.mem_cons.1 ht with rfl | ht
      · omega
      · have := (ltT_iff x t).1 ((List.pairwise_cons.1 h.sorted).1 t ht)
        omega
  · exact h
/-- The time never goes back. -/
theorem GoodC.next_now {now : Int} {L : List TimerT} (h : GoodC now L) (til : Int) : now ≤ (nextT now L til).2.2.1 := by
  unfold nextT
  split
  · rename_i hd
    obtain ⟨x, r, rfl, hx⟩ := (dueT_iff _ _).1 hd
    simpa using h.from_ x (by simp)
  · exact Int.le_refl _
theorem go_now (now : Int) (L : List TimerT) (til : Int) : now ≤ (if goOK now L til then til else now) := by
  split
  · rename_i hg
    unfold goOK at hg
    simp only [Bool.and_eq_true, decide_eq_true_eq] at hg
    exact hg.1.1
  · exact Int.le_refl _
/-- What comes is due, and stands ahead of all that are left. -/
theorem next_due {now : Int} {L : List TimerT} {til : Int} (h : (nextT now L til).2.1 = true) : (nextT now L til).1.at_ ≤ til ∧ (nextT now L til).1 ∈ L ∧ L = (nextT now L til).1 :: (nextT now L til).2.2.2 ∧ (nextT now L til).2.2.1 = (nextT now L til).1.at_ := by
  unfold nextT at h ⊢
  split
  · rename_i hd
    obtain ⟨x, r, rfl, hx⟩ := (dueT_iff _ _).1 hd
    simpa using hx
  · rename_i hd
    simp [hd] at h
/-- Where none is due, all that are left come later. -/
theorem GoodC.late {now : Int} {L : List TimerT} (h : GoodC now L) {til : Int} (hd : dueT L til = false) : ∀ t ∈ L, til < t.at_ := by
  intro t ht
  cases L with
  | nil => simp at ht
  | cons x r =>
    have hx : ¬ x.at_ ≤ til := by simpa [dueT] using hd
    rcases List.mem_cons.1 ht with rfl | ht
    · omega
    · have := (ltT_iff x t).1 ((List.pairwise_cons.1 h.sorted).1 t ht)
      omega
/-- Where it stands: At's answer. -/
theorem firstT_some {L : List TimerT} {kind id : Int} {t : TimerT} (h : firstT L kind id = some t) : t ∈ L ∧ t.kind = kind ∧ t.id = id := by
  unfold firstT at h
  exact ⟨List.mem_of_find?_eq_some h, (isT_iff _ _ _).1 (List.find?_some h)⟩
theorem firstT_none {L : List TimerT} {kind id : Int} (h : firstT L kind id = none) : ∀ t ∈ L, ¬ (t.kind = kind ∧ t.id = id) := by
  unfold firstT at h
  intro t ht e
  have := List.find?_eq_none.1 h t ht
  exact this ((isT_iff _ _ _).2 e)
theorem GoodC.only {now : Int} {L : List TimerT} (h : GoodC now L) {a b : TimerT} (ha : a ∈ L) (hb : b ∈ L) (e : a.kind = b.kind ∧ a.id = b.id) : a = b := by
  have ho := h.one
  clear h
  induction L with
  | nil => simp at ha
  | cons x r ih =>
    obtain ⟨o1, o2⟩ := List.pairwise_cons.1 ho
    rcases List.mem_cons.1 ha with rfl | ha'
    · rcases List.mem_cons.1 hb with rfl | hb'
      · rfl
      · exact absurd e (o1 b hb')
    · rcases List.mem_cons.1 hb with rfl | hb'
      · exact absurd ⟨e.1.symm, e.2.symm⟩ (o1 a ha')
      · exact ih ha' hb' o2

end Go.Proofs.Ytelpdmaphmfkiaa
