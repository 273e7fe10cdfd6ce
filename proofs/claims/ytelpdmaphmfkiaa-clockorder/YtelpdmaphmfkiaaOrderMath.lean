/-
  The plain mathematics of ClockOrder: which timers are still to come, which have gone. No program stands in it.
-/
import Derived.Test.YtelpdmaphmfkiaaClockMath
import Derived.Test.YtelpdmaphmfkiaaRefClock1
namespace Go.Proofs.Ytelpdmaphmfkiaa

theorem when_some {L : List TimerT} {kind id a : Int} (h : whenT L kind id = (a, true)) : (⟨a, kind, id⟩ : TimerT) ∈ L := by
  unfold whenT at h
  cases hf : firstT L kind id with
  | none => rw [hf] at h; simp at h
  | some t =>
    rw [hf] at h
    simp only [Prod.mk.injEq, and_true] at h
    obtain ⟨h1, h2, h3⟩ := firstT_some hf
    obtain ⟨t1, t2, t3⟩ := t
    simp only at h h2 h3
    rw [← h, ← h2, ← h3]; exact h1
theorem when_no {L : List TimerT} {kind id a : Int} (h : whenT L kind id = (a, false)) : ∀ t ∈ L, ¬ (t.kind = kind ∧ t.id = id) := by
  unfold whenT at h
  cases hf : firstT L kind id with
  | none => exact firstT_none hf
  | some t => rw [hf] at h; simp at h

/-- What the map says of the timers that are there. -/
def Marks (f : TimerT → Int) (L : List TimerT) : Prop := ∀ t, inT t → (f t = 1 ↔ t ∈ L)
theorem marks_set {f f1 : TimerT → Int} {L : List TimerT} {t : TimerT} (h1 : ∀ x, inT x → (f1 x = 1 ↔ x ∈ L ∧ ¬ (x.kind = t.kind ∧ x.id = t.id))) (_ : Marks f L) :
    Marks (fun q => if q = t then 1 else f1 q) (putT (cutT L t.kind t.id) t) := by
  intro x hx
  show (if x = t then (1 : Int) else f1 x) = 1 ↔ _
  rw [mem_putT, mem_cutT]
  by_cases e : x = t
  · rw [if_pos e]; simp [e]
  · rw [if_neg e, h1 x hx]; simp [e]
theorem marks_old {now : Int} {f : TimerT → Int} {L : List TimerT} {t : TimerT} {a : Int} (hg : GoodC now L) (h : Marks f L) (hm : (⟨a, t.kind, t.id⟩ : TimerT) ∈ L) :
    ∀ x, inT x → ((if x = ⟨a, t.kind, t.id⟩ then (0 : Int) else f x) = 1 ↔ x ∈ L ∧ ¬ (x.kind = t.kind ∧ x.id = t.id)) := by
  intro x hx
  by_cases e : x = ⟨a, t.kind, t.id⟩
  · rw [if_pos e]; simp [e]
  · rw [if_neg e, h x hx]
    constructor
    · exact fun hL => ⟨hL, fun hk => e (hg.only hL hm hk)⟩
    · exact fun hL => hL.1
theorem marks_new {f : TimerT → Int} {L : List TimerT} {t : TimerT} (h : Marks f L) (hn : ∀ x ∈ L, ¬ (x.kind = t.kind ∧ x.id = t.id)) : ∀ x, inT x → (f x = 1 ↔ x ∈ L ∧ ¬ (x.kind = t.kind ∧ x.id = t.id)) := by
  intro x hx
  rw [h x hx]
  exact ⟨fun hL => ⟨hL, hn x hL⟩, fun hL => hL.1⟩
theorem marks_gone {now : Int} {f : TimerT → Int} {x : TimerT} {r : List TimerT} (hg : GoodC now (x :: r)) (h : Marks f (x :: r)) : Marks (fun q => if q = x then 2 else f q) r := by
  have hs := (List.pairwise_cons.1 hg.sorted).1
  intro q hq
  show (if q = x then (2 : Int) else f q) = 1 ↔ _
  by_cases e : q = x
  · rw [if_pos e]
    subst e
    constructor
    · intro h; omega
    · intro hr
      have := hs q hr
      rw [ltT_irrefl] at this; cases this
  · rw [if_neg e, h q hq]; simp [e]

/-- The last one that went, if one did: it is marked, and all that are left stand behind it. -/
def LastT (f : TimerT → Int) (L : List TimerT) (last : TimerT) : Prop := (last = noTimer ∧ ∀ t, inT t → f t ≠ 2) ∨ (inT last ∧ f last = 2 ∧ ∀ x ∈ L, ltT last x = true)
theorem lastT_gone {now : Int} {f : TimerT → Int} {x : TimerT} {r : List TimerT} (hg : GoodC now (x :: r)) (hx : inT x) : LastT (fun q => if q = x then 2 else f q) r x :=
  .inr ⟨hx, by show (if x = x then (2 : Int) else f x) = 2; rw [if_pos rfl], (List.pairwise_cons.1 hg.sorted).1⟩
theorem inT_none : inT noTimer := by unfold inT noTimer; decide

end Go.Proofs.Ytelpdmaphmfkiaa
