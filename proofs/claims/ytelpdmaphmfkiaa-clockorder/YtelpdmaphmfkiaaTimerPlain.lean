/-
  The plain mathematics of chapter 9: timers in order. No program stands in it.
-/
import Derived.Test.YtelpdmaphmfkiaaRowKit
namespace Go.Proofs.Ytelpdmaphmfkiaa

structure TimerT where
  at_ : Int
  kind : Int
  id : Int
deriving DecidableEq
abbrev noTimer : TimerT := ⟨0, 0, 0⟩
def inT (t : TimerT) : Prop := (-9223372036854775808 ≤ t.at_ ∧ t.at_ ≤ 9223372036854775807) ∧ (-9223372036854775808 ≤ t.kind ∧ t.kind ≤ 9223372036854775807) ∧ (-9223372036854775808 ≤ t.id ∧ t.id ≤ 9223372036854775807)

/-- By time, then kind, then number. -/
def ltT (a b : TimerT) : Bool := decide (a.at_ < b.at_ ∨ a.at_ = b.at_ ∧ (a.kind < b.kind ∨ a.kind = b.kind ∧ a.id < b.id))
theorem ltT_iff (a b : TimerT) : ltT a b = true ↔ (a.at_ < b.at_ ∨ a.at_ = b.at_ ∧ (a.kind < b.kind ∨ a.kind = b.kind ∧ a.id < b.id)) := by unfold ltT; simp
theorem ltT_irrefl (a : TimerT) : ltT a a = false := by
  cases h : ltT a a with
  | false => rfl
  | true => rw [ltT_iff] at h; omega
theorem ltT_trans {a b c : TimerT} (h1 : ltT a b = true) (h2 : ltT b c = true) : ltT a c = true := by rw [ltT_iff] at *; omega
theorem ltT_tri (a b : TimerT) : ltT a b = true ∨ a = b ∨ ltT b a = true := by
  rw [ltT_iff, ltT_iff]
  obtain ⟨a1, a2, a3⟩ := a
  obtain ⟨b1, b2, b3⟩ := b
  simp only [TimerT.mk.injEq]
  omega

/-- Is it this one? -/
def isT (kind id : Int) (t : TimerT) : Bool := t.kind == kind && t.id == id
def cutT (L : List TimerT) (kind id : Int) : List TimerT := L.filter fun t => !isT kind id t
def hasT (L : List TimerT) (kind id : Int) : Bool := L.any (isT kind id)
theorem cutT_take {L : List TimerT} {kind id : Int} {k : Nat} (hk : k < L.length) : cutT (L.take (k + 1)) kind id = cutT (L.take k) kind id ++ (if isT kind id (L.getD k noTimer) then [] else [L.getD k noTimer]) := by
  unfold cutT
  rw [List.take_succ_eq_append_getElem hk, List.filter_append]
  have : L.getD k noTimer = L[k] := by simp [hk]
  rw [this]
  cases h : isT kind id L[k] <;> simp [h]
theorem cutT_length (L : List TimerT) (kind id : Int) : (cutT L kind id).length ≤ L.length := List.length_filter_le _ _
theorem cutT_same {L : List TimerT} {kind id : Int} : (L.length = (cutT L kind id).length) ↔ hasT L kind id = false := by
  unfold cutT hasT
  induction L with
  | nil => simp
  | cons x r ih =>
    have hl := List.length_filter_le (fun t => !isT kind id t) r
    rw [List.filter_cons, List.any_cons]
    cases h : isT kind id x
    · simp [← ih]
    · simp
      omega

/-- How many stand ahead of it, from the first one on. -/
def aheadT : List TimerT → TimerT → Nat
  | [], _ => 0
  | x :: r, t => if ltT x t then aheadT r t + 1 else 0
theorem aheadT_le (L : List TimerT) (t : TimerT) : aheadT L t ≤ L.length := by
  induction L with
  | nil => exact Nat.le_refl _
  | cons x r ih => simp only [aheadT]; split <;> simp <;> omega
theorem aheadT_stop {L : List TimerT} {t : TimerT} {k : Nat} (h : ∀ j, j < k → ltT (L.getD j noTimer) t = true) (hk : k ≤ L.length) (hs : k < L.length → ltT (L.getD k noTimer) t = false) : aheadT L t = k := by
  induction L generalizing k with
  | nil => simp at hk; subst hk; rfl
  | cons x r ih =>
    cases k with
    | zero =>
      have := hs (by simp)
      simp only [List.getD_cons_zero] at this
      simp [aheadT, this]
    | succ k =>
      have h0 := h 0 (by omega)
      simp only [List.getD_cons_zero] at h0
      simp only [aheadT, h0, if_true]
      rw [ih (k := k) (fun j hj => by have := h (j + 1) (by omega); simpa using this) (by simpa using hk) (fun hk' => by have := hs (by simpa using hk'); simpa using this)]
def putT (L : List TimerT) (t : TimerT) : List TimerT := L.take (aheadT L t) ++ t :: L.drop (aheadT L t)
def top62 : Int := 4611686018427387904
def setOK (now : Int) (t : TimerT) : Bool := decide (now ≤ t.at_) && decide (t.at_ ≤ top62)
def setT (now : Int) (L : List TimerT) (t : TimerT) : List TimerT := if setOK now t then putT (cutT L t.kind t.id) t else L
def firstT (L : List TimerT) (kind id : Int) : Option TimerT := L.find? (isT kind id)
/-- Is the first one till then? -/
def dueT (L : List TimerT) (to : Int) : Bool := match L with
  | [] => false
  | x :: _ => decide (x.at_ ≤ to)
def goOK (now : Int) (L : List TimerT) (to : Int) : Bool := decide (now ≤ to) && decide (to ≤ top62) && !dueT L to
/-- The first one, is there one, the time and the row behind it. -/
def nextT (now : Int) (L : List TimerT) (til : Int) : TimerT × Bool × Int × List TimerT := if dueT L til then (L.getD 0 noTimer, true, (L.getD 0 noTimer).at_, L.drop 1) else (noTimer, false, now, L)

end Go.Proofs.Ytelpdmaphmfkiaa
