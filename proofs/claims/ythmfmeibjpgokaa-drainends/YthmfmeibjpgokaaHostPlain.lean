/-
  The plain mathematics of chapter 7: words in order, rows of pairs. No program stands in it.
-/
import Derived.Test.YthmfmeibjpgokaaHostKit
namespace Go.Proofs.Ythmfmeibjpgokaa
open Go.RowKit

abbrev ltS (x y : ByteArray) : Bool := Op.bytesLess x.toList y.toList
theorem bytesLess_tri : ∀ (a b : List UInt8), (!Op.bytesLess a b) = (Op.bytesLess b a || b == a)
  | [], [] => by simp [Op.bytesLess]
  | [], _ :: _ => by simp [Op.bytesLess]
  | _ :: _, [] => by simp [Op.bytesLess]
  | x :: a, y :: b => by
    have ih := bytesLess_tri a b
    simp only [Op.bytesLess]
    by_cases h1 : x < y
    · have h2 : ¬ y < x := fun h => absurd (UInt8.lt_trans h1 h) (UInt8.lt_irrefl _)
      have h3 : ¬ x = y := fun h => by subst h; exact UInt8.lt_irrefl _ h1
      have h4 : ¬ y = x := fun h => h3 h.symm
      simp [h1, h2, h4]
    · by_cases h3 : x = y
      · subst h3
        simpa [UInt8.lt_irrefl] using ih
      · have h4 : ¬ y = x := fun h => h3 h.symm
        have h2 : y < x := by
          rcases UInt8.lt_or_lt_of_ne h3 with h | h
          · exact absurd h h1
          · exact h
        simp [h1, h2, h3]
/-- Names that rise. -/
def risesP (ps : List PairT) : Bool := (List.range (ps.length - 1)).all fun i => ltS (ps.getD i noP).1 (ps.getD (i + 1) noP).1
theorem risesP_true {ps : List PairT} {k : Nat} (h : ∀ j, j + 1 < k → j + 1 < ps.length → ltS (ps.getD j noP).1 (ps.getD (j + 1) noP).1 = true) (hk : ps.length ≤ k) : risesP ps = true := by
  unfold risesP
  rw [List.all_eq_true]
  intro i hi
  have := List.mem_range.1 hi
  exact h i (by omega) (by omega)
theorem risesP_false {ps : List PairT} {k : Nat} (hk : k + 1 < ps.length) (h : ltS (ps.getD k noP).1 (ps.getD (k + 1) noP).1 = false) : risesP ps = false := by
  unfold risesP
  rw [List.all_eq_false]
  exact ⟨k, List.mem_range.2 (by omega), by simp only [h]; decide⟩

theorem beq_str (x y : ByteArray) : (x.toList == y.toList) = decide (x = y) := by
  by_cases h : x = y
  · subst h; simp
  · rw [decide_eq_false h, beq_eq_false_iff_ne, ne_eq, ByteArray.toList_eq, ByteArray.toList_eq]
    intro e
    exact h (ByteArray.ext (by simpa using e))
theorem beq_sym (x y : ByteArray) : (x.toList == y.toList) = (y.toList == x.toList) := by
  rw [beq_str, beq_str]; exact decide_eq_decide.2 ⟨Eq.symm, Eq.symm⟩

/-- Two pairs: alike, unlike in the first word, unlike in the second alone. -/
theorem pair_cases (a b c d : ByteArray) : ((a, b) = (c, d) ∧ (a.toList == c.toList) = true ∧ (b.toList == d.toList) = true) ∨ ((a, b) ≠ (c, d) ∧ (a.toList == c.toList) = false) ∨ ((a, b) ≠ (c, d) ∧ (a.toList == c.toList) = true ∧ (b.toList == d.toList) = false) := by
  by_cases h1 : a = c
  · subst h1
    by_cases h2 : b = d
    · subst h2
      exact .inl ⟨rfl, by simp, by simp⟩
    · exact .inr (.inr ⟨fun e => h2 (Prod.mk.inj e).2, by simp, by rw [beq_str]; exact decide_eq_false h2⟩)
  · exact .inr (.inl ⟨fun e => h1 (Prod.mk.inj e).1, by rw [beq_str]; exact decide_eq_false h1⟩)

theorem mayPairs_long {ps : List PairT} (h : 6 < ps.length) : mayPairs ps = false := by unfold mayPairs; rw [decide_eq_false (by omega)]; rfl
theorem mayPairs_bad {ps : List PairT} {k : Nat} (hk : k < ps.length) (h : nameOK (ps.getD k noP).1 = false ∨ nameOK (ps.getD k noP).2 = false) : mayPairs ps = false := by
  unfold mayPairs
  rw [List.getD_eq_getElem?_getD, List.getElem?_eq_getElem hk, Option.getD_some] at h
  rw [Bool.and_eq_false_iff]
  refine .inr ?_
  rw [List.all_eq_false]
  refine ⟨ps[k], List.getElem_mem hk, ?_⟩
  rcases h with h | h <;> simp [h]
theorem mayPairs_end {ps : List PairT} (hl : ps.length ≤ 6) (h : ∀ p ∈ ps, nameOK p.1 = true ∧ nameOK p.2 = true) : mayPairs ps = true := by
  unfold mayPairs
  rw [decide_eq_true hl, Bool.true_and, List.all_eq_true]
  intro p hp
  rw [(h p hp).1, (h p hp).2]; rfl
theorem mem_take_succ {α : Type} {P : α → Prop} {l : List α} {k : Nat} (d : α) (hk : k < l.length) (h : ∀ p ∈ l.take k, P p) (h1 : P (l.getD k d)) : ∀ p ∈ l.take (k + 1), P p := by
  intro p hp
  rw [List.take_succ_eq_append_getElem hk] at hp
  rcases List.mem_append.1 hp with h2 | h2
  · exact h p h2
  · rw [List.mem_singleton] at h2
    rw [List.getD_eq_getElem?_getD, List.getElem?_eq_getElem hk, Option.getD_some] at h1
    rw [h2]; exact h1
theorem hasPairs_bad {ps sub : List PairT} {k : Nat} (hk : k < sub.length) (h : sub.getD k noP ∉ ps) : hasPairs ps sub = false := by
  rw [List.getD_eq_getElem?_getD, List.getElem?_eq_getElem hk, Option.getD_some] at h
  unfold hasPairs
  rw [List.all_eq_false]
  refine ⟨_, List.getElem_mem hk, fun hx => ?_⟩
  obtain ⟨q, hq, e⟩ := List.any_eq_true.1 hx
  rw [decide_eq_true_eq] at e
  exact h (e ▸ hq)
theorem hasPairs_end {ps sub : List PairT} (h : ∀ p ∈ sub, p ∈ ps) : hasPairs ps sub = true := by
  unfold hasPairs
  rw [List.all_eq_true]
  intro p hp
  exact List.any_eq_true.2 ⟨p, h p hp, decide_eq_true rfl⟩
theorem take_more {α : Type} {a b : List α} {k : Nat} (d : α) (h1 : k < a.length) (h2 : k < b.length) (ht : a.take k = b.take k) (h : a.getD k d = b.getD k d) : a.take (k + 1) = b.take (k + 1) := by
  rw [List.getD_eq_getElem?_getD, List.getD_eq_getElem?_getD, List.getElem?_eq_getElem h1, List.getElem?_eq_getElem h2, Option.getD_some, Option.getD_some] at h
  rw [List.take_succ_eq_append_getElem h1, List.take_succ_eq_append_getElem h2, ht, h]
theorem list_ne {α : Type} [DecidableEq α] {a b : List α} {k : Nat} (d : α) (h : a.getD k d ≠ b.getD k d) : decide (a = b) = false := decide_eq_false fun e => h (by rw [e])
theorem list_len {α : Type} [DecidableEq α] {a b : List α} (h : a.length ≠ b.length) : decide (a = b) = false := decide_eq_false fun e => h (by rw [e])
theorem list_eq {α : Type} [DecidableEq α] {a b : List α} {k : Nat} (h : a.length = b.length) (hk : a.length ≤ k) (ht : a.take k = b.take k) : decide (a = b) = true := by
  rw [List.take_of_length_le hk, List.take_of_length_le (by omega)] at ht
  exact decide_eq_true ht

/-- Alike in all. -/
def sameH (a b : HostT) : Bool := decide (a = b)
theorem sameH_parts (a b : HostT) : sameH a b = ((a.id == b.id) && (a.addr.toList == b.addr.toList) && (a.prio == b.prio) && (a.zone.toList == b.zone.toList) && (a.weight == b.weight) && decide (a.tags = b.tags)) := by
  unfold sameH
  obtain ⟨a0, a1, a2, a3, a4, a5⟩ := a
  obtain ⟨b0, b1, b2, b3, b4, b5⟩ := b
  simp only [beq_str]
  rw [Bool.eq_iff_iff]
  simp only [HostT.mk.injEq, decide_eq_true_eq, Bool.and_eq_true, beq_iff_eq]
  constructor
  · rintro ⟨h0, h1, h2, h3, h4, h5⟩; exact ⟨⟨⟨⟨⟨h0, h1⟩, h2⟩, h3⟩, h4⟩, h5⟩
  · rintro ⟨⟨⟨⟨⟨h0, h1⟩, h2⟩, h3⟩, h4⟩, h5⟩; exact ⟨h0, h1, h2, h3, h4, h5⟩

end Go.Proofs.Ythmfmeibjpgokaa
