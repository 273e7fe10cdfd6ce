/-
  The plain mathematics of chapter 6, further: the words of a text's lines; the run over lines, step by step. No program stands in it.
-/
import Derived.Test.YtkninlahlgipoaaDoorConfMath2
namespace Go.Proofs.YtkninlahlgipoaaDoor

theorem goL_piece (c : Int) (cur l : List UInt8) : ∀ d ∈ goL c cur l, d.length ≤ cur.length + l.length := by
  induction l generalizing cur with
  | nil => intro d hd; simp only [goL, List.mem_singleton] at hd; subst hd; simp
  | cons b r ih =>
    intro d hd
    rw [goL] at hd
    split at hd
    · rcases List.mem_cons.1 hd with rfl | h
      · simp
      · have := ih [] d h
        simp only [List.length_cons, List.length_nil] at this ⊢
        omega
    · have := ih _ d hd
      simp only [List.length_append, List.length_cons, List.length_nil] at this ⊢
      omega
theorem parts_size (s : ByteArray) (c : Int) : ∀ p ∈ partsV s c, p.size ≤ s.size := by
  intro p hp
  simp only [partsV, List.mem_map] at hp
  obtain ⟨d, hd, rfl⟩ := hp
  have := goL_piece c [] _ d hd
  have hl : s.data.toList.length = s.size := rfl
  rw [mkS_data']
  simp only [List.length_nil] at this
  omega
theorem words_size (p : ByteArray) : ∀ x ∈ wordsOf p, x.size ≠ 0 ∧ x.size ≤ p.size := by
  intro x hx
  simp only [wordsOf, List.mem_filter, decide_eq_true_eq] at hx
  refine ⟨hx.2, ?_⟩
  have h1 := parts_size _ _ x hx.1
  have h2 : (cutH p.data.toList).length ≤ p.data.toList.length := (List.takeWhile_sublist _).length_le
  have hl : p.data.toList.length = p.size := rfl
  rw [mkS_data'] at h1
  omega
theorem lines_words (i : Nat) (P : List ByteArray) : ∀ l ∈ linesOf i P, ∃ p ∈ P, l.2 = wordsOf p := by
  induction P generalizing i with
  | nil => intro l hl; simp [linesOf] at hl
  | cons p r ih =>
    intro l hl
    simp only [linesOf, List.mem_append] at hl
    rcases hl with h | h
    · split at h
      · simp at h
      · simp only [List.mem_singleton] at h
        subst h
        exact ⟨p, by simp, rfl⟩
    · obtain ⟨q, hq, e⟩ := ih (i + 1) l h
      exact ⟨q, by simp [hq], e⟩
theorem split_words (s : ByteArray) : ∀ l ∈ (splitV s).1, (∀ x ∈ l.2, x.size ≠ 0 ∧ x.size ≤ 4000) ∧ 1 ≤ l.1 ∧ l.1 ≤ 4001 := by
  intro l hl
  have hn := split_no s
  unfold splitV at hl hn
  split at hl
  · simp at hl
  · rename_i hs
    rw [if_neg hs] at hn
    cases hf : (partsV s 10).findIdx? (fun p => !lineOK p) with
    | some i => rw [hf] at hl; simp at hl
    | none =>
      rw [hf] at hl hn
      simp only at hl hn
      refine ⟨?_, ?_⟩
      · obtain ⟨p, hp, e⟩ := lines_words 0 _ l hl
        intro x hx
        rw [e] at hx
        have h1 := words_size p x hx
        have h2 := parts_size s 10 p hp
        exact ⟨h1.1, by omega⟩
      · rcases hn with ⟨_, _, h⟩ | ⟨h, _⟩
        · exact h l hl
        · simp at h

/-- The run over the lines from the k-th on. -/
theorem runC_at (r : Read) (L : List (Int × List ByteArray)) (k : Nat) (hk : k < L.length) : runC r (L.drop k) = match stepC r (L.getD k (0, [])).2 with
    | none => .inr (L.getD k (0, [])).1
    | some r' => runC r' (L.drop (k + 1)) := by
  have e : L.getD k (0, []) = L[k] := by simp [hk]
  rw [List.drop_eq_getElem_cons hk, runC, e]
  cases stepC r L[k].2 <;> rfl
theorem runC_end (r : Read) (L : List (Int × List ByteArray)) (k : Nat) (hk : L.length ≤ k) : runC r (L.drop k) = .inl r := by
  rw [List.drop_of_length_le hk]; rfl
theorem step_seenlen {r r' : Read} {ws : List ByteArray} (h : stepC r ws = some r') : r'.seen.length = r.seen.length := by
  rw [stepC_words] at h
  cases hw : wordsC ws with
  | none => rw [hw] at h; simp at h
  | some p =>
    obtain ⟨i, k, z⟩ := p
    rw [hw] at h
    simp only at h
    split at h
    · simp at h
    · simp only [Option.some.injEq] at h; subst h; simp

end Go.Proofs.YtkninlahlgipoaaDoor
