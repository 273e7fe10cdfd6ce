/-
  How a slice of keys (structs of two numbers) lies in memory. No program stands in it.
-/
import Derived.Test.YtelpdmaphmfkiaaRowKit
import Derived.Test.YtelpdmaphmfkiaaOrderPlain
namespace Go.Proofs.Ytelpdmaphmfkiaa
open Go.RowKit Go.ChangeShapes

def kval (k : Int × Int) : Value := .agg #[.int .i64 k.1, .int .i64 k.2]
def inK (k : Int × Int) : Prop := (-9223372036854775808 ≤ k.1 ∧ k.1 ≤ 9223372036854775807) ∧ (-9223372036854775808 ≤ k.2 ∧ k.2 ≤ 9223372036854775807)
def keyCells (ks : List (Int × Int)) : List Value := ks.flatMap fun k => [.int .i64 k.1, .int .i64 k.2]

/-- A slice value that holds the keys ks. -/
def IsKeys (w : World) (v : Value) (ks : List (Int × Int)) : Prop :=
  (∀ k ∈ ks, inK k) ∧ (ks.length ≤ 4611686018427387903 ∧ roomy v) ∧
  ((ks = [] ∧ ∃ ao cap, v = .slice ao 0 cap ∧ (ao = none → cap = 0)) ∨ (ks ≠ [] ∧ ∃ b off cap, v = .slice (some ⟨b, off, none⟩) ks.length cap ∧ b < w.heap.size ∧
    ∀ i, i < ks.length → w.cell? ⟨b, off + i * 2, none⟩ = some (.int .i64 (ks.getD i (0, 0)).1) ∧ w.cell? ⟨b, off + i * 2 + 1, none⟩ = some (.int .i64 (ks.getD i (0, 0)).2)))

theorem IsKeys.below {w w' : World} {v : Value} {ks : List (Int × Int)} (h : IsKeys w v ks) (hb : Below w.heap.size w w') : IsKeys w' v ks := by
  obtain ⟨h1, h2, h3⟩ := h
  refine ⟨h1, h2, ?_⟩
  rcases h3 with h3 | ⟨h3, b, off, cap, rfl, hlt, hc⟩
  · exact .inl h3
  · exact .inr ⟨h3, b, off, cap, rfl, Nat.lt_of_lt_of_le hlt hb.size, fun i hi => ⟨(hb.cell (p := ⟨b, off + i * 2, none⟩) hlt).trans (hc i hi).1, (hb.cell (p := ⟨b, off + i * 2 + 1, none⟩) hlt).trans (hc i hi).2⟩⟩

theorem isKeys_nil (w : World) : IsKeys w (.slice none 0 0) [] := ⟨by simp, ⟨by simp, by unfold roomy maxLen; omega⟩, .inl ⟨rfl, _, _, rfl, fun _ => rfl⟩⟩

theorem IsKeys.shape {w : World} {v : Value} {ks : List (Int × Int)} (h : IsKeys w v ks) : ∃ ao cap, v = .slice ao ks.length cap := by
  rcases h.2.2 with ⟨rfl, ao, cap, rfl, _⟩ | ⟨_, b, off, cap, rfl, _⟩
  · exact ⟨ao, cap, rfl⟩
  · exact ⟨_, cap, rfl⟩

theorem kbd {ks : List (Int × Int)} (h : ∀ k ∈ ks, inK k) (i : Nat) (hi : i < ks.length) : inK (ks.getD i (0, 0)) := by
  rw [kgetD i hi]; exact h _ (List.getElem_mem hi)

theorem keyCells_length (ks : List (Int × Int)) : (keyCells ks).length = ks.length * 2 := by
  induction ks with
  | nil => rfl
  | cons k r ih => simp [keyCells] at ih ⊢; omega
theorem keyCells_append (a b : List (Int × Int)) : keyCells (a ++ b) = keyCells a ++ keyCells b := by simp [keyCells]
theorem keyCells_at (ks : List (Int × Int)) (i : Nat) (h : i < ks.length) : (keyCells ks)[i * 2]? = some (.int .i64 (ks.getD i (0, 0)).1) ∧ (keyCells ks)[i * 2 + 1]? = some (.int .i64 (ks.getD i (0, 0)).2) := by
  induction ks generalizing i with
  | nil => simp at h
  | cons k r ih =>
    have e : keyCells (k :: r) = .int .i64 k.1 :: .int .i64 k.2 :: keyCells r := rfl
    cases i with
    | zero => exact ⟨rfl, rfl⟩
    | succ i =>
      have := ih i (by simpa using h)
      rw [e, show (i + 1) * 2 = i * 2 + 2 by omega]
      simpa using this

/-- What the call owns, as a slice of keys. -/
theorem isKeys_own {w : World} {base e n : Nat} {v : Value} {ks : List (Int × Int)} (h : w.ownsRow base e 2 v n (keyCells ks)) (hn : n = ks.length) (hl : ks.length ≤ 4611686018427387903)
    (hk : ∀ k ∈ ks, inK k) : IsKeys w v ks := by
  subst hn
  refine ⟨hk, ⟨hl, (isRow_own h).2.1.2⟩, ?_⟩
  have ho := h
  rcases h.2 with ⟨rfl, h0⟩ | ⟨g, cap, cur, rfl, _, hg, _⟩
  · exact .inl ⟨List.eq_nil_of_length_eq_zero h0, _, _, rfl, fun _ => rfl⟩
  · by_cases e0 : ks = []
    · subst e0
      exact .inl ⟨rfl, _, _, rfl, fun h => by cases h⟩
    · refine .inr ⟨e0, g, 0, cap, rfl, (Array.getElem?_eq_some_iff.1 hg).1, fun i hi => ?_⟩
      have := keyCells_at ks i hi
      have hl2 := keyCells_length ks
      rw [Nat.zero_add, ho.cellAt (i * 2) (by omega), ho.cellAt (i * 2 + 1) (by omega)]
      exact this

theorem keyCells_one (ks : List (Int × Int)) : ∀ u ∈ keyCells ks, u.oneCell' = true := by
  intro u hu
  simp [keyCells] at hu
  obtain ⟨a, b, _, h | h⟩ := hu <;> subst h <;> rfl

theorem IsKeys.row {w : World} {v : Value} {ks : List (Int × Int)} (h : IsKeys w v ks) : IsRow 2 w v ks.length (keyCells ks) := by
  refine ⟨keyCells_length ks, ⟨by unfold maxLen; have := h.2.1.1; omega, h.2.1.2⟩, ?_⟩
  rcases h.2.2 with ⟨rfl, h'⟩ | ⟨hne, b, off, cap, rfl, hlt, hc⟩
  · exact .inl ⟨rfl, h'⟩
  · refine .inr ⟨List.length_pos_iff.2 hne, b, off, cap, rfl, hlt, fun j hj => ?_⟩
    obtain ⟨i, hi | hi⟩ : ∃ i, j = i * 2 ∨ j = i * 2 + 1 := ⟨j / 2, by omega⟩
    · subst hi
      rw [(hc i (by omega)).1, (keyCells_at ks i (by omega)).1]
    · subst hi
      rw [← Nat.add_assoc, (hc i (by omega)).2, (keyCells_at ks i (by omega)).2]

theorem IsRow.keys {w : World} {v : Value} {ks : List (Int × Int)} (h : IsRow 2 w v ks.length (keyCells ks)) (hk : ∀ k ∈ ks, inK k) (hl : ks.length ≤ 4611686018427387903) : IsKeys w v ks := by
  refine ⟨hk, ⟨hl, h.2.1.2⟩, ?_⟩
  rcases h.2.2 with ⟨h0, h⟩ | ⟨hp, b, off, cap, rfl, hlt, hc⟩
  · exact .inl ⟨List.eq_nil_of_length_eq_zero h0, h⟩
  · refine .inr ⟨List.length_pos_iff.1 hp, b, off, cap, rfl, hlt, fun i hi => ⟨?_, ?_⟩⟩
    · rw [hc (i * 2) (by omega), (keyCells_at ks i hi).1]
    · rw [Nat.add_assoc, hc (i * 2 + 1) (by omega), (keyCells_at ks i hi).2]

/-- One key, laid down by the call. -/
theorem one_key (w : World) (k : Int × Int) (t g : Nat) (hg : g = w.heap.size) : IsRow 2 (w.alloc (.cells #[.int .i64 k.1, .int .i64 k.2] t)) (.slice (some ⟨g, 0, none⟩) 1 1) 1 (keyCells [k]) := by
  subst hg
  exact IsRow.fresh w (keyCells [k]) 2 1 t 1 rfl (by omega) (by unfold maxLen; omega) (by omega)

theorem keyCells_take {ks : List (Int × Int)} {k : Nat} (h : k < ks.length) : keyCells (ks.take (k + 1)) = keyCells (ks.take k) ++ keyCells [ks.getD k (0, 0)] := by
  rw [← keyCells_append, kgetD k h, List.take_succ_eq_append_getElem h]

/-- What the call owns stands while what was there stands. -/
theorem own_below {w w' : World} {base e sz n : Nat} {v : Value} {cs : List Value} (h : w.ownsRow base e sz v n cs) (hb : Below w.heap.size w w') : w'.ownsRow base e sz v n cs := by
  refine ⟨h.1, ?_⟩
  rcases h.2 with h | ⟨g, cap, cur, h1, h2, h3, h4⟩
  · exact .inl h
  · exact .inr ⟨g, cap, cur, h1, h2, (hb.block g (Array.getElem?_eq_some_iff.1 h3).1).trans h3, h4⟩

/-- A key stored at place i of what the call owns. -/
theorem own_store {w : World} {base e g cap n : Nat} {ks : List (Int × Int)} (h : w.ownsRow base e 2 (.slice (some ⟨g, 0, none⟩) n cap) n (keyCells ks)) (i : Nat) (k : Int × Int) :
    ((w.setCell ⟨g, i * 2, none⟩ (.int .i64 k.1)).setCell ⟨g, i * 2 + 1, none⟩ (.int .i64 k.2)).ownsRow base e 2 (.slice (some ⟨g, 0, none⟩) n cap) n (keyCells (ks.set i k)) := by
  have h1 := ((h.stored (i * 2) (.int .i64 k.1)).1.stored (i * 2 + 1) (.int .i64 k.2)).1
  have e : ((keyCells ks).set (i * 2) (.int .i64 k.1)).set (i * 2 + 1) (.int .i64 k.2) = keyCells (ks.set i k) := by
    clear h h1
    induction ks generalizing i with
    | nil => rfl
    | cons x r ih =>
      cases i with
      | zero => rfl
      | succ i =>
        have e2 : (i + 1) * 2 = i * 2 + 2 := by omega
        have := ih i
        simp only [keyCells, List.flatMap_cons, List.cons_append, List.nil_append, e2, List.set_cons_succ] at this ⊢
        rw [this]
  rw [e] at h1
  exact h1

/-- The place of a key that the call owns. -/
theorem own_key {w : World} {base e g cap n : Nat} {ks : List (Int × Int)} (h : w.ownsRow base e 2 (.slice (some ⟨g, 0, none⟩) n cap) n (keyCells ks)) (i : Nat) (hi : i < ks.length) :
    w.cell? ⟨g, i * 2, none⟩ = some (.int .i64 (ks.getD i (0, 0)).1) ∧ w.cell? ⟨g, i * 2 + 1, none⟩ = some (.int .i64 (ks.getD i (0, 0)).2) := by
  have hl := keyCells_length ks
  have hn : n * 2 = ks.length * 2 := by rw [← hl]; exact h.1.symm
  rw [h.cellAt (i * 2) (by omega), h.cellAt (i * 2 + 1) (by omega)]
  exact keyCells_at ks i hi

/-- A row with a hole at i: L with h between. -/
def holed (L : List (Int × Int)) (i : Nat) (h : Int × Int) : List (Int × Int) := L.take i ++ h :: L.drop i
theorem holed_length (L : List (Int × Int)) (i : Nat) (h : Int × Int) (hi : i ≤ L.length) : (holed L i h).length = L.length + 1 := by unfold holed; simp; omega
theorem holed_set (L : List (Int × Int)) (i : Nat) (h k : Int × Int) (hi : i ≤ L.length) : (holed L i h).set i k = holed L i k := by
  unfold holed
  rw [List.set_append_right _ _ (by simp; omega)]
  have : i - (L.take i).length = 0 := by simp; omega
  rw [this]; rfl
theorem holed_before (L : List (Int × Int)) (i : Nat) (h : Int × Int) (hi : i + 1 ≤ L.length) : (holed L (i + 1) h).getD i (0, 0) = L.getD i (0, 0) := by
  unfold holed
  have h1 : i < (L.take (i + 1)).length := by simp; omega
  rw [List.getD_eq_getElem?_getD, List.getElem?_append_left h1, List.getElem?_take, if_pos (by omega), List.getD_eq_getElem?_getD]
theorem holed_move (L : List (Int × Int)) (i : Nat) (hi : i + 1 ≤ L.length) : holed L (i + 1) (L.getD i (0, 0)) = holed L i (L.getD i (0, 0)) := by
  unfold holed
  have h1 : i < L.length := by omega
  rw [kgetD i h1, List.take_succ_eq_append_getElem h1, List.append_assoc, List.drop_eq_getElem_cons h1]
  rfl
theorem holed_end (L : List (Int × Int)) (h : Int × Int) : L ++ [h] = holed L L.length h := by unfold holed; simp
theorem holed_perm (L : List (Int × Int)) (i : Nat) (h : Int × Int) : (holed L i h).Perm (L ++ [h]) := by
  unfold holed
  refine List.perm_middle.trans ?_
  rw [List.take_append_drop]
  exact (List.perm_append_singleton h L).symm
theorem holed_sorted (L : List (Int × Int)) (i : Nat) (x : Int × Int) (hi : i ≤ L.length) (hs : SortedK L) (h1 : ∀ j, i ≤ j → j < L.length → ltK x (L.getD j (0, 0)) = true)
    (h2 : i = 0 ∨ ltK x (L.getD (i - 1) (0, 0)) = false) : SortedK (holed L i x) := by
  unfold holed
  have hsp : SortedK (L.take i ++ L.drop i) := by rw [List.take_append_drop]; exact hs
  obtain ⟨s1, s2, s3⟩ := List.pairwise_append.1 hsp
  have hx1 : ∀ a ∈ L.take i, leK a x = true := by
    intro a ha
    obtain ⟨j, hj, rfl⟩ := List.getElem_of_mem ha
    have hj' : j < i ∧ j < L.length := by simp at hj; omega
    rw [List.getElem_take]
    rcases h2 with h2 | h2
    · omega
    · have hb := leK_of_not h2
      rw [kgetD (i - 1) (by omega)] at hb
      rcases Nat.lt_or_ge j (i - 1) with h | h
      · exact leK_trans _ _ _ (List.pairwise_iff_getElem.1 hs j (i - 1) hj'.2 (by omega) h) hb
      · have e : j = i - 1 := by omega
        subst e; exact hb
  have hx2 : ∀ b ∈ L.drop i, leK x b = true := by
    intro b hb
    obtain ⟨j, hj, rfl⟩ := List.getElem_of_mem hb
    rw [List.getElem_drop]
    have hj' : i + j < L.length := by simp at hj; omega
    have := h1 (i + j) (by omega) hj'
    rw [kgetD _ hj'] at this
    exact leK_of_ltK this
  refine List.pairwise_append.2 ⟨s1, List.pairwise_cons.2 ⟨hx2, s2⟩, fun a ha b hb => ?_⟩
  rcases List.mem_cons.1 hb with rfl | hb
  · exact hx1 a ha
  · exact s3 a ha b hb

theorem holed_at (L : List (Int × Int)) (i : Nat) (h : Int × Int) (hi : i ≤ L.length) : (holed L i h).getD i (0, 0) = h := by
  unfold holed
  have h1 : (L.take i).length = i := by simp; omega
  rw [List.getD_eq_getElem?_getD, List.getElem?_append_right (by omega), h1, Nat.sub_self]
  rfl

end Go.Proofs.Ytelpdmaphmfkiaa
