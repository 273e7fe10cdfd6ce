/-
  How a slice of rows of keys ([][]order.Key) lies in memory; its plain mathematics. No program stands in it.
-/
import Derived.Test.YtomhmndpjkfppaaDoorMergePlain
namespace Go.Proofs.YtomhmndpjkfppaaDoor
open Go.RowKit Go.ChangeShapes

abbrev Row := List (Int × Int)
abbrev nilV : Value := .slice none 0 0

/-- The block that a slice lies in. -/
def blk : Value → Option Nat
  | .slice (some a) _ _ => some a.block
  | _ => none

theorem IsKeys.one {w : World} {v : Value} {ks : Row} (h : IsKeys w v ks) : v.oneCell' = true := by
  obtain ⟨ao, cap, rfl⟩ := h.shape
  rfl

/-- A row stands while another block grows. -/
theorem IsKeys.grown {w w' : World} {v : Value} {ks : Row} {o : Option Nat} (h : IsKeys w v ks) (hg : w.grownBy w' o) (hne : ks ≠ [] → blk v ≠ o) : IsKeys w' v ks := by
  obtain ⟨h1, h2, h3⟩ := h
  refine ⟨h1, h2, ?_⟩
  rcases h3 with h3 | ⟨h3, b, off, cap, rfl, hlt, hc⟩
  · exact .inl h3
  · have hb : some b ≠ o := hne h3
    refine .inr ⟨h3, b, off, cap, rfl, Nat.lt_of_lt_of_le hlt hg.size, fun i hi => ⟨?_, ?_⟩⟩
    · rw [hg.cell_far _ hlt hb]; exact (hc i hi).1
    · rw [hg.cell_far _ hlt hb]; exact (hc i hi).2

/-- A slice value that holds the rows R: the values vs, each a row of keys. -/
def IsRows (w : World) (v : Value) (vs : List Value) (R : List Row) : Prop :=
  vs.length = R.length ∧ IsRow 1 w v R.length vs ∧ ∀ i, i < R.length → IsKeys w (vs.getD i nilV) (R.getD i [])

theorem IsRows.below {w w' : World} {v : Value} {vs : List Value} {R : List Row} (h : IsRows w v vs R) (hb : Below w.heap.size w w') : IsRows w' v vs R :=
  ⟨h.1, h.2.1.below hb, fun i hi => (h.2.2 i hi).below hb⟩

theorem IsRows.shape {w : World} {v : Value} {vs : List Value} {R : List Row} (h : IsRows w v vs R) : ∃ ao cap, v = .slice ao R.length cap := by
  rcases h.2.1.2.2 with ⟨h0, ao, cap, rfl, _⟩ | ⟨_, b, off, cap, rfl, _⟩
  · exact ⟨ao, cap, by rw [h0]⟩
  · exact ⟨_, cap, rfl⟩

theorem IsRows.at {w : World} {ao : Option Addr} {n cap : Nat} {vs : List Value} {R : List Row} (h : IsRows w (.slice ao n cap) vs R) (i : Nat) (hi : i < R.length) :
    ∃ b off, ao = some ⟨b, off, none⟩ ∧ b < w.heap.size ∧ w.cell? ⟨b, off + i, none⟩ = some (vs.getD i nilV) := by
  rcases h.2.1.2.2 with ⟨h0, _⟩ | ⟨_, b, off, c, e, hlt, hc⟩
  · omega
  · simp only [Value.slice.injEq] at e
    refine ⟨b, off, e.1, hlt, ?_⟩
    have hv : i < vs.length := by rw [h.1]; exact hi
    rw [hc i (by omega), List.getElem?_eq_getElem hv]
    simp [hv]

/-- One row, laid down by the call. -/
theorem one_row (w : World) (v : Value) (t g : Nat) (hg : g = w.heap.size) : IsRow 1 (w.alloc (.cells #[v] t)) (.slice (some ⟨g, 0, none⟩) 1 1) 1 [v] := by
  subst hg
  exact IsRow.fresh w [v] 1 1 t 1 rfl (by omega) (by unfold maxLen; omega) (by omega)

theorem rows_getD_left {α : Type} (a b : List α) (d : α) (i : Nat) (h : i < a.length) : (a ++ b).getD i d = a.getD i d := by
  rw [List.getD_eq_getElem?_getD, List.getElem?_append_left h, List.getD_eq_getElem?_getD]
theorem rows_getD_last {α : Type} (a : List α) (x d : α) : (a ++ [x]).getD a.length d = x := by
  rw [List.getD_eq_getElem?_getD, List.getElem?_append_right (Nat.le_refl _), Nat.sub_self]
  rfl

/-- One value more. -/
theorem each_snoc {w : World} {vs : List Value} {R : List Row} {v : Value} {r : Row} (hl : vs.length = R.length) (h : ∀ i, i < R.length → IsKeys w (vs.getD i nilV) (R.getD i [])) (hv : IsKeys w v r) :
    ∀ i, i < (R ++ [r]).length → IsKeys w ((vs ++ [v]).getD i nilV) ((R ++ [r]).getD i []) := by
  intro i hi
  simp only [List.length_append, List.length_singleton] at hi
  rcases Nat.lt_or_ge i R.length with h1 | h1
  · rw [rows_getD_left _ _ _ _ h1, rows_getD_left _ _ _ _ (by omega)]; exact h i h1
  · have e : i = R.length := by omega
    subst e
    rw [rows_getD_last, ← hl, rows_getD_last]; exact hv

/-- Rows that are cut out of ks: sorted, none of nothing. -/
def Cut (ks : Row) (R : List Row) (L : Row) : Prop := R.flatten ++ L = ks ∧ (∀ r ∈ R, SortedK r) ∧ R.length + L.length ≤ ks.length

theorem cut_start (ks : Row) : Cut ks [] ks := ⟨by simp, by simp, by simp⟩
theorem cut_step {ks L : Row} {R : List Row} {k : Nat} (h : Cut ks R L) (hk : 0 < k) (hl : k ≤ L.length) (hs : SortedK (L.take k)) : Cut ks (R ++ [L.take k]) (L.drop k) := by
  obtain ⟨h1, h2, h3⟩ := h
  refine ⟨?_, fun r hr => ?_, by simp; omega⟩
  · rw [List.flatten_append, List.append_assoc]; simpa using h1
  · rcases List.mem_append.1 hr with h | h
    · exact h2 r h
    · rw [List.mem_singleton] at h; rw [h]; exact hs

theorem sorted_take_next {L : Row} {k : Nat} (h : SortedK (L.take (k + 1))) (hk : k + 1 < L.length) (hlt : ltK (L.getD (k + 1) (0, 0)) (L.getD k (0, 0)) = false) : SortedK (L.take (k + 1 + 1)) := by
  rw [List.take_succ_eq_append_getElem hk]
  refine List.pairwise_append.2 ⟨h, List.pairwise_singleton _ _, fun a ha b hb => ?_⟩
  rw [List.mem_singleton] at hb
  subst hb
  rw [kgetD _ hk, kgetD _ (by omega)] at hlt
  have h1 := leK_of_not hlt
  rw [List.take_succ_eq_append_getElem (by omega : k < L.length)] at h ha
  obtain ⟨_, _, h3⟩ := List.pairwise_append.1 h
  rcases List.mem_append.1 ha with ha | ha
  · exact leK_trans _ _ _ (h3 a ha _ (by simp)) h1
  · rw [List.mem_singleton] at ha; rw [ha]; exact h1

theorem sorted_take_one (L : Row) : SortedK (L.take 1) := by
  cases L with
  | nil => exact List.Pairwise.nil
  | cons x r => simp

end Go.Proofs.YtomhmndpjkfppaaDoor
