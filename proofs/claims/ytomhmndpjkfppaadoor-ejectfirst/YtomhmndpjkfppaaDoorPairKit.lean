/-
  Rows that the call makes and collects: they stand while the row that collects them grows; merged two by two. No program stands in it.
-/
import Derived.Test.YtomhmndpjkfppaaDoorRowsKit
namespace Go.Proofs.YtomhmndpjkfppaaDoor
open Go.RowKit Go.ChangeShapes

theorem IsKeys.blk_lt {w : World} {v : Value} {ks : Row} (h : IsKeys w v ks) (hne : ks ≠ []) : ∃ b, blk v = some b ∧ b < w.heap.size := by
  rcases h.2.2 with ⟨h0, _⟩ | ⟨_, b, off, cap, rfl, hlt, _⟩
  · exact absurd h0 hne
  · exact ⟨b, rfl, hlt⟩

/-- The rows H in the values vs, none of them in the block of o. -/
def Held (w : World) (o : Value) (vs : List Value) (H : List Row) : Prop :=
  vs.length = H.length ∧ ∀ j, j < H.length → IsKeys w (vs.getD j nilV) (H.getD j []) ∧ (H.getD j [] ≠ [] → blk (vs.getD j nilV) ≠ o.ownBlock)

theorem held_nil (w : World) (o : Value) : Held w o [] [] := ⟨rfl, fun j h => by simp at h⟩

theorem Held.below {w w' : World} {o : Value} {vs : List Value} {H : List Row} (h : Held w o vs H) (hb : Below w.heap.size w w') : Held w' o vs H :=
  ⟨h.1, fun j hj => ⟨(h.2 j hj).1.below hb, (h.2 j hj).2⟩⟩

theorem held_append {w w' : World} {o v' v : Value} {vs : List Value} {H : List Row} {r : Row} (h : Held w o vs H) (hg : w.grownBy w' o.ownBlock) (hat : v'.ownBlock = o.ownBlock ∨ v'.ownBlock = some w.heap.size)
    (hv : IsKeys w v r) (hvo : r ≠ [] → blk v ≠ o.ownBlock) : Held w' v' (vs ++ [v]) (H ++ [r]) := by
  have key : ∀ (u : Value) (q : Row), IsKeys w u q → (q ≠ [] → blk u ≠ o.ownBlock) → IsKeys w' u q ∧ (q ≠ [] → blk u ≠ v'.ownBlock) := fun u q hu hq =>
    ⟨hu.grown hg hq, fun hne => by
      rcases hat with h | h
      · rw [h]; exact hq hne
      · obtain ⟨b, hb, hlt⟩ := hu.blk_lt hne
        rw [h, hb]
        intro e
        simp at e
        omega⟩
  refine ⟨by simp [h.1], fun j hj => ?_⟩
  simp only [List.length_append, List.length_singleton] at hj
  rcases Nat.lt_or_ge j H.length with h1 | h1
  · rw [rows_getD_left _ _ _ _ h1, rows_getD_left _ _ _ _ (by rw [h.1]; exact h1)]; exact key _ _ (h.2 j h1).1 (h.2 j h1).2
  · have e : j = H.length := by omega
    subst e
    rw [rows_getD_last, ← h.1, rows_getD_last]; exact key _ _ hv hvo

theorem held_rows {w : World} {o : Value} {vs : List Value} {H : List Row} (h : Held w o vs H) (ho : IsRow 1 w o H.length vs) : IsRows w o vs H := ⟨h.1, ho, fun i hi => (h.2 i hi).1⟩

/-- What is owned from a base on lies there. -/
theorem own_blk {w : World} {base e sz n : Nat} {v : Value} {cs : List Value} (h : w.ownsRow base e sz v n cs) : ∀ b, blk v = some b → base ≤ b := by
  intro b hb
  rcases h.2 with ⟨rfl, _⟩ | ⟨g, cap, cur, rfl, hg, _⟩
  · simp [blk] at hb
  · simp [blk] at hb; omega

/-- H is R's first 2 k rows, merged two by two. -/
def Paired (R H : List Row) (k : Nat) : Prop := H.length = k ∧ (∀ r ∈ H, SortedK r) ∧ H.flatten.Perm (R.take (2 * k)).flatten

theorem paired_start (R : List Row) : Paired R [] 0 := ⟨rfl, by simp, by simp⟩

theorem rgetD {R : List Row} (i : Nat) (h : i < R.length) : R.getD i [] = R[i] := by simp [h]
theorem take_two {R : List Row} {k : Nat} (h : 2 * k + 1 < R.length) : R.take (2 * (k + 1)) = R.take (2 * k) ++ [R.getD (2 * k) [], R.getD (2 * k + 1) []] := by
  rw [show 2 * (k + 1) = 2 * k + 1 + 1 by omega, List.take_succ_eq_append_getElem h, List.take_succ_eq_append_getElem (by omega), rgetD _ h, rgetD _ (by omega), List.append_assoc]
  rfl

theorem paired_step {R H : List Row} {k : Nat} (h : Paired R H k) (hk : 2 * k + 1 < R.length) : Paired R (H ++ [sortV (R.getD (2 * k) [] ++ R.getD (2 * k + 1) [])]) (k + 1) := by
  obtain ⟨h1, h2, h3⟩ := h
  refine ⟨by simp [h1], fun r hr => ?_, ?_⟩
  · rcases List.mem_append.1 hr with h | h
    · exact h2 r h
    · rw [List.mem_singleton] at h; rw [h]; exact sortV_sorted _
  · rw [take_two hk, List.flatten_append, List.flatten_append]
    refine h3.append ?_
    simpa using sortV_perm (R.getD (2 * k) [] ++ R.getD (2 * k + 1) [])

theorem two_len {R : List Row} {k : Nat} (hk : 2 * k + 1 < R.length) : (R.getD (2 * k) []).length + (R.getD (2 * k + 1) []).length ≤ R.flatten.length := by
  have h := congrArg (fun l => (List.flatten l).length) (take_two hk)
  simp only [List.flatten_append, List.length_append] at h
  have h2 : R.flatten.length = (R.take (2 * (k + 1))).flatten.length + (R.drop (2 * (k + 1))).flatten.length := by
    rw [← List.length_append, ← List.flatten_append, List.take_append_drop]
  rw [h2, h]
  simp
  omega

theorem paired_even {R H : List Row} {k : Nat} (h : Paired R H k) (hk : R.length = 2 * k) : H.flatten.Perm R.flatten := by
  have := h.2.2
  rwa [List.take_of_length_le (by omega)] at this
theorem paired_odd {R H : List Row} {k : Nat} (h : Paired R H k) (hk : R.length = 2 * k + 1) : (H ++ [R.getD (2 * k) []]).flatten.Perm R.flatten := by
  have e : R = R.take (2 * k) ++ [R.getD (2 * k) []] := by
    rw [rgetD _ (by omega), ← List.take_succ_eq_append_getElem (by omega : 2 * k < R.length), List.take_of_length_le (by omega)]
  have h2 : R.flatten = (R.take (2 * k)).flatten ++ R.getD (2 * k) [] := by
    have := congrArg List.flatten e
    simpa using this
  rw [h2, List.flatten_append]
  simpa using h.2.2.append_right (R.getD (2 * k) [])

end Go.Proofs.YtomhmndpjkfppaaDoor
