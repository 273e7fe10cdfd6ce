/-
  Lemmas on lines and words that the contracts of both sides use.
-/
import Derived.Test.YtomhmndpjkfppaaDoorBase
import Derived.Test.YtomhmndpjkfppaaDoorRefParts
import Derived.OwnWalk
namespace Go.Proofs.YtomhmndpjkfppaaDoor
open Go.RowKit

/-- The words among the first k parts. -/
def wordsTo (Q : List ByteArray) (k : Nat) : List ByteArray := (Q.take k).filter fun s => decide (s.size ≠ 0)
theorem wordsTo_next (Q : List ByteArray) (k : Nat) (h : k < Q.length) : wordsTo Q (k + 1) = wordsTo Q k ++ if (Q.getD k ByteArray.empty).size = 0 then [] else [Q.getD k ByteArray.empty] := by
  unfold wordsTo
  rw [List.take_succ_eq_append_getElem h, List.filter_append]
  have e : Q.getD k ByteArray.empty = Q[k] := by simp [h]
  rw [e]
  by_cases h0 : Q[k].size = 0
  · have hd : decide (Q[k].size ≠ 0) = false := decide_eq_false fun h => h h0
    rw [if_pos h0, List.filter_cons, hd]
    rfl
  · have hd : decide (Q[k].size ≠ 0) = true := decide_eq_true h0
    rw [if_neg h0, List.filter_cons, hd]
    rfl
theorem wordsTo_length (Q : List ByteArray) (k : Nat) : (wordsTo Q k).length ≤ k := by
  unfold wordsTo
  refine Nat.le_trans (List.length_filter_le _ _) ?_
  rw [List.length_take]; omega
theorem empty_size (x : ByteArray) (h : x.size = 0) : (x.toList == []) = true := by
  rw [ByteArray.toList_eq, List.eq_nil_of_length_eq_zero (show x.data.toList.length = 0 from h)]; rfl
theorem nonempty_size (x : ByteArray) (h : x.size ≠ 0) : (x.toList == []) = false := by
  rw [ByteArray.toList_eq, beq_eq_false_iff_ne]
  intro e
  exact h (show x.data.toList.length = 0 by rw [e]; rfl)

end Go.Proofs.YtomhmndpjkfppaaDoor
