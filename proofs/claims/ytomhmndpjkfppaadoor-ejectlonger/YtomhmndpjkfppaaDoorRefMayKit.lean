/-
  The reference's table, row by row; texts compared.
-/
import Derived.Test.YtomhmndpjkfppaaDoorRefMadeKit
namespace Go.Proofs.YtomhmndpjkfppaaDoor
open Go.RowKit

theorem beqB (x s : ByteArray) : (x == s) = (x.toList == s.toList) := by
  rw [ByteArray.toList_eq, ByteArray.toList_eq]
  cases x with | mk a => cases s with | mk b =>
  show (a == b) = (a.toList == b.toList)
  rw [Bool.eq_iff_iff]
  simp
theorem flat4 {α : Type} (f : α → List Value) (hf : ∀ x, (f x).length = 4) (L : List α) (d : α) (i j : Nat) (hi : i < L.length) (hj : j < 4) : (L.flatMap f)[i * 4 + j]? = (f (L.getD i d))[j]? := by
  induction L generalizing i with
  | nil => simp at hi
  | cons x r ih =>
    rw [List.flatMap_cons]
    cases i with
    | zero =>
      rw [Nat.zero_mul, Nat.zero_add, List.getElem?_append_left (by rw [hf]; exact hj)]
      rfl
    | succ i =>
      rw [List.getElem?_append_right (by rw [hf]; omega), hf, show (i + 1) * 4 + j - 4 = i * 4 + j by omega, ih i (by simpa using hi)]
      rfl

theorem rowsAt {w : World} {ao : Option Addr} {n cap : Nat} (h : IsRow 4 w (.slice ao n cap) 23 rowsV) (i : Nat) (hi : i < 23) :
    ∃ b off, ao = some ⟨b, off, none⟩ ∧ b < w.heap.size ∧ w.cell? ⟨b, off + i * 4, none⟩ = some (.string (nameC i)) ∧ w.cell? ⟨b, off + i * 4 + 1, none⟩ = some (.int .i64 (lowC i)) ∧ w.cell? ⟨b, off + i * 4 + 2, none⟩ = some (.int .i64 (highC i)) ∧ w.cell? ⟨b, off + i * 4 + 3, none⟩ = some (.int .i64 (selfC i)) := by
  rcases h.2.2 with ⟨h0, _⟩ | ⟨_, b, off, c, e, hlt, hc⟩
  · omega
  · simp only [Value.slice.injEq] at e
    have hk : ∀ j, j < 4 → w.cell? ⟨b, off + i * 4 + j, none⟩ = ([.string (nameC i), .int .i64 (lowC i), .int .i64 (highC i), .int .i64 (selfC i)] : List Value)[j]? := fun j hj => by
      rw [Nat.add_assoc, hc (i * 4 + j) (by omega)]
      exact flat4 _ (fun _ => rfl) tabC ([], 0, 0, 0) i j (by rw [tabC_length]; exact hi) hj
    exact ⟨b, off, e.1, hlt, hk 0 (by omega), hk 1 (by omega), hk 2 (by omega), hk 3 (by omega)⟩

theorem infoInt0 : (Tryd.prog.info? 3).map (fun i => (i.zero, i.size, i.bytes)) = some (some (.int .i64 0), 1, 8) := by kernel_rfl
end Go.Proofs.YtomhmndpjkfppaaDoor
