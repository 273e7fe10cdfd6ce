/-
  A slice of numbers, place by place.
-/
import Derived.Test.YtomhmndpjkfppaaDoorRefConf
namespace Go.Proofs.YtomhmndpjkfppaaDoor
open Go.RowKit

theorem numsAt {w : World} {v : Value} {m : Nat} {n : List Int} (h : IsRow 1 w v m (n.map (Value.int .i64))) (h0 : 0 < m) :
    ∃ b off cap, v = .slice (some ⟨b, off, none⟩) m cap ∧ b < w.heap.size ∧ ∀ i, i < m → w.cell? ⟨b, off + i, none⟩ = some (.int .i64 (n.getD i 0)) := by
  obtain ⟨hl, _, h⟩ := h
  rcases h with ⟨h1, _⟩ | ⟨_, b, off, cap, rfl, hlt, hc⟩
  · omega
  · refine ⟨b, off, cap, rfl, hlt, fun i hi => ?_⟩
    have hi2 : i < n.length := by rw [List.length_map] at hl; omega
    rw [hc i (by omega)]
    simp [hi2]

end Go.Proofs.YtomhmndpjkfppaaDoor
