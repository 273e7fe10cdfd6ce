/-
  Contracts of package order: Less, Rising.
-/
import Derived.Test.YtomhmndpjkfppaaDoorKeyCut
namespace Go.Proofs.YtomhmndpjkfppaaDoor
open Go.RowKit

set_option maxRecDepth 100000 in
set_option maxHeartbeats 1000000 in
theorem less_any (k l : Int × Int) (w : World) :
    Calls Tryd.prog 37 #[kval k, kval l] w fun e w' => e = .returned (.bool (ltK k l)) ∧ Below w.heap.size w w' := by
  unfold kval
  obtain ⟨a, b⟩ := k
  obtain ⟨c, d⟩ := l
  by_cases h2 : a = c
  · subst h2
    have hl : ltK (a, b) (a, d) = decide (b < d) := by unfold ltK; simp
    go_enter Tryd.func37, Tryd.ntmps37
    go_wp2
    go_ret
    exact ⟨ret_bool hl.symm, ((Below.refl _ _).alloc (Nat.le_refl _) _).alloc (by simp) _⟩
  · have hl : ltK (a, b) (c, d) = decide (a < c) := by unfold ltK; simp [h2]
    go_enter Tryd.func37, Tryd.ntmps37
    go_wp2
    go_ret
    exact ⟨ret_bool hl.symm, ((Below.refl _ _).alloc (Nat.le_refl _) _).alloc (by simp) _⟩

theorem rising_true {l : List (Int × Int)} {k : Nat} (h : ∀ j, j + 1 < k → j + 1 < l.length → ltK (l.getD j (0, 0)) (l.getD (j + 1) (0, 0)) = true) (hk : l.length ≤ k) : risingV l = true := by
  unfold risingV
  rw [List.all_eq_true]
  intro i hi
  have := List.mem_range.1 hi
  exact h i (by omega) (by omega)
theorem rising_false {l : List (Int × Int)} {k : Nat} (hk : k + 1 < l.length) (h : ltK (l.getD k (0, 0)) (l.getD (k + 1) (0, 0)) = false) : risingV l = false := by
  unfold risingV
  rw [List.all_eq_false]
  exact ⟨k, List.mem_range.2 (by omega), by simp only [h]; decide⟩


end Go.Proofs.YtomhmndpjkfppaaDoor
