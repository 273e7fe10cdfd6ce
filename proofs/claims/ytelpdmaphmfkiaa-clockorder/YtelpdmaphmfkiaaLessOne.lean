/-
  The contract of package order's Less.
-/
import Derived.Test.YtelpdmaphmfkiaaKeyCut
namespace Go.Proofs.Ytelpdmaphmfkiaa
open Go.RowKit

set_option maxHeartbeats 1000000 in
theorem less_any (k l : Int × Int) (w : World) :
    Calls Try.prog 33 #[kval k, kval l] w fun e w' => e = .returned (.bool (ltK k l)) ∧ Below w.heap.size w w' := by
  unfold kval
  obtain ⟨a, b⟩ := k
  obtain ⟨c, d⟩ := l
  by_cases h2 : a = c
  · subst h2
    have hl : ltK (a, b) (a, d) = decide (b < d) := by unfold ltK; simp
    go_enter Try.func33, Try.ntmps33
    go_wp2
    go_ret
    exact ⟨ret_bool hl.symm, ((Below.refl _ _).alloc (Nat.le_refl _) _).alloc (by simp) _⟩
  · have hl : ltK (a, b) (c, d) = decide (a < c) := by unfold ltK; simp [h2]
    go_enter Try.func33, Try.ntmps33
    go_wp2
    go_ret
    exact ⟨ret_bool hl.symm, ((Below.refl _ _).alloc (Nat.le_refl _) _).alloc (by simp) _⟩

end Go.Proofs.Ytelpdmaphmfkiaa
