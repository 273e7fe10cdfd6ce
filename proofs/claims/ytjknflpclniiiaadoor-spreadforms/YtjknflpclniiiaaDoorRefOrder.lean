/-
  Contracts of the reference's answers to chapter 3 (Less, Sort) and of the statements' own functions (same, keys).
-/
import Derived.Test.YtjknflpclniiiaaDoorBase
import Derived.Test.YtjknflpclniiiaaDoorChecked
import Derived.WalkSmall
namespace Go.Proofs.YtjknflpclniiiaaDoor
open Go.RowKit

set_option maxRecDepth 100000 in
set_option maxHeartbeats 1000000 in
theorem refLess_any (k l : Int × Int) (w : World) :
    Calls Tryd.prog 48 #[kval k, kval l] w fun e w' => e = .returned (.bool (ltK k l)) ∧ Below w.heap.size w w' := by
  unfold kval
  obtain ⟨a, b⟩ := k
  obtain ⟨c, d⟩ := l
  by_cases h1 : a < c
  · have hl : ltK (a, b) (c, d) = true := by rw [ltK_iff]; exact .inl h1
    go_enter Tryd.func48, Tryd.ntmps48
    go_wp2
    go_ret
    exact ⟨ret_bool (by rw [hl]), ((Below.refl _ _).alloc (Nat.le_refl _) _).alloc (by simp) _⟩
  · by_cases h2 : a = c
    · subst h2
      have hl : ltK (a, b) (a, d) = decide (b < d) := by unfold ltK; simp
      go_enter Tryd.func48, Tryd.ntmps48
      go_wp2
      go_ret
      exact ⟨rfl, ((Below.refl _ _).alloc (Nat.le_refl _) _).alloc (by simp) _⟩
    · have hl : ltK (a, b) (c, d) = false := by unfold ltK; simp [h2]; omega
      go_enter Tryd.func48, Tryd.ntmps48
      go_wp2
      go_ret
      exact ⟨rfl, ((Below.refl _ _).alloc (Nat.le_refl _) _).alloc (by simp) _⟩

theorem take_same {ks js : List (Int × Int)} {k : Nat} (h1 : k < ks.length) (h2 : k < js.length) (ht : ks.take k = js.take k) (h : ks.getD k (0, 0) = js.getD k (0, 0)) : ks.take (k + 1) = js.take (k + 1) := by
  rw [kgetD k h1, kgetD k h2] at h
  rw [List.take_succ_eq_append_getElem h1, List.take_succ_eq_append_getElem h2, ht, h]


theorem infoKey61 : (Tryd.prog.info? 61).map (fun i => (i.zero, i.size, i.bytes)) = some (some (.agg #[.int .i64 0, .int .i64 0]), 2, 16) := by kernel_rfl


end Go.Proofs.YtjknflpclniiiaaDoor
