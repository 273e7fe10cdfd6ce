/-
  The reference's answers to chapter 6: a configuration's fields as numbers.
-/
import Derived.Test.YtomhmndpjkfppaaDoorRefConf
namespace Go.Proofs.YtomhmndpjkfppaaDoor
open Go.RowKit

set_option maxRecDepth 100000 in
set_option maxHeartbeats 4000000 in
theorem rNums_any (c : Cfg) (w : World) :
    Calls Tryd.prog 15 #[c.val] w fun e w' => ∃ v, e = .returned v ∧ IsRow 1 w' v 23 (c.nums.map (Value.int .i64)) ∧ Below w.heap.size w w' := by
  unfold Cfg.val
  go_enter Tryd.func15, Tryd.ntmps15
  go_wp2
  go_region_held3 (fun W => W.cell? ⟨w.heap.size, 0, none⟩ = some (.int .i64 c.f0) ∧ W.cell? ⟨w.heap.size, 1, none⟩ = some (.int .i64 c.f1) ∧ W.cell? ⟨w.heap.size, 2, none⟩ = some (.int .i64 c.f2) ∧ W.cell? ⟨w.heap.size, 3, none⟩ = some (.int .i64 c.f3) ∧ W.cell? ⟨w.heap.size, 4, none⟩ = some (.int .i64 c.f4) ∧ W.cell? ⟨w.heap.size, 5, none⟩ = some (.int .i64 c.f5) ∧ W.cell? ⟨w.heap.size, 6, none⟩ = some (.int .i64 c.f6) ∧ W.cell? ⟨w.heap.size, 7, none⟩ = some (.int .i64 c.f7) ∧ W.cell? ⟨w.heap.size, 8, none⟩ = some (.int .i64 c.f8) ∧ W.cell? ⟨w.heap.size, 9, none⟩ = some (.int .i64 c.f9) ∧ W.cell? ⟨w.heap.size, 10, none⟩ = some (.int .i64 c.f10) ∧ W.cell? ⟨w.heap.size, 11, none⟩ = some (.int .i64 c.f11) ∧ W.cell? ⟨w.heap.size, 12, none⟩ = some (.int .i64 c.f12) ∧ W.cell? ⟨w.heap.size, 13, none⟩ = some (.int .i64 c.f13) ∧ W.cell? ⟨w.heap.size, 14, none⟩ = some (.int .i64 c.f14) ∧ W.cell? ⟨w.heap.size, 15, none⟩ = some (.bool c.one) ∧ W.cell? ⟨w.heap.size, 16, none⟩ = some (.int .i64 c.f16) ∧ W.cell? ⟨w.heap.size, 17, none⟩ = some (.int .i64 c.f17) ∧ W.cell? ⟨w.heap.size, 18, none⟩ = some (.int .i64 c.f18) ∧ W.cell? ⟨w.heap.size, 19, none⟩ = some (.int .i64 c.f19) ∧ W.cell? ⟨w.heap.size, 20, none⟩ = some (.int .i64 c.f20) ∧ W.cell? ⟨w.heap.size, 22, none⟩ = some (.bool c.fb)) (first | simp | go_keep) (first | (go_at_call 24; refine (rBit_any _ _).mono ?_; rintro e w' ⟨rfl, rfl⟩))
  all_goals
    rename_i hHeld
    clear hHeld
    go_wp2
    go_ret
    have hs : ∀ o, (w.alloc o).heap.size = w.heap.size + 1 := fun o => by simp
    have H := fun o a => IsRow.fresh (w.alloc o) (c.nums.map (Value.int .i64)) 1 23 a 23 rfl (by omega) (by unfold maxLen; omega) (by omega)
    simp only [hs] at H
    exact ⟨_, rfl, (H _ _).below ((Below.refl _ _).drew), (((Below.refl _ _).alloc (Nat.le_refl _) _).alloc (by simp) _).drew⟩

end Go.Proofs.YtomhmndpjkfppaaDoor
