/-
  The contract of package config's May.
-/
import Derived.Test.YtomhmndpjkfppaaDoorConf6
namespace Go.Proofs.YtomhmndpjkfppaaDoor
open Go.RowKit

set_option maxRecDepth 100000 in
set_option maxHeartbeats 2000000 in
theorem may_any (c : Cfg) (w : World) (htab : TabC w) (hz : c.zone.size ≤ 9223372036854775807) :
    Calls Tryd.prog 26 #[.agg c.arr] w fun e w' => e = .returned (.bool (mayC c)) ∧ Below w.heap.size w w' := by
  have HT : Hid (TabC w) := htab
  clear htab
  have HRow : Hid (∀ k : Nat, k < 23 → ∀ W : World, Calls Tryd.prog 33 #[rowA k, .agg c.arr] W fun e w' => e = .returned (.bool (mayK c k)) ∧ Below W.heap.size W w') := fun k hk W => row_may k hk c W hz
  have HYes : Hid ((∀ k, k < 23 → mayK c k = true) → mayC c = true) := may_all
  have HNo : Hid (∀ k, k < 23 → mayK c k = false → mayC c = false) := fun k hk h => may_not hk h
  have HI : Hid ((Tryd.prog.info? 23).map (·.size) = some c.arr.size) := by show _ = _; rw [arr_size]; kernel_rfl
  have HR : Hid (∀ k : Nat, k < 23 → ∀ W, (Instr.index 65 (.agg tabArr) (.int .i64 k)).run Tryd.prog W = .ok (rowA k) W) := run_row
  have HZ : Hid ((Tryd.prog.info? 65).map (·.size) = some tabArr.size) := by show _ = _; kernel_rfl
  generalize c.arr = cs at HRow HI ⊢
  generalize mayC c = R at HYes HNo ⊢
  generalize mayK c = M at HRow HYes HNo
  go_enter Tryd.func26, Tryd.ntmps26
  go_wp2_with fail
  generalize hW0 : w.alloc _ = W0
  have HC0 : Hid (CellsAt W0 w.heap.size cs) := by show CellsAt _ _ _; rw [← hW0]; exact heap_alloc_new w _
  have HB0 : Hid (Below w.heap.size w W0) := by show Below _ _ _; rw [← hW0]; exact (Below.refl _ _).alloc (Nat.le_refl _) _
  have HN0 : Hid (W0.heap.size = w.heap.size + 1) := by show _ = _; rw [← hW0]; simp
  obtain ⟨t, fr, hg⟩ := HT.out.below HB0.out
  have HG : Hid (W0.heap[0]? = some (.cells tabArr t fr)) := hg
  clear hW0 hg HT
  generalize tabArr = TA at HG HR HZ
  refine wp_load_row 65 (.global 0) rfl 0 rfl t TA fr _ HG.out u_tab rfl HZ.out ?_
  go_wp2
  go_loopw [6] (fun q wr => ∃ k : Nat, k ≤ 23 ∧ q = .int .i64 k ∧ (∀ j, j < k → M j = true) ∧ CellsAt wr w.heap.size cs ∧ Below w.heap.size w wr) (fun q _ => 23 - (intOf q).toNat)
  case atStart => exact ⟨0, Nat.zero_le _, rfl, fun j h => by omega, HC0.out, HB0.out⟩
  case round =>
    obtain ⟨k, hk, rfl, hd, hc, hb⟩ := hrel
    have HD : Hid (∀ j, j < k → M j = true) := hd
    have HC : Hid (CellsAt wr w.heap.size cs) := hc
    have HB : Hid (Below w.heap.size w wr) := hb
    clear hd hc hb
    by_cases hlt : k < 23
    · have hix := HR.out k hlt
      have HSt : Hid _ := HRow.out k hlt
      have HNk : Hid (M k = false → R = false) := HNo.out k hlt
      have HYk : Hid (M k = true → ∀ j, j < k + 1 → M j = true) := fun h j hj => by
        rcases Nat.lt_or_ge j k with h1 | h1
        · exact HD.out j h1
        · have e : j = k := by omega
          rw [e]; exact h
      unfold rowA at hix HSt
      generalize nameC k = nm at hix HSt
      generalize (rowK k).1 = k1 at hix HSt
      generalize (rowK k).2.1 = k2 at hix HSt
      generalize (rowK k).2.2.1 = k3 at hix HSt
      generalize mkS (rowK k).2.2.2 = k4 at hix HSt
      generalize M k = mk at HSt HNk HYk
      go_wp2_with (first | (refine wpList_load_row rfl 23 (.tmp 1) rfl w.heap.size rfl 23 _ (0, 0) _ (HC.out.alloc _) Tryd.underlying23 rfl HI.out ?_) | fail)
      refine (HSt.out _).mono ?_
      rintro e w1 ⟨rfl, h2⟩
      have HC1 : Hid (CellsAt w1 w.heap.size cs) := (HC.out.alloc _).below h2
      have HB1 : Hid (Below w.heap.size w w1) := (HB.out.alloc HB.out.size _).trans (h2.mono (by have := HB.out.size; simp; omega))
      clear h2
      cases mk with
      | true =>
        have HY2 : Hid (∀ j, j < k + 1 → M j = true) := HYk.out rfl
        go_wp2
        go_roundw
        case rel => exact ⟨k + 1, by omega, by go_num, HY2.out, HC1.out, HB1.out⟩
        case measure => simp [intOf]; omega
      | false =>
        have e := HNk.out rfl
        subst e
        go_wp2
        go_ret
        exact ⟨rfl, HB1.out⟩
    · have e := HYes.out (fun j hj => HD.out j (by omega))
      subst e
      go_wp2
      go_ret
      exact ⟨rfl, HB.out⟩

end Go.Proofs.YtomhmndpjkfppaaDoor
