/-
  The contracts of package config's Default and May.
-/
import Derived.Test.YtomhmndpjkfppaaDoorConf5
import Derived.Laws.Tables
namespace Go.Proofs.YtomhmndpjkfppaaDoor
open Go.RowKit

/-- The numbers as far as Default has come. -/
def defN (k : Nat) : List Int := defNums.take k ++ (List.replicate 23 0).drop k
theorem defN_step (k : Nat) (hk : k < 23) : (defN k).set k (numR k (mkS (rowK k).2.2.2)) = defN (k + 1) ∧ zonR ByteArray.empty k (mkS (rowK k).2.2.2) = ByteArray.empty ∧ (defN k).length = 23 ∧ (mkS (rowK k).2.2.2).size ≤ 9 := by
  have h : ∀ k : Fin 23, (defN k.1).set k.1 (numR k.1 (mkS (rowK k.1).2.2.2)) = defN (k.1 + 1) ∧ zonR ByteArray.empty k.1 (mkS (rowK k.1).2.2.2) = ByteArray.empty ∧ (defN k.1).length = 23 ∧ (mkS (rowK k.1).2.2.2).size ≤ 9 := by decide +kernel
  exact h ⟨k, hk⟩

set_option maxRecDepth 100000 in
set_option maxHeartbeats 2000000 in
theorem default_any (w : World) (htab : TabC w) :
    Calls Tryd.prog 27 #[] w fun e w' => e = .returned (.agg defC.arr) ∧ Below w.heap.size w w' := by
  have HT : Hid (TabC w) := htab
  clear htab
  have HZ0 : Hid ((ofNums (defN 0) ByteArray.empty).arr = #[.int .i64 0, .int .i64 0, .int .i64 0, .int .i64 0, .int .i64 0, .int .i64 0, .int .i64 0, .int .i64 0, .int .i64 0, .int .i64 0, .int .i64 0, .int .i64 0, .int .i64 0, .int .i64 0, .int .i64 0, .bool false, .int .i64 0, .int .i64 0, .int .i64 0, .int .i64 0, .int .i64 0, .string ⟨#[]⟩, .bool false]) := rfl
  have HEnd : Hid ((ofNums (defN 23) ByteArray.empty).arr = defC.arr) := rfl
  have HOne : Hid (defC.arr.all (·.oneCell') = true) := by show _ = _; unfold Cfg.arr Cfg.cells; simp [Value.oneCell']
  have HStep : Hid (∀ k : Nat, k < 23 → ∀ (b : Nat) (W : World), CellsAt W b (ofNums (defN k) ByteArray.empty).arr →
      Calls Tryd.prog 34 #[rowA k, .pointer (some ⟨b, 0, none⟩), .string (mkS (rowK k).2.2.2)] W fun e w' => (∃ q, e = .returned (.bool q)) ∧ CellsAt w' b (ofNums (defN (k + 1)) ByteArray.empty).arr ∧ W.grownBy w' (some b)) := fun k hk b W h => by
    obtain ⟨e1, e2, e3, e4⟩ := defN_step k hk
    refine (row_read k hk (defN k) e3 ByteArray.empty (mkS (rowK k).2.2.2) b W h (by omega)).mono ?_
    rintro e w1 ⟨rfl, h1, h2⟩
    rw [e1, e2] at h1
    exact ⟨⟨_, rfl⟩, h1, h2⟩
  have HSz : Hid (∀ k, (ofNums (defN k) ByteArray.empty).arr.size = 23) := fun k => rfl
  obtain ⟨S, hS⟩ : ∃ S : Nat → Array Value, ∀ k, (ofNums (defN k) ByteArray.empty).arr = S k := ⟨_, fun _ => rfl⟩
  rw [hS] at HEnd HZ0
  simp only [hS] at HStep HSz
  clear hS
  rw [← HEnd.out] at HOne ⊢
  clear HEnd
  have HR : Hid (∀ k : Nat, k < 23 → ∀ W, (Instr.index 65 (.agg tabArr) (.int .i64 k)).run Tryd.prog W = .ok (rowA k) W) := run_row
  have HZ : Hid ((Tryd.prog.info? 65).map (·.size) = some tabArr.size) := by show _ = _; kernel_rfl
  go_enter Tryd.func27, Tryd.ntmps27
  go_wp2_with fail
  generalize hW0 : (w.alloc _).alloc _ = W0
  obtain ⟨old, hold, hg0⟩ : ∃ old : Array Value, old.size = 23 ∧ CellsAt W0 w.heap.size old := ⟨_, rfl, by rw [← hW0]; exact heap_alloc2_old w _ _⟩
  have HG0 : Hid (CellsAt W0 w.heap.size old) := hg0
  have HC0 : Hid (CellsAt W0 (w.heap.size + 1) (S 0)) := by show CellsAt _ _ _; rw [← hW0, HZ0.out]; exact heap_alloc2_new w _ _
  have HB0 : Hid (Below w.heap.size w W0) := by show Below _ _ _; rw [← hW0]; exact ((Below.refl _ _).alloc (Nat.le_refl _) _).alloc (by simp) _
  have HN0 : Hid (W0.heap.size = w.heap.size + 2) := by show _ = _; rw [← hW0]; simp
  obtain ⟨t, fr, hg⟩ := HT.out.below HB0.out
  have HG : Hid (W0.heap[0]? = some (.cells tabArr t fr)) := hg
  clear hW0 hg0 hg HT HZ0
  generalize tabArr = TA at HG HR HZ
  refine wp_load_row 65 (.global 0) rfl 0 rfl t TA fr _ HG.out u_tab rfl HZ.out ?_
  go_wp2
  go_loopw [5] (fun q wr => ∃ k : Nat, k ≤ 23 ∧ q = .int .i64 k ∧ CellsAt wr (w.heap.size + 1) (S k) ∧ CellsAt wr w.heap.size old ∧ Below w.heap.size w wr) (fun q _ => 23 - (intOf q).toNat)
  case atStart => exact ⟨0, Nat.zero_le _, rfl, HC0.out, HG0.out, HB0.out⟩
  case round =>
    obtain ⟨k, hk, rfl, hc, ho, hb⟩ := hrel
    have HC : Hid (CellsAt wr (w.heap.size + 1) (S k)) := hc
    have HO : Hid (CellsAt wr w.heap.size old) := ho
    have HB : Hid (Below w.heap.size w wr) := hb
    clear hc ho hb
    by_cases hlt : k < 23
    · have hix := HR.out k hlt
      have HSt : Hid _ := HStep.out k hlt
      unfold rowA at hix HSt
      generalize nameC k = nm at hix HSt
      generalize (rowK k).1 = k1 at hix HSt
      generalize (rowK k).2.1 = k2 at hix HSt
      generalize (rowK k).2.2.1 = k3 at hix HSt
      generalize mkS (rowK k).2.2.2 = k4 at hix HSt
      go_wp2_with fail
      refine (HSt.out _ _ (HC.out.alloc _)).mono ?_
      rintro e w1 ⟨⟨q, rfl⟩, h1, h2⟩
      have HC1 : Hid (CellsAt w1 (w.heap.size + 1) (S (k + 1))) := h1
      have HO1 : Hid (CellsAt w1 w.heap.size old) := (h2.block _ (HO.out.alloc _).lt (by simp)).trans (HO.out.alloc _)
      have HB1 : Hid (Below w.heap.size w w1) := below_grown (HB.out.alloc HB.out.size _) h2 (by omega) (by have := HB.out.size; simp; omega)
      clear h1 h2
      go_wp2
      go_roundw
      case rel => exact ⟨k + 1, by omega, by go_num, HC1.out, HO1.out, HB1.out⟩
      case measure => simp [intOf]; omega
    · obtain rfl : k = 23 := by omega
      have hsz := HSz.out 23
      have HI : Hid ((Tryd.prog.info? 23).map (·.size) = some (S 23).size) := by show _ = _; rw [hsz]; kernel_rfl
      have HOS : Hid (old.size = (S 23).size) := by show _ = _; rw [hsz]; exact hold
      clear hsz hold
      go_wp2_with (first | (refine wpList_load_row rfl 23 (.tmp 1) rfl (w.heap.size + 1) rfl 23 _ (0, 0) _ HC.out Tryd.underlying23 rfl HI.out ?_) | (refine wpList_store_row rfl 23 (.tmp 0) (.tmp 13) rfl w.heap.size (S 23) rfl rfl 23 _ HO.out HI.out HOS.out HOne.out ?_))
      try simp only [Exit.inBlock, Exit.then]
      refine bodyPost_ret (results_cell_row rfl _ _ w.heap.size 23 _ _ _ rfl (setRow_heap wr _ _ _ _ _ HO.out) Tryd.underlying23 rfl HI.out) rfl ?_
      exact ⟨rfl, below_setRow HB.out (Nat.le_refl _) _⟩

end Go.Proofs.YtomhmndpjkfppaaDoor
