/-
  The reference's answers to chapter 6: a configuration out of numbers; a word's place in a row.
-/
import Derived.Test.YtomhmndpjkfppaaDoorRefNums
import Derived.Test.YtomhmndpjkfppaaDoorRefMadeKit
import Derived.StillTailTactics
import Derived.Laws.Rows
import Derived.Laws.CopyOwn
namespace Go.Proofs.YtomhmndpjkfppaaDoor
open Go.RowKit

/-- Steps of a region that draws its order, ahead of its tail: each of them reads alone. -/
theorem still_val {P : Program} {ops : Array Oper} {w : World} {Q : Act → Prop} {a : Act} {o : Oper} {rest : List Oper} (v : Value) (hg : o.guard = none) (hr : (execOp a.eval o).run P w = .ok (.value v) w)
    (h : wpStill P ops w Q rest (a.put o.dst v)) : wpStill P ops w Q (o :: rest) a := by
  have hw : Region.wanted o (yielded ops a.tmps) = true := by simp [Region.wanted, hg]
  unfold wpStill
  rw [if_pos hw]
  unfold Oper.still
  rw [hr, Oper.stillUpon_value]
  exact h
theorem still_move {P : Program} {ops : Array Oper} {w : World} {Q : Act → Prop} {a : Act} {o : Oper} {rest : List Oper} (x : Operand) (v : Value) (hg : o.guard = none) (ho : o.op = .move x) (hv : a.eval x = v)
    (h : wpStill P ops w Q rest (a.put o.dst v)) : wpStill P ops w Q (o :: rest) a := by
  refine still_val v hg ?_ h
  unfold execOp
  rw [ho, ← hv]
  rfl
theorem region_still_tail {P : Program} {id : Nat} {Q : Exit → Act → World → Prop} {a : Act} {w : World} {l : List Oper} (n : Nat) (hm : P.follows .mixedOrders = true) (hB : Region.lexTailB .any l.toArray n = true)
    (h : ∀ W, W = w.drew → wpStill P l.toArray W (fun a' => wpList P l.toArray Q (l.drop n) a' W) (l.take n) a) : (Code.region id l.toArray true).wp P Q a w :=
  wp_region_still_tail n hm hB (h _ rfl)

set_option maxRecDepth 100000 in
theorem cfg_built (a0 a1 a2 a3 a4 a5 a6 a7 a8 a9 a10 a11 a12 a13 a14 a16 a17 a18 a19 a20 : Int) (q15 q22 : Bool) (z : ByteArray) : Tryd.prog.built 23 [(0, .int .i64 a0), (1, .int .i64 a1), (2, .int .i64 a2), (3, .int .i64 a3), (4, .int .i64 a4), (5, .int .i64 a5), (6, .int .i64 a6), (7, .int .i64 a7), (8, .int .i64 a8), (9, .int .i64 a9), (10, .int .i64 a10), (11, .int .i64 a11), (12, .int .i64 a12), (13, .int .i64 a13), (14, .int .i64 a14), (15, .bool q15), (16, .int .i64 a16), (17, .int .i64 a17), (18, .int .i64 a18), (19, .int .i64 a19), (20, .int .i64 a20), (21, .string z), (22, .bool q22)] = some #[.int .i64 a0, .int .i64 a1, .int .i64 a2, .int .i64 a3, .int .i64 a4, .int .i64 a5, .int .i64 a6, .int .i64 a7, .int .i64 a8, .int .i64 a9, .int .i64 a10, .int .i64 a11, .int .i64 a12, .int .i64 a13, .int .i64 a14, .bool q15, .int .i64 a16, .int .i64 a17, .int .i64 a18, .int .i64 a19, .int .i64 a20, .string z, .bool q22] := by
  kernel_rfl
theorem run_opbuild {P : Program} (ρ : Operand → Value) (o : Oper) (t : TypeId) (ps : Array (Nat × Operand)) (L : List (Nat × Value)) (cells : Array Value) (w : World) (ho : o.op = .build t ps) (h1 : (ps.map fun p => (p.1, ρ p.2)).toList = L)
    (h2 : P.built t L = some cells) : (execOp ρ o).run P w = .ok (.value (.agg cells)) w := by
  have h := run_build (P := P) w t (ps.map fun p => (p.1, ρ p.2)) cells (by rw [h1]; exact h2)
  unfold execOp
  rw [ho]
  simp [h]

set_option maxRecDepth 100000 in
set_option maxHeartbeats 4000000 in
theorem rMade_any (n : List Int) (z : ByteArray) (v : Value) (w : World) (hrow : IsRow 1 w v 23 (n.map (Value.int .i64))) :
    Calls Tryd.prog 25 #[v, .string z] w fun e w' => e = .returned (ofNums n z).val ∧ Below w.heap.size w w' := by
  obtain ⟨b, off, cap, rfl, hlt, hc⟩ := numsAt hrow (by omega)
  unfold ofNums Cfg.val
  simp only
  have g0 := hc 0 (by omega)
  have g1 := hc 1 (by omega)
  have g2 := hc 2 (by omega)
  have g3 := hc 3 (by omega)
  have g4 := hc 4 (by omega)
  have g5 := hc 5 (by omega)
  have g6 := hc 6 (by omega)
  have g7 := hc 7 (by omega)
  have g8 := hc 8 (by omega)
  have g9 := hc 9 (by omega)
  have g10 := hc 10 (by omega)
  have g11 := hc 11 (by omega)
  have g12 := hc 12 (by omega)
  have g13 := hc 13 (by omega)
  have g14 := hc 14 (by omega)
  have g15 := hc 15 (by omega)
  have g16 := hc 16 (by omega)
  have g17 := hc 17 (by omega)
  have g18 := hc 18 (by omega)
  have g19 := hc 19 (by omega)
  have g20 := hc 20 (by omega)
  have g22 := hc 22 (by omega)
  clear hc hrow
  generalize n.getD 0 0 = a0 at g0 ⊢
  generalize n.getD 1 0 = a1 at g1 ⊢
  generalize n.getD 2 0 = a2 at g2 ⊢
  generalize n.getD 3 0 = a3 at g3 ⊢
  generalize n.getD 4 0 = a4 at g4 ⊢
  generalize n.getD 5 0 = a5 at g5 ⊢
  generalize n.getD 6 0 = a6 at g6 ⊢
  generalize n.getD 7 0 = a7 at g7 ⊢
  generalize n.getD 8 0 = a8 at g8 ⊢
  generalize n.getD 9 0 = a9 at g9 ⊢
  generalize n.getD 10 0 = a10 at g10 ⊢
  generalize n.getD 11 0 = a11 at g11 ⊢
  generalize n.getD 12 0 = a12 at g12 ⊢
  generalize n.getD 13 0 = a13 at g13 ⊢
  generalize n.getD 14 0 = a14 at g14 ⊢
  generalize n.getD 15 0 = a15 at g15 ⊢
  generalize n.getD 16 0 = a16 at g16 ⊢
  generalize n.getD 17 0 = a17 at g17 ⊢
  generalize n.getD 18 0 = a18 at g18 ⊢
  generalize n.getD 19 0 = a19 at g19 ⊢
  generalize n.getD 20 0 = a20 at g20 ⊢
  generalize n.getD 22 0 = a22 at g22 ⊢
  simp only [Nat.add_zero] at g0
  generalize e15 : (a15 == 1) = q15
  generalize e22 : (a22 == 1) = q22
  go_enter Tryd.func25, Tryd.ntmps25
  go_wp2
  dsimp only [List.append]
  refine region_still_tail 70 (by kernel_rfl) (by kernel_rfl) ?_
  intro W hW
  have c0 : W.cell? ⟨b, off, none⟩ = some (.int .i64 a0) := by rw [hW, World.cell?_drew, World.cell?_alloc_past _ _ _ hlt]; exact g0
  have c1 : W.cell? ⟨b, off + 1, none⟩ = some (.int .i64 a1) := by rw [hW, World.cell?_drew, World.cell?_alloc_past _ _ _ hlt]; exact g1
  have c2 : W.cell? ⟨b, off + 2, none⟩ = some (.int .i64 a2) := by rw [hW, World.cell?_drew, World.cell?_alloc_past _ _ _ hlt]; exact g2
  have c3 : W.cell? ⟨b, off + 3, none⟩ = some (.int .i64 a3) := by rw [hW, World.cell?_drew, World.cell?_alloc_past _ _ _ hlt]; exact g3
  have c4 : W.cell? ⟨b, off + 4, none⟩ = some (.int .i64 a4) := by rw [hW, World.cell?_drew, World.cell?_alloc_past _ _ _ hlt]; exact g4
  have c5 : W.cell? ⟨b, off + 5, none⟩ = some (.int .i64 a5) := by rw [hW, World.cell?_drew, World.cell?_alloc_past _ _ _ hlt]; exact g5
  have c6 : W.cell? ⟨b, off + 6, none⟩ = some (.int .i64 a6) := by rw [hW, World.cell?_drew, World.cell?_alloc_past _ _ _ hlt]; exact g6
  have c7 : W.cell? ⟨b, off + 7, none⟩ = some (.int .i64 a7) := by rw [hW, World.cell?_drew, World.cell?_alloc_past _ _ _ hlt]; exact g7
  have c8 : W.cell? ⟨b, off + 8, none⟩ = some (.int .i64 a8) := by rw [hW, World.cell?_drew, World.cell?_alloc_past _ _ _ hlt]; exact g8
  have c9 : W.cell? ⟨b, off + 9, none⟩ = some (.int .i64 a9) := by rw [hW, World.cell?_drew, World.cell?_alloc_past _ _ _ hlt]; exact g9
  have c10 : W.cell? ⟨b, off + 10, none⟩ = some (.int .i64 a10) := by rw [hW, World.cell?_drew, World.cell?_alloc_past _ _ _ hlt]; exact g10
  have c11 : W.cell? ⟨b, off + 11, none⟩ = some (.int .i64 a11) := by rw [hW, World.cell?_drew, World.cell?_alloc_past _ _ _ hlt]; exact g11
  have c12 : W.cell? ⟨b, off + 12, none⟩ = some (.int .i64 a12) := by rw [hW, World.cell?_drew, World.cell?_alloc_past _ _ _ hlt]; exact g12
  have c13 : W.cell? ⟨b, off + 13, none⟩ = some (.int .i64 a13) := by rw [hW, World.cell?_drew, World.cell?_alloc_past _ _ _ hlt]; exact g13
  have c14 : W.cell? ⟨b, off + 14, none⟩ = some (.int .i64 a14) := by rw [hW, World.cell?_drew, World.cell?_alloc_past _ _ _ hlt]; exact g14
  have c15 : W.cell? ⟨b, off + 15, none⟩ = some (.int .i64 a15) := by rw [hW, World.cell?_drew, World.cell?_alloc_past _ _ _ hlt]; exact g15
  have c16 : W.cell? ⟨b, off + 16, none⟩ = some (.int .i64 a16) := by rw [hW, World.cell?_drew, World.cell?_alloc_past _ _ _ hlt]; exact g16
  have c17 : W.cell? ⟨b, off + 17, none⟩ = some (.int .i64 a17) := by rw [hW, World.cell?_drew, World.cell?_alloc_past _ _ _ hlt]; exact g17
  have c18 : W.cell? ⟨b, off + 18, none⟩ = some (.int .i64 a18) := by rw [hW, World.cell?_drew, World.cell?_alloc_past _ _ _ hlt]; exact g18
  have c19 : W.cell? ⟨b, off + 19, none⟩ = some (.int .i64 a19) := by rw [hW, World.cell?_drew, World.cell?_alloc_past _ _ _ hlt]; exact g19
  have c20 : W.cell? ⟨b, off + 20, none⟩ = some (.int .i64 a20) := by rw [hW, World.cell?_drew, World.cell?_alloc_past _ _ _ hlt]; exact g20
  have c22 : W.cell? ⟨b, off + 22, none⟩ = some (.int .i64 a22) := by rw [hW, World.cell?_drew, World.cell?_alloc_past _ _ _ hlt]; exact g22
  clear g0 g1 g2 g3 g4 g5 g6 g7 g8 g9 g10 g11 g12 g13 g14 g15 g16 g17 g18 g19 g20 g22
  have HG : Hid (W.heap[w.heap.size]? = some (.cells #[.int .i64 0, .int .i64 0, .int .i64 0, .int .i64 0, .int .i64 0, .int .i64 0, .int .i64 0, .int .i64 0, .int .i64 0, .int .i64 0, .int .i64 0, .int .i64 0, .int .i64 0, .int .i64 0, .int .i64 0, .bool false, .int .i64 0, .int .i64 0, .int .i64 0, .int .i64 0, .int .i64 0, .string ⟨#[]⟩, .bool false] 23 (0, 0))) := by show _ = _; rw [hW, heap_drew]; exact heap_alloc_new w _
  have HB : Hid (Below w.heap.size w W) := by show Below _ _ _; rw [hW]; exact ((Below.refl _ _).alloc (Nat.le_refl _) _).drew
  clear hW
  simp only [List.take_succ_cons, List.take_zero, List.drop_succ_cons, List.drop_zero]
  refine still_move (.tmp 0) (.slice (some ⟨b, off, none⟩) 23 cap) rfl rfl rfl ?_
  still_step
  still_step
  refine still_move (.tmp 0) (.slice (some ⟨b, off, none⟩) 23 cap) rfl rfl rfl ?_
  still_step
  still_step
  refine still_move (.tmp 0) (.slice (some ⟨b, off, none⟩) 23 cap) rfl rfl rfl ?_
  still_step
  still_step
  refine still_move (.tmp 0) (.slice (some ⟨b, off, none⟩) 23 cap) rfl rfl rfl ?_
  still_step
  still_step
  refine still_move (.tmp 0) (.slice (some ⟨b, off, none⟩) 23 cap) rfl rfl rfl ?_
  still_step
  still_step
  refine still_move (.tmp 0) (.slice (some ⟨b, off, none⟩) 23 cap) rfl rfl rfl ?_
  still_step
  still_step
  refine still_move (.tmp 0) (.slice (some ⟨b, off, none⟩) 23 cap) rfl rfl rfl ?_
  still_step
  still_step
  refine still_move (.tmp 0) (.slice (some ⟨b, off, none⟩) 23 cap) rfl rfl rfl ?_
  still_step
  still_step
  refine still_move (.tmp 0) (.slice (some ⟨b, off, none⟩) 23 cap) rfl rfl rfl ?_
  still_step
  still_step
  refine still_move (.tmp 0) (.slice (some ⟨b, off, none⟩) 23 cap) rfl rfl rfl ?_
  still_step
  still_step
  refine still_move (.tmp 0) (.slice (some ⟨b, off, none⟩) 23 cap) rfl rfl rfl ?_
  still_step
  still_step
  refine still_move (.tmp 0) (.slice (some ⟨b, off, none⟩) 23 cap) rfl rfl rfl ?_
  still_step
  still_step
  refine still_move (.tmp 0) (.slice (some ⟨b, off, none⟩) 23 cap) rfl rfl rfl ?_
  still_step
  still_step
  refine still_move (.tmp 0) (.slice (some ⟨b, off, none⟩) 23 cap) rfl rfl rfl ?_
  still_step
  still_step
  refine still_move (.tmp 0) (.slice (some ⟨b, off, none⟩) 23 cap) rfl rfl rfl ?_
  still_step
  still_step
  refine still_move (.tmp 0) (.slice (some ⟨b, off, none⟩) 23 cap) rfl rfl rfl ?_
  still_step
  still_step
  still_step
  refine still_move (.tmp 0) (.slice (some ⟨b, off, none⟩) 23 cap) rfl rfl rfl ?_
  still_step
  still_step
  refine still_move (.tmp 0) (.slice (some ⟨b, off, none⟩) 23 cap) rfl rfl rfl ?_
  still_step
  still_step
  refine still_move (.tmp 0) (.slice (some ⟨b, off, none⟩) 23 cap) rfl rfl rfl ?_
  still_step
  still_step
  refine still_move (.tmp 0) (.slice (some ⟨b, off, none⟩) 23 cap) rfl rfl rfl ?_
  still_step
  still_step
  refine still_move (.tmp 0) (.slice (some ⟨b, off, none⟩) 23 cap) rfl rfl rfl ?_
  still_step
  still_step
  refine still_move (.tmp 1) (.string z) rfl rfl rfl ?_
  refine still_move (.tmp 0) (.slice (some ⟨b, off, none⟩) 23 cap) rfl rfl rfl ?_
  still_step
  still_step
  still_step
  refine still_val (.agg #[.int .i64 a0, .int .i64 a1, .int .i64 a2, .int .i64 a3, .int .i64 a4, .int .i64 a5, .int .i64 a6, .int .i64 a7, .int .i64 a8, .int .i64 a9, .int .i64 a10, .int .i64 a11, .int .i64 a12, .int .i64 a13, .int .i64 a14, .bool q15, .int .i64 a16, .int .i64 a17, .int .i64 a18, .int .i64 a19, .int .i64 a20, .string z, .bool q22]) rfl (run_opbuild _ _ 23 _ [(0, .int .i64 a0), (1, .int .i64 a1), (2, .int .i64 a2), (3, .int .i64 a3), (4, .int .i64 a4), (5, .int .i64 a5), (6, .int .i64 a6), (7, .int .i64 a7), (8, .int .i64 a8), (9, .int .i64 a9), (10, .int .i64 a10), (11, .int .i64 a11), (12, .int .i64 a12), (13, .int .i64 a13), (14, .int .i64 a14), (15, .bool q15), (16, .int .i64 a16), (17, .int .i64 a17), (18, .int .i64 a18), (19, .int .i64 a19), (20, .int .i64 a20), (21, .string z), (22, .bool q22)] _ _ rfl (by simp [Act.eval]) (cfg_built ..)) ?_
  refine wpStill_nil ?_
  refine wpList_store_row rfl 23 (.tmp 4) (.tmp 74) rfl w.heap.size #[.int .i64 a0, .int .i64 a1, .int .i64 a2, .int .i64 a3, .int .i64 a4, .int .i64 a5, .int .i64 a6, .int .i64 a7, .int .i64 a8, .int .i64 a9, .int .i64 a10, .int .i64 a11, .int .i64 a12, .int .i64 a13, .int .i64 a14, .bool q15, .int .i64 a16, .int .i64 a17, .int .i64 a18, .int .i64 a19, .int .i64 a20, .string z, .bool q22] rfl rfl 23 _ HG.out (by kernel_rfl) rfl (by simp [Value.oneCell']) ?_
  go_wp2
  try simp only [Exit.inBlock, Exit.then]
  refine bodyPost_ret (results_cell_row rfl _ _ w.heap.size 23 _ _ _ rfl (setRow_heap W _ _ _ _ _ HG.out) Tryd.underlying23 rfl (by kernel_rfl)) rfl ?_
  exact ⟨rfl, below_setRow HB.out (Nat.le_refl _) _⟩

end Go.Proofs.YtomhmndpjkfppaaDoor
