/-
  What the statements of stage 6 share: a configuration laid down, its text's length.
-/
import Derived.Test.YtkninlahlgipoaaDoorConf11
namespace Go.Proofs.YtkninlahlgipoaaDoor
open Go.RowKit

theorem eq_guard : Tryd.prog.eqGuardType Tryd.prog.depth 23 = false := by kernel_rfl
theorem stored_facts {w w3 : World} {D : Array Value} {o : Array Value} (hb : Below w.heap.size w w3) :
    CellsAt ((w3.alloc (.cells o 23 (0, 0))).setRow w3.heap.size D) w3.heap.size D ∧ Below w.heap.size w ((w3.alloc (.cells o 23 (0, 0))).setRow w3.heap.size D) :=
  ⟨setRow_heap _ _ _ _ _ _ (heap_alloc_new w3 _), below_setRow (hb.alloc hb.size _) hb.size _⟩

theorem stored_facts2 {w w3 : World} {g : Nat} {A D : Array Value} {o : Array Value} (h : CellsAt w3 g A) (hb : Below w.heap.size w w3) :
    CellsAt ((w3.alloc (.cells o 23 (0, 0))).setRow w3.heap.size D) g A ∧ CellsAt ((w3.alloc (.cells o 23 (0, 0))).setRow w3.heap.size D) w3.heap.size D ∧ Below w.heap.size w ((w3.alloc (.cells o 23 (0, 0))).setRow w3.heap.size D) :=
  ⟨(setRow_other _ _ _ _ (by have := h.lt; omega)).trans (h.alloc _), setRow_heap _ _ _ _ _ _ (heap_alloc_new w3 _), below_setRow (hb.alloc hb.size _) hb.size _⟩

theorem stored_facts3 {w w3 : World} {g h : Nat} {A B D : Array Value} {o : Array Value} (h1 : CellsAt w3 g A) (h2 : CellsAt w3 h B) (hb : Below w.heap.size w w3) :
    CellsAt ((w3.alloc (.cells o 23 (0, 0))).setRow w3.heap.size D) g A ∧ CellsAt ((w3.alloc (.cells o 23 (0, 0))).setRow w3.heap.size D) h B ∧ CellsAt ((w3.alloc (.cells o 23 (0, 0))).setRow w3.heap.size D) w3.heap.size D ∧ Below w.heap.size w ((w3.alloc (.cells o 23 (0, 0))).setRow w3.heap.size D) :=
  ⟨(setRow_other _ _ _ _ (by have := h1.lt; omega)).trans (h1.alloc _), (setRow_other _ _ _ _ (by have := h2.lt; omega)).trans (h2.alloc _), setRow_heap _ _ _ _ _ _ (heap_alloc_new w3 _), below_setRow (hb.alloc hb.size _) hb.size _⟩
theorem yielded_none {ops : Array Oper} {a : Act} {j d : Nat} (hd : (ops[j]?).bind (·.dst) = some d) (h : a.eval (.tmp d) = undef) : yielded ops a.tmps j = none := by
  unfold yielded
  rw [hd, Option.bind_some]
  simp only [Act.eval, Array.getD_eq_getD_getElem?] at h
  cases ht : a.tmps[d]? with
  | none => rfl
  | some v => rw [ht] at h; simp at h; subst h; rfl
theorem text_short {c : Cfg} (h : mayC c = true) : (mkS (textC c)).size ≤ 9223372036854775807 := by
  rw [mkS_data', textC_may h]
  have := someC_length (may_parts h).2 (List.range 23) (fun i hi => by simpa using hi) (fun i hi => (may_parts h).1 i (by simpa using hi))
  simp at this
  omega

end Go.Proofs.YtkninlahlgipoaaDoor
