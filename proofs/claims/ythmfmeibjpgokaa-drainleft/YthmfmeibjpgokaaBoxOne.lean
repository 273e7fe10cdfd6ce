/-
  Boxes: a block that holds one struct. No program stands in it.
-/
import Derived.Test.YthmfmeibjpgokaaRowKit
import Derived.Laws.Rows
import Derived.Laws.Tables
import Derived.Laws.CopyOwn
import Derived.BigFrame
namespace Go.Proofs.Ythmfmeibjpgokaa
open Go.RowKit Go.ChangeShapes

/-- Block b is a box of type t that holds the cells cs. -/
def HasBox (w : World) (b : Nat) (t : TypeId) (cs : Array Value) : Prop := w.heap[b]? = some (.cells cs t (0, 0))
theorem HasBox.lt {w : World} {b t : Nat} {cs : Array Value} (h : HasBox w b t cs) : b < w.heap.size := (Array.getElem?_eq_some_iff.1 h).1
theorem HasBox.below {w w' : World} {b t : Nat} {cs : Array Value} (h : HasBox w b t cs) (hb : Below w.heap.size w w') : HasBox w' b t cs := (hb.block b h.lt).trans h
theorem HasBox.cell {w : World} {b t : Nat} {cs : Array Value} (h : HasBox w b t cs) (i : Nat) : w.cell? ⟨b, i, none⟩ = cs[i]? := cell_of_row w b i cs _ _ h
theorem HasBox.frozen {w : World} {b t : Nat} {cs : Array Value} (h : HasBox w b t cs) (i : Nat) : w.frozen? ⟨b, i, none⟩ = false := frozen_of_row w b i cs _ h
theorem hasBox_new (w : World) (t : Nat) (cs : Array Value) : HasBox (w.alloc (.cells cs t (0, 0))) w.heap.size t cs := heap_alloc_new w _
theorem hasBox_new' (w : World) (t g : Nat) (cs : Array Value) (hg : g = w.heap.size) : HasBox (w.alloc (.cells cs t (0, 0))) g t cs := by subst hg; exact heap_alloc_new w _
theorem HasBox.alloc {w : World} {b t : Nat} {cs : Array Value} (h : HasBox w b t cs) (o : Obj) : HasBox (w.alloc o) b t cs := (Below.heap_alloc _ _ _ h.lt).trans h
theorem HasBox.set {w : World} {b t : Nat} {cs : Array Value} (h : HasBox w b t cs) (i : Nat) (v : Value) : HasBox (w.setCell ⟨b, i, none⟩ v) b t (cs.setIfInBounds i v) := heap_setCell_same w b i cs t v h
theorem HasBox.setOther {w : World} {b t : Nat} {cs : Array Value} (h : HasBox w b t cs) (p : Addr) (hp : b ≠ p.block) (v : Value) : HasBox (w.setCell p v) b t cs := by
  unfold HasBox at h ⊢
  rw [← h]
  simp [World.setCell, Array.getElem?_modify, Ne.symm hp]
theorem HasBox.row {w : World} {b t : Nat} {cs ds : Array Value} (h : HasBox w b t cs) : HasBox (w.setRow b ds) b t ds := setRow_heap w b cs ds t _ h
theorem HasBox.rowOther {w : World} {b t g : Nat} {cs ds : Array Value} (h : HasBox w b t cs) (hg : b ≠ g) : HasBox (w.setRow g ds) b t cs := (setRow_other w g b ds hg).trans h
theorem HasBox.grown {w w' : World} {b t : Nat} {cs : Array Value} {o : Option Nat} (h : HasBox w b t cs) (hg : w.grownBy w' o) (hne : some b ≠ o) : HasBox w' b t cs := by
  obtain ⟨_, _, _, _, h5⟩ := hg
  exact (h5 b h.lt hne).trans h

/-- What is owned beyond a block is owned. -/
theorem own_from {w : World} {base base' e sz n : Nat} {v : Value} {cs : List Value} (h : w.ownsRow base e sz v n cs) (hb : base' ≤ base) : w.ownsRow base' e sz v n cs := by
  refine ⟨h.1, ?_⟩
  rcases h.2 with h | ⟨g, cap, cur, h1, h2, h3⟩
  · exact .inl h
  · exact .inr ⟨g, cap, cur, h1, Nat.le_trans hb h2, h3⟩
/-- What is owned stands, if the blocks from there on stand. -/
theorem own_on {w w' : World} {base e sz n : Nat} {v : Value} {cs : List Value} (h : w.ownsRow base e sz v n cs) (hb : ∀ g, base ≤ g → g < w.heap.size → w'.heap[g]? = w.heap[g]?) : w'.ownsRow base e sz v n cs := by
  refine ⟨h.1, ?_⟩
  rcases h.2 with h | ⟨g, cap, cur, h1, h2, h3, h4⟩
  · exact .inl h
  · exact .inr ⟨g, cap, cur, h1, h2, (hb g h2 (Array.getElem?_eq_some_iff.1 h3).1).trans h3, h4⟩

theorem run_ostore4 {P : Program} {w : World} (ρ : Operand → Value) (o : Oper) (ty : TypeId) (x y : Operand) (ho : o.op = .store ty x y) (g : Nat) (cells : Array Value) (hx : ρ x = .pointer (some ⟨g, 0, none⟩)) (hy : ρ y = .agg cells) (t : TypeId) (old : Array Value) (hg : HasBox w g t old)
    (hi : (P.info? ty).map (·.size) = some cells.size) (hold : old.size = cells.size) (h1 : cells.all (·.oneCell') = true) : (execOp ρ o).run P w = .ok .skip (w.setRow g cells) := by
  unfold execOp
  simp only [ho, hx, hy, Instr.storeAt, Instr.sureAddr, Sem.run_bind, Sem.run_pure, Result.andThen_ok, run_storeVar_row w g t ty old cells hg hi hold h1]

theorem wpList_load_bx {P : Program} {ops : Array Oper} {rest : List Oper} {o : Oper} {a : Act} {w : World} {Q : Exit → Act → World → Prop} (hw : Region.wanted o (yielded ops a.tmps) = true) (ty : TypeId) (x : Operand) (ho : o.op = .load ty x)
    (g : Nat) (hx : a.eval x = .pointer (some ⟨g, 0, none⟩)) (t : TypeId) (cs : Array Value) (d : TypeDesc) (hg : HasBox w g t cs)
    (hu : P.underlying ty = some d) (hd : (match d with | .struct _ | .array _ _ => true | _ => false) = true) (hi : (P.info? ty).map (·.size) = some cs.size)
    (h : wpList P ops Q rest (a.put o.dst (.agg cs)) w) : wpList P ops Q (o :: rest) a w :=
  BigFrame.wpList_want hw fun _ hK => wp_load_row ty x ho g hx t cs _ d hg hu hd hi (hK _ _ h)

/-- A load of a whole row, as an operation's run. -/
theorem run_oload {P : Program} {w : World} (ρ : Operand → Value) (o : Oper) (ty : TypeId) (x : Operand) (ho : o.op = .load ty x) (g : Nat) (hx : ρ x = .pointer (some ⟨g, 0, none⟩)) (t : TypeId) (cs : Array Value) (fr : Nat × Nat) (d : TypeDesc) (hg : w.heap[g]? = some (.cells cs t fr))
    (hu : P.underlying ty = some d) (hd : (match d with | .struct _ | .array _ _ => true | _ => false) = true) (hi : (P.info? ty).map (·.size) = some cs.size) : (execOp ρ o).run P w = .ok (.value (.agg cs)) w := by
  unfold execOp
  simp only [ho, hx, Instr.loadAt, Instr.sureAddr, Sem.run_bind, Sem.run_pure, Result.andThen_ok, run_loadVar_row w g t ty cs fr d hg hu hd hi]

end Go.Proofs.Ythmfmeibjpgokaa
