/-
  Boxes: a block that holds one struct. No program stands in it.
-/
import Derived.Test.YtjjehjbejldgmaaDoorHostPlain
import Derived.Laws.Rows
import Derived.Laws.Tables
import Derived.Laws.CopyOwn
namespace Go.Proofs.YtjjehjbejldgmaaDoor
open Go.RowKit Go.ChangeShapes

/-- Block b is a box of type t that holds the cells cs. -/
def HasBox (w : World) (b : Nat) (t : TypeId) (cs : Array Value) : Prop := w.heap[b]? = some (.cells cs t (0, 0))
theorem HasBox.lt {w : World} {b t : Nat} {cs : Array Value} (h : HasBox w b t cs) : b < w.heap.size := (Array.getElem?_eq_some_iff.1 h).1
theorem HasBox.below {w w' : World} {b t : Nat} {cs : Array Value} (h : HasBox w b t cs) (hb : Below w.heap.size w w') : HasBox w' b t cs := (hb.block b h.lt).trans h
theorem HasBox.cell {w : World} {b t : Nat} {cs : Array Value} (h : HasBox w b t cs) (i : Nat) : w.cell? ⟨b, i, none⟩ = cs[i]? := cell_of_row w b i cs _ _ h
theorem HasBox.frozen {w : World} {b t : Nat} {cs : Array Value} (h : HasBox w b t cs) (i : Nat) : w.frozen? ⟨b, i, none⟩ = false := frozen_of_row w b i cs _ h
theorem hasBox_new (w : World) (t : Nat) (cs : Array Value) : HasBox (w.alloc (.cells cs t (0, 0))) w.heap.size t cs := heap_alloc_new w _
theorem hasBox_new' (w : World) (t g : Nat) (cs : Array Value) (hg : g = w.heap.size) : HasBox (w.alloc (.cells cs t (0, 0))) g t cs := by subst hg; exact heap_alloc_new w _
theorem HasBox.alloc {w : World} {b t : Nat} {cs : Array Value} (h : HasBox w b t cs) (o : Obj) : HasBox (w.alloc o) b t cs := (Below.heap_alloc _ _ _ h.lt).trans h
theorem HasBox.set {w : World} {b t : Nat} {cs : Array Value} (h : HasBox w b t cs) (i : Nat) (v : Value) : HasBox (w.setCell ⟨b, i, none⟩ v) b t (cs.setIfInBounds i v) := heap_setCell_same w b i cs t v h
theorem HasBox.setOther {w : World} {b t : Nat} {cs : Array Value} (h : HasBox w b t cs) (p : Addr) (hp : b ≠ p.block) (v : Value) : HasBox (w.setCell p v) b t cs := by
  unfold HasBox at h ⊢
  rw [← h]
  simp [World.setCell, Array.getElem?_modify, Ne.symm hp]
theorem HasBox.row {w : World} {b t : Nat} {cs ds : Array Value} (h : HasBox w b t cs) : HasBox (w.setRow b ds) b t ds := setRow_heap w b cs ds t _ h
theorem HasBox.rowOther {w : World} {b t g : Nat} {cs ds : Array Value} (h : HasBox w b t cs) (hg : b ≠ g) : HasBox (w.setRow g ds) b t cs := (setRow_other w g b ds hg).trans h
theorem HasBox.grown {w w' : World} {b t : Nat} {cs : Array Value} {o : Option Nat} (h : HasBox w b t cs) (hg : w.grownBy w' o) (hne : some b ≠ o) : HasBox w' b t cs := by
  obtain ⟨_, _, _, _, h5⟩ := hg
  exact (h5 b h.lt hne).trans h

/-- The cells of a host. -/
abbrev hcells (h : HostT) (mv : Value) : Array Value := #[.int .i64 h.id, .string h.addr, .int .i64 h.prio, .string h.zone, .int .i64 h.weight, mv]
abbrev noHost : HostT := ⟨0, ByteArray.empty, 0, ByteArray.empty, 0, []⟩

/-- What is owned beyond a block is owned. -/
theorem own_from {w : World} {base base' e sz n : Nat} {v : Value} {cs : List Value} (h : w.ownsRow base e sz v n cs) (hb : base' ≤ base) : w.ownsRow base' e sz v n cs := by
  refine ⟨h.1, ?_⟩
  rcases h.2 with h | ⟨g, cap, cur, h1, h2, h3⟩
  · exact .inl h
  · exact .inr ⟨g, cap, cur, h1, Nat.le_trans hb h2, h3⟩
/-- What is owned stands, if the blocks from there on stand. -/
theorem own_on {w w' : World} {base e sz n : Nat} {v : Value} {cs : List Value} (h : w.ownsRow base e sz v n cs) (hb : ∀ g, base ≤ g → g < w.heap.size → w'.heap[g]? = w.heap[g]?) : w'.ownsRow base e sz v n cs := by
  refine ⟨h.1, ?_⟩
  rcases h.2 with h | ⟨g, cap, cur, h1, h2, h3, h4⟩
  · exact .inl h
  · exact .inr ⟨g, cap, cur, h1, h2, (hb g h2 (Array.getElem?_eq_some_iff.1 h3).1).trans h3, h4⟩

end Go.Proofs.YtjjehjbejldgmaaDoor
