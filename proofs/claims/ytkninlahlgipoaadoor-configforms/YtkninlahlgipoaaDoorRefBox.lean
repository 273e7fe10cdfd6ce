/-
  The reference's reading: a row of the table laid into a box of its own, in a region that draws.
-/
import Derived.Test.YtkninlahlgipoaaDoorRels
import Derived.Test.YtkninlahlgipoaaDoorRefText
import Derived.Test.YtkninlahlgipoaaDoorConf8
namespace Go.Proofs.YtkninlahlgipoaaDoor
open Go.RowKit

set_option maxRecDepth 100000 in
set_option maxHeartbeats 2000000 in
theorem rRows_own (w : World) :
    Calls Tryd.prog 17 #[] w fun e w' => e = .returned (.slice (some ⟨w.heap.size, 0, none⟩) 23 23) ∧ w' = w.alloc (.cells rowsV.toArray 48 (0, 0)) := by
  go_enter Tryd.func17, Tryd.ntmps17
  go_wp2
  go_ret
  exact ⟨rfl, rfl⟩

def rowBx (i : Nat) : Array Value := #[.string (nameC i), .int .i64 (lowC i), .int .i64 (highC i), .int .i64 (selfC i)]
theorem rowBx_one (i : Nat) : (rowBx i).all (·.oneCell') = true := by simp [rowBx, Value.oneCell']
def zRow : Array Value := #[.string ⟨#[]⟩, .int .i64 0, .int .i64 0, .int .i64 0]
def BoxAt (w : World) (b : Nat) (cs : Array Value) : Prop := w.heap[b]? = some (.cells cs 48 (0, 0))
def TabAt (w : World) (b : Nat) : Prop := BoxAt w b rowsV.toArray
theorem BoxAt.lt {w : World} {b : Nat} {cs : Array Value} (h : BoxAt w b cs) : b < w.heap.size := (Array.getElem?_eq_some_iff.1 h).1
theorem BoxAt.inj {w : World} {b : Nat} {cs ds : Array Value} (h : BoxAt w b cs) (h' : BoxAt w b ds) : cs = ds := by
  unfold BoxAt at h h'
  rw [h] at h'
  simp only [Option.some.injEq, Obj.cells.injEq] at h'
  exact h'.1
theorem BoxAt.below {w w' : World} {b : Nat} {cs : Array Value} (h : BoxAt w b cs) (hb : Below w.heap.size w w') : BoxAt w' b cs := (hb.block b h.lt).trans h
theorem BoxAt.cell {w : World} {b i : Nat} {cs : Array Value} (h : BoxAt w b cs) : w.cell? ⟨b, i, none⟩ = cs[i]? := cell_of_row w b i cs _ _ h
theorem rowsV_size : rowsV.length = 92 := by decide
theorem rowsV_at (i : Nat) (hi : i < 23) : rowsV[4 * i]? = some (.string (nameC i)) ∧ rowsV[4 * i + 1]? = some (.int .i64 (lowC i)) ∧ rowsV[4 * i + 2]? = some (.int .i64 (highC i)) ∧ rowsV[4 * i + 3]? = some (.int .i64 (selfC i)) := by
  match i, hi with
  | 0, _ | 1, _ | 2, _ | 3, _ | 4, _ | 5, _ | 6, _ | 7, _ | 8, _ | 9, _ | 10, _ | 11, _ | 12, _ | 13, _ | 14, _ | 15, _ | 16, _ | 17, _ | 18, _ | 19, _ | 20, _ | 21, _ | 22, _ => exact ⟨rfl, rfl, rfl, rfl⟩
  | n + 23, h => omega
theorem TabAt.cells {w : World} {b i : Nat} (h : TabAt w b) (hi : i < 23) : w.cell? ⟨b, 4 * i, none⟩ = some (.string (nameC i)) ∧ w.cell? ⟨b, 4 * i + 1, none⟩ = some (.int .i64 (lowC i)) ∧ w.cell? ⟨b, 4 * i + 2, none⟩ = some (.int .i64 (highC i)) ∧ w.cell? ⟨b, 4 * i + 3, none⟩ = some (.int .i64 (selfC i)) := by
  have := rowsV_at i hi
  simp only [BoxAt.cell h, List.getElem?_toArray]
  exact this

/-- Blocks stand as they stood, but that a box from B on may have got the row. -/
structure BoxE (i B : Nat) (w w' : World) : Prop where
  os : w'.os = w.os
  tape : w'.tape = w.tape
  output : w'.output = w.output
  size : w.heap.size ≤ w'.heap.size
  block : ∀ k, k < w.heap.size → w'.heap[k]? = w.heap[k]? ∨ (B ≤ k ∧ BoxAt w k zRow ∧ BoxAt w' k (rowBx i))
theorem BoxE.refl (i B : Nat) (w : World) : BoxE i B w w := ⟨rfl, rfl, rfl, Nat.le_refl _, fun _ _ => .inl rfl⟩
theorem BoxE.trans {i B : Nat} {w w' w'' : World} (h : BoxE i B w w') (h' : BoxE i B w' w'') : BoxE i B w w'' := by
  refine ⟨h'.os.trans h.os, h'.tape.trans h.tape, h'.output.trans h.output, Nat.le_trans h.size h'.size, fun k hk => ?_⟩
  rcases h.block k hk with e | ⟨e1, e2, e3⟩ <;> rcases h'.block k (Nat.lt_of_lt_of_le hk h.size) with f | ⟨f1, f2, f3⟩
  · exact .inl (f.trans e)
  · exact .inr ⟨f1, e.symm.trans f2, f3⟩
  · exact .inr ⟨e1, e2, f.trans e3⟩
  · exact .inr ⟨e1, e2, f3⟩
theorem BoxE.drew (i B : Nat) (w : World) : BoxE i B w { w with drawn := w.drawn + 1 } := ⟨rfl, rfl, rfl, Nat.le_refl _, fun _ _ => .inl rfl⟩
theorem BoxE.alloc (i B : Nat) (w : World) (o : Obj) : BoxE i B w (w.alloc o) := ⟨rfl, rfl, rfl, by simp, fun k hk => .inl (Below.heap_alloc _ _ _ hk)⟩
theorem BoxE.setRow {i B : Nat} {w : World} {b : Nat} (hB : B ≤ b) (h : BoxAt w b zRow ∨ BoxAt w b (rowBx i)) : BoxE i B w (w.setRow b (rowBx i)) := by
  refine ⟨rfl, rfl, rfl, by simp, fun k _ => ?_⟩
  by_cases e : k = b
  · subst e
    rcases h with h | h
    · exact .inr ⟨hB, h, setRow_heap w _ _ _ _ _ h⟩
    · exact .inl ((setRow_heap w _ _ _ _ _ h).trans h.symm)
  · exact .inl (setRow_other w b k _ e)
theorem BoxE.below {i B : Nat} {w w' : World} (h : BoxE i B w w') (hB : B ≤ w.heap.size) : Below B w w' :=
  ⟨h.os, h.tape, h.output, h.size, fun k hk => (h.block k (by omega)).elim id fun e => by have := e.1; omega⟩
theorem TabAt.on {i B : Nat} {w w' : World} {b : Nat} (h : TabAt w b) (hE : BoxE i B w w') : TabAt w' b := by
  rcases hE.block b h.lt with e | ⟨_, e, _⟩
  · exact e.trans h
  · have := congrArg Array.size (h.inj e)
    simp [rowsV_size, zRow] at this

/-- A box from B on. -/
def Bx (B : Nat) (w : World) (b : Nat) : Prop := B ≤ b ∧ ∃ cs, cs.size = 4 ∧ BoxAt w b cs
structure BoxJ (i B : Nat) (W0 : World) (l : Array Bool) (w : World) : Prop where
  e : BoxE i B W0 w
  none : l.getD 8 false = false → ∀ b, ¬ Bx B w b
  one : ∀ b c, Bx B w b → Bx B w c → b = c
  done : l.getD 9 false = true → l.getD 8 false = true ∧ ∀ b, Bx B w b → BoxAt w b (rowBx i)
theorem getD_set_other' {l : Array Bool} {j k : Nat} (h : j ≠ k) : (l.setIfInBounds k true).getD j false = l.getD j false := getD_set_other h
theorem BoxJ.on {i B : Nat} {W0 : World} {l : Array Bool} {w : World} (h : BoxJ i B W0 l w) (k : Nat) (h8 : k ≠ 8) (h9 : k ≠ 9) : BoxJ i B W0 (l.setIfInBounds k true) w := by
  refine ⟨h.e, fun hl => h.none ?_, h.one, fun hl => ?_⟩
  · rwa [getD_set_other' (Ne.symm h8)] at hl
  · rw [getD_set_other' (Ne.symm h9)] at hl
    rw [getD_set_other' (Ne.symm h8)]
    exact h.done hl
theorem bx_tab {B : Nat} {w : World} {b : Nat} (h : Bx B (w.alloc (.cells rowsV.toArray 48 (0, 0))) b) : Bx B w b := by
  obtain ⟨h1, cs, h2, h3⟩ := h
  by_cases e : b < w.heap.size
  · exact ⟨h1, cs, h2, (Below.heap_alloc _ _ _ e).symm.trans h3⟩
  · have hl := h3.lt
    simp at hl
    obtain rfl : b = w.heap.size := by omega
    have h4 : BoxAt (w.alloc (.cells rowsV.toArray 48 (0, 0))) w.heap.size rowsV.toArray := heap_alloc_new w _
    have := congrArg Array.size (h4.inj h3)
    rw [h2] at this
    simp [rowsV_size] at this
theorem BoxJ.tab {i B : Nat} {W0 : World} {l : Array Bool} {w : World} (h : BoxJ i B W0 l w) (k : Nat) (h8 : k ≠ 8) (h9 : k ≠ 9) : BoxJ i B W0 (l.setIfInBounds k true) (w.alloc (.cells rowsV.toArray 48 (0, 0))) := by
  have h' := h.on k h8 h9
  exact ⟨h'.e.trans (BoxE.alloc _ _ _ _), fun hl b hb => h'.none hl b (bx_tab hb), fun b c hb hc => h'.one b c (bx_tab hb) (bx_tab hc), fun hl => ⟨(h'.done hl).1, fun b hb => (Below.heap_alloc _ _ _ (bx_tab hb).2.choose_spec.2.lt).trans ((h'.done hl).2 b (bx_tab hb))⟩⟩
theorem BoxJ.box {i B : Nat} {W0 : World} {l : Array Bool} {w : World} (h : BoxJ i B W0 l w) (hl : l.getD 8 true = false) : BoxJ i B W0 (l.setIfInBounds 8 true) (w.alloc (.cells zRow 48 (0, 0))) := by
  have h8 := getD_true_false hl
  have hn := h.none h8
  have hx : ∀ b, Bx B (w.alloc (.cells zRow 48 (0, 0))) b → b = w.heap.size := fun b hb => by
    obtain ⟨h1, cs, h2, h3⟩ := hb
    by_cases e : b < w.heap.size
    · exact absurd ⟨h1, cs, h2, (Below.heap_alloc _ _ _ e).symm.trans h3⟩ (hn b)
    · have hl := h3.lt
      simp at hl
      omega
  refine ⟨h.e.trans (BoxE.alloc _ _ _ _), fun hf => ?_, fun b c hb hc => (hx b hb).trans (hx c hc).symm, fun hd => ?_⟩
  · rw [getD_set_same hl] at hf; cases hf
  · rw [getD_set_other' (by decide)] at hd
    have := (h.done hd).1
    rw [h8] at this
    cases this
theorem BoxJ.stored {i B : Nat} {W0 : World} {l : Array Bool} {w : World} (h : BoxJ i B W0 l w) (h8 : l.getD 8 false = true) {b : Nat} (hB : B ≤ b) (hb : BoxAt w b zRow ∨ BoxAt w b (rowBx i)) : BoxJ i B W0 (l.setIfInBounds 9 true) (w.setRow b (rowBx i)) := by
  have hat : BoxAt (w.setRow b (rowBx i)) b (rowBx i) := hb.elim (fun h => setRow_heap w _ _ _ _ _ h) (fun h => setRow_heap w _ _ _ _ _ h)
  have hbx : Bx B w b := hb.elim (fun h => ⟨hB, _, rfl, h⟩) (fun h => ⟨hB, _, rfl, h⟩)
  have hx : ∀ c, Bx B (w.setRow b (rowBx i)) c → c = b := fun c hc => by
    by_cases e : c = b
    · exact e
    · obtain ⟨h1, cs, h2, h3⟩ := hc
      exact h.one c b ⟨h1, cs, h2, (setRow_other w b c _ e).symm.trans h3⟩ hbx
  refine ⟨h.e.trans (BoxE.setRow hB hb), fun hf => ?_, fun c d hc hd => (hx c hc).trans (hx d hd).symm, fun _ => ⟨?_, fun c hc => ?_⟩⟩
  · rw [getD_set_other' (by decide), h8] at hf; cases hf
  · rw [getD_set_other' (by decide), h8]
  · rw [hx c hc]; exact hat

theorem BoxJ.start (i : Nat) (w : World) (l : Array Bool) (h9 : l.getD 9 false = false) : BoxJ i w.heap.size w l { w with drawn := w.drawn + 1 } := by
  have hn : ∀ b, ¬ Bx w.heap.size { w with drawn := w.drawn + 1 } b := fun b ⟨h1, cs, _, h3⟩ => by
    have : b < w.heap.size := h3.lt
    omega
  exact ⟨BoxE.drew _ _ _, fun _ => hn, fun b _ hb => absurd hb (hn b), fun h => by rw [h9] at h; cases h⟩

/-- What the operations yield. -/
def boxV (i B lB wg wf : Nat) (wq : Nat) (s : ByteArray) : Nat → Value → World → Prop
  | 0, v, w => ∃ b, v = .slice (some ⟨b, 0, none⟩) 23 23 ∧ TabAt w b
  | 1, v, _ => v = .int .i64 i
  | 2, v, w => ∃ b, v = .pointer (some ⟨b, 4 * i, none⟩) ∧ TabAt w b
  | 3, v, _ => v = .agg (rowBx i)
  | 4, v, _ => v = .pointer (some ⟨lB, 1, none⟩)
  | 5, v, _ => v = .slice (some ⟨wg, wf, none⟩) 2 wq
  | 6, v, _ => v = .pointer (some ⟨wg, wf + 1, none⟩)
  | 7, v, _ => v = .string s
  | 8, v, w => ∃ b, v = .pointer (some ⟨b, 0, none⟩) ∧ B ≤ b ∧ (BoxAt w b zRow ∨ BoxAt w b (rowBx i))
  | 9, _, _ => True
  | 10, v, _ => v = .string s
  | 11, v, _ => v = .bool false
  | _, _, _ => True
theorem boxV_on {i B lB wg wf wq : Nat} {s : ByteArray} (k : Nat) (v : Value) (w w' : World) (h : boxV i B lB wg wf wq s k v w) (hE : BoxE i B w w') : boxV i B lB wg wf wq s k v w' := by
  match k with
  | 0 => obtain ⟨b, h1, h2⟩ := h; exact ⟨b, h1, h2.on hE⟩
  | 1 | 3 | 4 | 5 | 6 | 7 | 9 | 10 | 11 => exact h
  | 2 => obtain ⟨b, h1, h2⟩ := h; exact ⟨b, h1, h2.on hE⟩
  | 8 =>
    obtain ⟨b, h1, h2, h3⟩ := h
    refine ⟨b, h1, h2, ?_⟩
    rcases hE.block b (h3.elim BoxAt.lt BoxAt.lt) with e | ⟨_, _, e⟩
    · exact h3.imp e.trans e.trans
    · exact .inr e
  | _ + 12 => exact trivial

end Go.Proofs.YtkninlahlgipoaaDoor
