/-
  The contract of package config's readLine.
-/
import Derived.Test.YtomhmndpjkfppaaDoorConf4
import Derived.Test.YtomhmndpjkfppaaDoorRels
import Derived.Test.YtomhmndpjkfppaaDoorBase
namespace Go.Proofs.YtomhmndpjkfppaaDoor
open Go.RowKit

theorem tab_cell {w : World} (h : TabC w) (i j : Nat) (hi : i < 23) (hj : j < 5) : w.cell? ⟨0, i * 5 + j, none⟩ = (rowL i)[j]? := by
  obtain ⟨t, fr, hg⟩ := h
  rw [cell_of_row w _ _ _ t fr hg, ← tab_row i hi]
  unfold tabArr
  simp [hj]

/-- What stands in the place of readLine's last test. -/
def readV (b : Nat) (cs' : Array Value) (row : Value) (wv : Value) (wa : Addr) (s : ByteArray) (q m : Bool) : Nat → Value → World → Prop
  | 0, v, _ => v = row
  | 1, v, _ => v = .pointer (some ⟨b, 0, none⟩)
  | 2, v, _ => v = wv
  | 3, v, _ => v = .pointer (some wa)
  | 4, v, _ => v = .string s
  | 5, v, w => v = .bool q ∧ CellsAt w b cs'
  | 6, v, w => v = .bool (!q) ∧ CellsAt w b cs'
  | 7, v, w => v = .bool (!q) ∧ CellsAt w b cs'
  | 8, v, _ => q = true → v = row
  | 9, v, _ => q = true → v = .pointer (some ⟨b, 0, none⟩)
  | 10, v, _ => q = true → v = .pointer (some ⟨b, 0, none⟩)
  | 11, v, _ => q = true → v = .agg cs'
  | 12, v, _ => q = true → v = .bool m
  | 13, v, _ => q = true → v = .bool (!m)
  | _, v, w => v = .bool (!(q && m)) ∧ CellsAt w b cs'
/-- What goes on there: all but the caller's configuration stands; that one is as it was, or read. -/
def readE (b : Nat) (cs cs' : Array Value) (w w' : World) : Prop := w.grownBy w' (some b) ∧ (CellsAt w b cs' → CellsAt w' b cs') ∧ (CellsAt w b cs → CellsAt w' b cs ∨ CellsAt w' b cs')
theorem readE_refl (b : Nat) (cs cs' : Array Value) (w : World) : readE b cs cs' w w := ⟨grown_below (Below.refl _ _) _, id, .inl⟩
theorem readE_trans {b : Nat} {cs cs' : Array Value} {w w' w'' : World} (h : readE b cs cs' w w') (h2 : readE b cs cs' w' w'') : readE b cs cs' w w'' :=
  ⟨h.1.trans h2.1, fun x => h2.2.1 (h.2.1 x), fun x => (h.2.2 x).elim h2.2.2 fun y => .inr (h2.2.1 y)⟩
theorem readE_below {b : Nat} {cs cs' : Array Value} {w w' : World} (h : Below w.heap.size w w') : readE b cs cs' w w' := ⟨grown_below h _, fun x => x.below h, fun x => .inl (x.below h)⟩
theorem readV_stays {b : Nat} {cs cs' : Array Value} {row wv : Value} {wa : Addr} {s : ByteArray} {q m : Bool} : ∀ i v w w', readV b cs' row wv wa s q m i v w → readE b cs cs' w w' → readV b cs' row wv wa s q m i v w' := by
  intro i v w w' h hE
  match i with
  | 0 | 1 | 2 | 3 | 4 => exact h
  | 5 | 6 | 7 => exact ⟨h.1, hE.2.1 h.2⟩
  | 8 | 9 | 10 | 11 | 12 | 13 => exact h
  | n + 14 => exact ⟨h.1, hE.2.1 h.2⟩

theorem words_none {ws : List ByteArray} (h : ws.length ≠ 2) : wordsC ws = none := by
  unfold wordsC
  match ws with
  | [] => rfl
  | [_] => rfl
  | [_, _] => simp at h
  | _ :: _ :: _ :: _ => rfl

/-- What readLine's answer says. -/
def LineSays (R : Option (Nat × Int × ByteArray)) (n : List Int) (z : ByteArray) (b : Nat) (e : Ending) (w' : World) : Prop := match R with
  | none => e = .returned (.tuple #[.int .i64 0, .bool false])
  | some (i, k, zz) => e = .returned (.tuple #[.int .i64 i, .bool true]) ∧ CellsAt w' b (ofNums (n.set i k) (if i = 21 then zz else z)).arr

end Go.Proofs.YtomhmndpjkfppaaDoor
