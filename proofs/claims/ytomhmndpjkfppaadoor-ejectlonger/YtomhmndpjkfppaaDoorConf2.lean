/-
  The contracts of package config's row: whether what a configuration holds may be, how a word is read into it.
-/
import Derived.Test.YtomhmndpjkfppaaDoorConf1
import Derived.Test.YtomhmndpjkfppaaDoorLineNum
import Derived.Maps.RangeWalk
namespace Go.Proofs.YtomhmndpjkfppaaDoor
open Go.RowKit

/-- A row by its parts. -/
abbrev rowOf (nm : ByteArray) (k lo hi : Int) (sw : ByteArray) : Value := .agg #[.string nm, .int .i64 k, .int .i64 lo, .int .i64 hi, .string sw]

set_option maxRecDepth 100000 in
set_option maxHeartbeats 1000000 in
theorem may_num (i : Nat) (nm sw : ByteArray) (k lo hi x : Int) (hk : k = 1 ∨ k = 3) (cs : Array Value) (hx : cs[i]? = some (.int .i64 x))
    (hn : ∀ b W, Calls Tryd.prog 39 #[.pointer (some ⟨b, 0, none⟩), .string nm] W fun e w' => e = .returned (.pointer (some ⟨b, i, none⟩)) ∧ w' = W) (w : World) :
    Calls Tryd.prog 33 #[rowOf nm k lo hi sw, .agg cs] w fun e w' => e = .returned (.bool (decide (lo ≤ x ∧ x ≤ hi))) ∧ Below w.heap.size w w' := by
  have HN : Hid _ := hn
  clear hn
  rcases hk with rfl | rfl
  all_goals
    by_cases h1 : lo ≤ x
    · rw [show decide (lo ≤ x ∧ x ≤ hi) = decide (x ≤ hi) from by simp [h1]]
      go_enter Tryd.func33, Tryd.ntmps33
      go_wp2_with fail
      refine (HN.out _ _).mono ?_
      rintro e w1 ⟨rfl, hw⟩
      subst w1
      go_wp2
      go_ret
      exact ⟨rfl, ((Below.refl _ _).alloc (Nat.le_refl _) _).alloc (by simp) _⟩
    · rw [show decide (lo ≤ x ∧ x ≤ hi) = false from decide_eq_false fun h => h1 h.1]
      go_enter Tryd.func33, Tryd.ntmps33
      go_wp2_with fail
      refine (HN.out _ _).mono ?_
      rintro e w1 ⟨rfl, hw⟩
      subst w1
      go_wp2
      go_ret
      exact ⟨rfl, ((Below.refl _ _).alloc (Nat.le_refl _) _).alloc (by simp) _⟩

set_option maxRecDepth 100000 in
set_option maxHeartbeats 1000000 in
theorem may_two (nm sw : ByteArray) (lo hi : Int) (cs : Array Value) (w : World) :
    Calls Tryd.prog 33 #[rowOf nm 2 lo hi sw, .agg cs] w fun e w' => e = .returned (.bool true) ∧ Below w.heap.size w w' := by
  go_enter Tryd.func33, Tryd.ntmps33
  go_wp2
  go_ret
  exact ⟨rfl, ((Below.refl _ _).alloc (Nat.le_refl _) _).alloc (by simp) _⟩

set_option maxRecDepth 100000 in
set_option maxHeartbeats 1000000 in
theorem may_zone (nm sw z : ByteArray) (lo hi : Int) (cs : Array Value) (hz : cs[21]? = some (.string z)) (w : World) (hs : z.size ≤ 9223372036854775807) :
    Calls Tryd.prog 33 #[rowOf nm 4 lo hi sw, .agg cs] w fun e w' => e = .returned (.bool (decide (z.size = 0) || nameOK z)) ∧ Below w.heap.size w w' := by
  by_cases hz0 : z.size = 0
  · have hx1 := empty_size z hz0
    have hx2 : z.toList = [] := by simpa using hx1
    rw [decide_eq_true hz0, Bool.true_or]
    clear hx1 hz0
    go_enter Tryd.func33, Tryd.ntmps33
    go_wp2
    go_ret
    exact ⟨rfl, ((Below.refl _ _).alloc (Nat.le_refl _) _).alloc (by simp) _⟩
  · have hx1 := nonempty_size z hz0
    have hx2 : z.toList.isEmpty = false := by simpa using hx1
    rw [decide_eq_false hz0, Bool.false_or]
    have HN : Hid _ := name_same z
    generalize nameOK z = q at HN ⊢
    clear hz0
    go_enter Tryd.func33, Tryd.ntmps33
    go_wp2_with fail
    refine (HN.out _ hs).mono ?_
    rintro e w7 ⟨rfl, hw7⟩
    subst w7
    go_wp2
    go_ret
    exact ⟨rfl, ((Below.refl _ _).alloc (Nat.le_refl _) _).alloc (by simp) _⟩

/-- A block that the call's caller owns, and its cells. -/
def CellsAt (w : World) (b : Nat) (cs : Array Value) : Prop := w.heap[b]? = some (.cells cs 23 (0, 0))
theorem CellsAt.lt {w : World} {b : Nat} {cs : Array Value} (h : CellsAt w b cs) : b < w.heap.size := (Array.getElem?_eq_some_iff.1 h).1
theorem CellsAt.cell {w : World} {b i : Nat} {cs : Array Value} (h : CellsAt w b cs) : w.cell? ⟨b, i, none⟩ = cs[i]? := cell_of_row w b i cs _ _ h
theorem CellsAt.below {w w' : World} {b : Nat} {cs : Array Value} (h : CellsAt w b cs) (hb : Below w.heap.size w w') : CellsAt w' b cs := (hb.block b h.lt).trans h
theorem CellsAt.alloc {w : World} {b : Nat} {cs : Array Value} (h : CellsAt w b cs) (o : Obj) : CellsAt (w.alloc o) b cs := h.below ((Below.refl _ _).alloc (Nat.le_refl _) _)
theorem CellsAt.frozen {w : World} {b i : Nat} {cs : Array Value} (h : CellsAt w b cs) : w.frozen? ⟨b, i, none⟩ = false := frozen_of_row w b i cs _ h
theorem CellsAt.set {w : World} {b i : Nat} {cs : Array Value} (h : CellsAt w b cs) (v : Value) : CellsAt (w.setCell ⟨b, i, none⟩ v) b (cs.setIfInBounds i v) := heap_setCell_same w b i cs _ v h
theorem grown_set (w : World) (a : Addr) (v : Value) : w.grownBy (w.setCell a v) (some a.block) :=
  ⟨rfl, rfl, rfl, by simp [World.setCell], fun k _ hk => heap_setCell_other w a k v (fun e => hk (by rw [e]))⟩
theorem grown_below {w w' : World} (h : Below w.heap.size w w') (o : Option Nat) : w.grownBy w' o := ⟨h.os, h.tape, h.output, h.size, fun k hk _ => h.block k hk⟩
theorem below_grown {B : Nat} {a w w' : World} (h : Below B a w) {b : Nat} (hg : w.grownBy w' (some b)) (hb : B ≤ b) (hB : B ≤ w.heap.size) : Below B a w' :=
  ⟨hg.os.trans h.os, hg.tape.trans h.tape, hg.output.trans h.output, Nat.le_trans h.size hg.size, fun k hk => (hg.block k (by omega) (fun e => by cases e; omega)).trans (h.block k hk)⟩

set_option maxRecDepth 100000 in
set_option maxHeartbeats 1000000 in
theorem read_num (i : Nat) (nm sw s : ByteArray) (lo hi : Int) (cs : Array Value) (hi2 : i < cs.size) (b : Nat)
    (hn : ∀ b W, Calls Tryd.prog 39 #[.pointer (some ⟨b, 0, none⟩), .string nm] W fun e w' => e = .returned (.pointer (some ⟨b, i, none⟩)) ∧ w' = W) (w : World) (h : CellsAt w b cs) (hs : s.size ≤ 9223372036854775807) :
    Calls Tryd.prog 34 #[rowOf nm 1 lo hi sw, .pointer (some ⟨b, 0, none⟩), .string s] w fun e w' => e = .returned (.bool (numOK s)) ∧ CellsAt w' b (cs.setIfInBounds i (.int .i64 (numV s))) ∧ w.grownBy w' (some b) := by
  have HN : Hid _ := hn
  have H : Hid (CellsAt w b cs) := h
  have HS : Hid _ := fun W => number_same s W hs
  obtain ⟨old, hold⟩ : ∃ old, cs[i]? = some old := ⟨_, Array.getElem?_eq_getElem hi2⟩
  clear hn h
  generalize numOK s = q at HS ⊢
  generalize numV s = x at HS ⊢
  go_enter Tryd.func34, Tryd.ntmps34
  go_wp2_with fail
  refine (HN.out _ _).mono ?_
  rintro e w1 ⟨rfl, hw⟩
  subst w1
  go_wp2_with fail
  refine (HS.out _).mono ?_
  rintro e w1 ⟨rfl, hw⟩
  subst w1
  generalize hW : w.alloc _ = W
  have HW : Hid (CellsAt W b cs) := by rw [← hW]; exact H.out.alloc _
  have HG : Hid (w.grownBy W (some b)) := by rw [← hW]; exact grown_below ((Below.refl _ _).alloc (Nat.le_refl _) _) _
  have hc : W.cell? ⟨b, i, none⟩ = some old := HW.out.cell.trans hold
  have hf : W.frozen? ⟨b, i, none⟩ = false := HW.out.frozen
  clear hW
  go_wp2
  go_ret
  exact ⟨rfl, HW.out.set _, HG.out.trans (grown_set W _ _)⟩

set_option maxRecDepth 100000 in
set_option maxHeartbeats 1000000 in
theorem read_pol (i : Nat) (nm sw s : ByteArray) (lo hi : Int) (cs : Array Value) (hi2 : i < cs.size) (b : Nat)
    (hn : ∀ b W, Calls Tryd.prog 39 #[.pointer (some ⟨b, 0, none⟩), .string nm] W fun e w' => e = .returned (.pointer (some ⟨b, i, none⟩)) ∧ w' = W) (w : World) (h : CellsAt w b cs) :
    Calls Tryd.prog 34 #[rowOf nm 3 lo hi sw, .pointer (some ⟨b, 0, none⟩), .string s] w fun e w' => e = .returned (.bool (decide (placeW s polW ≠ 0))) ∧ CellsAt w' b (cs.setIfInBounds i (.int .i64 (placeW s polW))) ∧ w.grownBy w' (some b) := by
  have HN : Hid _ := hn
  have H : Hid (CellsAt w b cs) := h
  have HS : Hid _ := fun W => policyOf_any s W
  obtain ⟨old, hold⟩ : ∃ old, cs[i]? = some old := ⟨_, Array.getElem?_eq_getElem hi2⟩
  clear hn h
  generalize decide (placeW s polW ≠ 0) = q at HS ⊢
  generalize placeW s polW = x at HS ⊢
  go_enter Tryd.func34, Tryd.ntmps34
  go_wp2_with fail
  refine (HN.out _ _).mono ?_
  rintro e w1 ⟨rfl, hw⟩
  subst w1
  go_wp2_with fail
  refine (HS.out _).mono ?_
  rintro e w1 ⟨rfl, hw⟩
  subst w1
  generalize hW : w.alloc _ = W
  have HW : Hid (CellsAt W b cs) := by rw [← hW]; exact H.out.alloc _
  have HG : Hid (w.grownBy W (some b)) := by rw [← hW]; exact grown_below ((Below.refl _ _).alloc (Nat.le_refl _) _) _
  have hc : W.cell? ⟨b, i, none⟩ = some old := HW.out.cell.trans hold
  have hf : W.frozen? ⟨b, i, none⟩ = false := HW.out.frozen
  clear hW
  go_wp2
  go_ret
  exact ⟨rfl, HW.out.set _, HG.out.trans (grown_set W _ _)⟩

set_option maxRecDepth 100000 in
set_option maxHeartbeats 1000000 in
theorem read_cho (i : Nat) (nm sw s : ByteArray) (lo hi : Int) (cs : Array Value) (hi2 : i < cs.size) (b : Nat)
    (hn : ∀ b W, Calls Tryd.prog 43 #[.pointer (some ⟨b, 0, none⟩), .string nm] W fun e w' => e = .returned (.pointer (some ⟨b, i, none⟩)) ∧ w' = W) (w : World) (h : CellsAt w b cs) :
    Calls Tryd.prog 34 #[rowOf nm 2 lo hi sw, .pointer (some ⟨b, 0, none⟩), .string s] w fun e w' => e = .returned (.bool (decide (placeW s yesW ≠ 0))) ∧ CellsAt w' b (cs.setIfInBounds i (.bool (placeW s yesW == 2))) ∧ w.grownBy w' (some b) := by
  have HN : Hid _ := hn
  have H : Hid (CellsAt w b cs) := h
  have HS : Hid _ := fun W => choiceOf_any s W
  obtain ⟨old, hold⟩ : ∃ old, cs[i]? = some old := ⟨_, Array.getElem?_eq_getElem hi2⟩
  clear hn h
  generalize decide (placeW s yesW ≠ 0) = q at HS ⊢
  generalize (placeW s yesW == 2) = x at HS ⊢
  go_enter Tryd.func34, Tryd.ntmps34
  go_wp2_with fail
  refine (HN.out _ _).mono ?_
  rintro e w1 ⟨rfl, hw⟩
  subst w1
  go_wp2_with fail
  refine (HS.out _).mono ?_
  rintro e w1 ⟨rfl, hw⟩
  subst w1
  generalize hW : w.alloc _ = W
  have HW : Hid (CellsAt W b cs) := by rw [← hW]; exact H.out.alloc _
  have HG : Hid (w.grownBy W (some b)) := by rw [← hW]; exact grown_below ((Below.refl _ _).alloc (Nat.le_refl _) _) _
  have hc : W.cell? ⟨b, i, none⟩ = some old := HW.out.cell.trans hold
  have hf : W.frozen? ⟨b, i, none⟩ = false := HW.out.frozen
  clear hW
  go_wp2
  go_ret
  exact ⟨rfl, HW.out.set _, HG.out.trans (grown_set W _ _)⟩

set_option maxRecDepth 100000 in
set_option maxHeartbeats 1000000 in
theorem read_zone (nm sw s : ByteArray) (lo hi : Int) (cs : Array Value) (hi2 : 21 < cs.size) (b : Nat) (w : World) (h : CellsAt w b cs) :
    Calls Tryd.prog 34 #[rowOf nm 4 lo hi sw, .pointer (some ⟨b, 0, none⟩), .string s] w fun e w' => e = .returned (.bool true) ∧ CellsAt w' b (cs.setIfInBounds 21 (.string (if s = mkS [45] then ByteArray.empty else s))) ∧ w.grownBy w' (some b) := by
  have H : Hid (CellsAt w b cs) := h
  have HS : Hid _ := fun W => zoneOf_any s W
  obtain ⟨old, hold⟩ : ∃ old, cs[21]? = some old := ⟨_, Array.getElem?_eq_getElem hi2⟩
  clear h
  generalize (if s = mkS [45] then ByteArray.empty else s) = x at HS ⊢
  go_enter Tryd.func34, Tryd.ntmps34
  go_wp2_with fail
  refine (HS.out _).mono ?_
  rintro e w1 ⟨rfl, hw⟩
  subst w1
  generalize hW : w.alloc _ = W
  have HW : Hid (CellsAt W b cs) := by rw [← hW]; exact H.out.alloc _
  have HG : Hid (w.grownBy W (some b)) := by rw [← hW]; exact grown_below ((Below.refl _ _).alloc (Nat.le_refl _) _) _
  have hc : W.cell? ⟨b, 21, none⟩ = some old := HW.out.cell.trans hold
  have hf : W.frozen? ⟨b, 21, none⟩ = false := HW.out.frozen
  clear hW
  go_wp2
  go_ret
  exact ⟨rfl, HW.out.set _, HG.out.trans (grown_set W _ _)⟩

end Go.Proofs.YtomhmndpjkfppaaDoor
