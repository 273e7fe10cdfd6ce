/-
  The reference's answers to chapter 6: a text read.
-/
import Derived.Test.YtkninlahlgipoaaDoorRefNums2
import Derived.Test.YtkninlahlgipoaaDoorRefWords
import Derived.Test.YtkninlahlgipoaaDoorRefMay
import Derived.Test.YtkninlahlgipoaaDoorRefSplit
import Derived.Test.YtkninlahlgipoaaDoorConf8
import Derived.Test.YtkninlahlgipoaaDoorRefBox
import Derived.Test.YtkninlahlgipoaaDoorRels
import Derived.Deep.Light
import Derived.Deep.CutRange
import Derived.Deep.Cut
import Derived.Deep.DeepCutAuto
namespace Go.Proofs.YtkninlahlgipoaaDoor
open Go.RowKit

set_option maxRecDepth 100000 in
set_option maxHeartbeats 2000000 in
theorem rParse_bad (s : ByteArray) (no er : Int) (L : List LineT) (hsp : splitV s = (L, no, er)) (her : ¬ er = 0) (w : World) (hs : s.size ≤ 9223372036854775807) :
    Calls Tryd.prog 6 #[.string s] w fun e w' => e = .returned (.tuple #[.agg zeroArr, .int .i64 no, .int .i64 er]) ∧ Below w.heap.size w w' := by
  have HSp := fun W => rSplit_any s W hs
  rw [hsp] at HSp
  simp only at HSp
  have h0 : (er == 0) = false := by rw [beq_eq_false_iff_ne]; exact her
  have HL : Hid (splitV s = (L, no, er)) := hsp
  clear hsp
  go_enter Tryd.func6, Tryd.ntmps6
  go_wp2_with fail
  generalize hW0 : w.alloc _ = W0
  have HC0 : Hid (CellsAt W0 w.heap.size zeroArr) := by show CellsAt _ _ _; rw [← hW0]; exact heap_alloc_new w _
  have HB0 : Hid (Below w.heap.size w W0) := by show Below _ _ _; rw [← hW0]; exact (Below.refl _ _).alloc (Nat.le_refl _) _
  clear hW0
  refine (HSp _).mono ?_
  rintro e w1 ⟨v, rfl, _, hb⟩
  have HC1 : Hid (CellsAt w1 w.heap.size zeroArr) := HC0.out.below hb
  have HB1 : Hid (Below w.heap.size w w1) := HB0.out.trans (hb.mono HB0.out.size)
  clear hb HSp
  go_wp2_with (refine wpList_store_row rfl 23 (.tmp 2) (.tmp 28) rfl w.heap.size zeroArr rfl rfl 23 _ HC1.out zero_info rfl zeroArr_one ?_)
  try simp only [Exit.inBlock, Exit.then]
  refine bodyPost_ret (results_cell3 rfl _ _ w.heap.size 23 _ _ _ rfl (setRow_heap w1 _ _ _ _ _ HC1.out) Tryd.underlying23 rfl zero_info) rfl ?_
  exact ⟨rfl, below_setRow HB1.out (Nat.le_refl _) _⟩

/-- A row of numbers of the call's own; which names stood. -/
def NumsAt (w : World) (b : Nat) (n : List Int) : Prop := w.heap[b]? = some (.cells (n.map (Value.int .i64)).toArray 3 (0, 0))
def SeenAt (w : World) (b : Nat) (seen : List Bool) : Prop := w.heap[b]? = some (.cells (seen.map Value.bool).toArray 44 (0, 0))
theorem NumsAt.lt {w : World} {b : Nat} {n : List Int} (h : NumsAt w b n) : b < w.heap.size := (Array.getElem?_eq_some_iff.1 h).1
theorem NumsAt.below {w w' : World} {b : Nat} {n : List Int} (h : NumsAt w b n) (hb : Below w.heap.size w w') : NumsAt w' b n := (hb.block b h.lt).trans h
theorem NumsAt.alloc {w : World} {b : Nat} {n : List Int} (h : NumsAt w b n) (o : Obj) : NumsAt (w.alloc o) b n := h.below ((Below.refl _ _).alloc (Nat.le_refl _) _)
theorem NumsAt.grown {w w' : World} {b c : Nat} {n : List Int} (h : NumsAt w b n) (hg : w.grownBy w' (some c)) (hne : b ≠ c) : NumsAt w' b n := (hg.block b h.lt (by simpa using hne)).trans h
theorem NumsAt.cell {w : World} {b i : Nat} {n : List Int} (h : NumsAt w b n) (hi : i < n.length) : w.cell? ⟨b, i, none⟩ = some (.int .i64 (n.getD i 0)) := by
  rw [cell_of_row w b i _ _ _ h]
  simp [hi]
theorem NumsAt.frozen {w : World} {b i : Nat} {n : List Int} (h : NumsAt w b n) : w.frozen? ⟨b, i, none⟩ = false := frozen_of_row w b i _ _ h
theorem NumsAt.set {w : World} {b i : Nat} {n : List Int} (h : NumsAt w b n) (k : Int) : NumsAt (w.setCell ⟨b, i, none⟩ (.int .i64 k)) b (n.set i k) := by
  have := heap_setCell_same w b i _ _ (.int .i64 k) h
  unfold NumsAt
  rw [this]
  congr 2
  apply Array.toList_inj.1
  simp only [Array.toList_setIfInBounds, List.map_set]
theorem NumsAt.row {w : World} {b : Nat} {n : List Int} (h : NumsAt w b n) (hl : n.length = 23) : IsRow 1 w (.slice (some ⟨b, 0, none⟩) 23 23) 23 (n.map (Value.int .i64)) := by
  refine ⟨by simp [hl], ⟨by unfold maxLen; omega, by unfold roomy maxLen; omega⟩, .inr ⟨by omega, b, 0, 23, rfl, h.lt, fun j hj => ?_⟩⟩
  rw [Nat.zero_add, cell_of_row w b j _ _ _ h]
  simp
theorem SeenAt.lt {w : World} {b : Nat} {n : List Bool} (h : SeenAt w b n) : b < w.heap.size := (Array.getElem?_eq_some_iff.1 h).1
theorem SeenAt.below {w w' : World} {b : Nat} {n : List Bool} (h : SeenAt w b n) (hb : Below w.heap.size w w') : SeenAt w' b n := (hb.block b h.lt).trans h
theorem SeenAt.alloc {w : World} {b : Nat} {n : List Bool} (h : SeenAt w b n) (o : Obj) : SeenAt (w.alloc o) b n := h.below ((Below.refl _ _).alloc (Nat.le_refl _) _)
theorem SeenAt.grown {w w' : World} {b c : Nat} {n : List Bool} (h : SeenAt w b n) (hg : w.grownBy w' (some c)) (hne : b ≠ c) : SeenAt w' b n := (hg.block b h.lt (by simpa using hne)).trans h
theorem SeenAt.cell {w : World} {b i : Nat} {n : List Bool} (h : SeenAt w b n) (hi : i < n.length) : w.cell? ⟨b, i, none⟩ = some (.bool (n.getD i false)) := by
  rw [cell_of_row w b i _ _ _ h]
  simp [hi]
theorem SeenAt.frozen {w : World} {b i : Nat} {n : List Bool} (h : SeenAt w b n) : w.frozen? ⟨b, i, none⟩ = false := frozen_of_row w b i _ _ h
theorem SeenAt.set {w : World} {b i : Nat} {n : List Bool} (h : SeenAt w b n) : SeenAt (w.setCell ⟨b, i, none⟩ (.bool true)) b (n.set i true) := by
  have := heap_setCell_same w b i _ _ (.bool true) h
  unfold SeenAt
  rw [this]
  congr 2
  apply Array.toList_inj.1
  simp only [Array.toList_setIfInBounds, List.map_set]

/-- As long as no zone was named there is none. -/
def ZoneR (r : Read) : Prop := r.seen.getD 21 false = false → r.z = ByteArray.empty
theorem step_zone {r r' : Read} {ws : List ByteArray} (h : stepC r ws = some r') (hz : ZoneR r) (hl : r.seen.length = 30) : ZoneR r' := by
  unfold stepC at h
  match ws with
  | [] => cases h
  | [_] => cases h
  | _ :: _ :: _ :: _ => cases h
  | [a, b] =>
    simp only at h
    cases hf : findC a with
    | none => simp only [hf] at h; cases h
    | some i =>
      simp only [hf] at h
      cases hs : r.seen.getD i false with
      | true => rw [hs] at h; simp at h
      | false =>
        rw [hs] at h
        simp only [Bool.false_eq_true, if_false] at h
        cases hr : readC i b with
        | none => rw [hr] at h; cases h
        | some p =>
          obtain ⟨k, z⟩ := p
          rw [hr] at h
          simp only [Option.some.injEq] at h
          subst h
          intro h2
          simp only [List.getD_eq_getElem?_getD, List.getElem?_set] at h2
          by_cases e : i = 21
          · subst e
            have : 21 < r.seen.length := by omega
            simp [this] at h2
          · simp only [if_neg e] at h2
            simp only [if_neg e]
            exact hz (by rw [List.getD_eq_getElem?_getD]; exact h2)

/-- What is told of the lines read so far. -/
structure Reading2 (L : List LineT) (k : Nat) (r : Read) (nB sB : Nat) (w1 wr : World) : Prop where
  run : runC read0 L = runC r (L.drop k)
  good : GoodR r
  len : r.seen.length = 30
  nums : NumsAt wr nB r.n
  seen : SeenAt wr sB r.seen
  below : Below w1.heap.size w1 wr
  zone : ZoneR r
theorem Reading2.on {L : List LineT} {k : Nat} {r : Read} {nB sB : Nat} {w1 wr W : World} (h : Reading2 L k r nB sB w1 wr) (hb : Below wr.heap.size wr W) : Reading2 L k r nB sB w1 W :=
  ⟨h.run, h.good, h.len, h.nums.below hb, h.seen.below hb, h.below.trans (hb.mono h.below.size), h.zone⟩

/-- The place of the first of two words in the table; -1: none. -/
def atC (ws : List ByteArray) : Int := match ws with
  | [a, _] => match findC a with
    | some i => (i : Int)
    | none => -1
  | _ => -1
theorem atC_none {ws : List ByteArray} (h : ws.length ≠ 2) : atC ws = -1 := by
  unfold atC
  match ws with
  | [] => rfl
  | [_] => rfl
  | [_, _] => simp at h
  | _ :: _ :: _ :: _ => rfl
theorem name_eq {a : ByteArray} {j : Nat} (hj : j < 23) (h : (nameC j == a) = true) : findC a = some j := by
  have e : nameC j = a := by
    rw [beqB, beq_iff_eq, ByteArray.toList_eq, ByteArray.toList_eq] at h
    exact ByteArray.ext (Array.toList_inj.1 h)
  rw [← e]
  exact find_name j hj
/-- The words, and the place of the first of them in the table. -/
def wordsC' (ws : List ByteArray) : Option (ByteArray × ByteArray × Nat) := match ws with
  | [a, s] => match findC a with
    | some i => some (a, s, i)
    | none => none
  | _ => none
theorem words_at_none {ws : List ByteArray} (h : wordsC' ws = none) : atC ws = -1 ∧ ∀ r, stepC r ws = none := by
  match ws with
  | [] => exact ⟨rfl, fun _ => rfl⟩
  | [_] => exact ⟨rfl, fun _ => rfl⟩
  | _ :: _ :: _ :: _ => exact ⟨rfl, fun _ => rfl⟩
  | [a, s] =>
    cases hf : findC a with
    | none => exact ⟨by unfold atC; simp only [hf], fun r => by unfold stepC; simp only [hf]⟩
    | some i => unfold wordsC' at h; simp only [hf] at h; cases h
theorem words_at_some {ws : List ByteArray} {a s : ByteArray} {i : Nat} (h : wordsC' ws = some (a, s, i)) : ws = [a, s] ∧ findC a = some i ∧ atC ws = (i : Int) := by
  match ws with
  | [] => cases h
  | [_] => cases h
  | _ :: _ :: _ :: _ => cases h
  | [a', s'] =>
    cases hf : findC a' with
    | none => unfold wordsC' at h; simp only [hf] at h; cases h
    | some j =>
      unfold wordsC' at h
      simp only [hf, Option.some.injEq, Prod.mk.injEq] at h
      obtain ⟨rfl, rfl, rfl⟩ := h
      exact ⟨rfl, hf, by unfold atC; simp only [hf]⟩
/-- As far as the inner loop has come. -/
def AtTo (a : ByteArray) (m : Nat) (x : Value) : Prop := (x = .int .i64 (-1) ∧ ∀ j, j < m → (nameC j == a) = false) ∨ ∃ j : Nat, j < m ∧ j < 23 ∧ x = .int .i64 j ∧ (nameC j == a) = true
theorem atTo_end {a s : ByteArray} {x : Value} (h : AtTo a 23 x) : x = .int .i64 (atC [a, s]) := by
  rcases h with ⟨rfl, h⟩ | ⟨j, _, hj, rfl, h⟩
  · unfold atC
    simp only [find_no h]
  · unfold atC
    simp only [name_eq hj h]
theorem atTo_next {a : ByteArray} {m : Nat} {x : Value} (h : AtTo a m x) (hn : (nameC m == a) = false) : AtTo a (m + 1) x := by
  rcases h with ⟨rfl, h⟩ | ⟨j, h1, hj, rfl, h⟩
  · refine .inl ⟨rfl, fun j hj => ?_⟩
    rcases Nat.lt_or_ge j m with h2 | h2
    · exact h j h2
    · have e : j = m := by omega
      rw [e]; exact hn
  · exact .inr ⟨j, by omega, hj, rfl, h⟩

theorem beq_strC (x y : ByteArray) : (x.toList == y.toList) = decide (x = y) := by
  by_cases h : x = y
  · subst h; simp
  · rw [decide_eq_false h, beq_eq_false_iff_ne, ne_eq, ByteArray.toList_eq, ByteArray.toList_eq]
    intro e
    exact h (ByteArray.ext (by simpa using e))
theorem nums_zone {r : Read} (h : GoodR r) : r.n.set 21 0 = r.n := by
  have h1 := h.fits 21 (by omega)
  unfold fitsC at h1
  rw [decide_eq_true_eq] at h1
  have e1 : lowC 21 = 0 := by decide +kernel
  have e2 : highC 21 = 0 := by decide +kernel
  rw [e1, e2] at h1
  have hl := h.len
  have h2 : r.n[21]'(by omega) = 0 := by
    have : r.n.getD 21 0 = r.n[21]'(by omega) := by rw [List.getD_eq_getElem?_getD, List.getElem?_eq_getElem (by omega)]; rfl
    omega
  conv => lhs; rw [← h2]
  exact List.set_getElem_self (by omega)
theorem dash_eq (s : ByteArray) : (s.toList == [45]) = decide (s = mkS [45]) := by
  have h := beq_strC s (mkS [45])
  rwa [ByteArray.toList_eq (mkS [45]), show (mkS [45]).data.toList = [45] from rfl] at h
theorem readC_dash {s : ByteArray} (h : (s.toList == [45]) = true) : readC 21 s = some (0, ByteArray.empty) := by
  rw [dash_eq, decide_eq_true_eq] at h
  unfold readC
  rw [if_pos rfl, if_pos h]
theorem readC_zone {s : ByteArray} (h : (s.toList == [45]) = false) : readC 21 s = if nameOK s then some (0, s) else none := by
  rw [dash_eq, decide_eq_false_iff_not] at h
  unfold readC
  rw [if_pos rfl, if_neg h]
theorem put_num {w1 W W5 : World} {nB sB lB i : Nat} {no k : Int} {n : List Int} {seen : List Bool} (hb : Below w1.heap.size w1 W) (h5 : Below W.heap.size W W5) (hl : lB < W.heap.size ∧ W.cell? ⟨lB, 0, none⟩ = some (.int .i64 no)) (hn : NumsAt W nB n) (hs : SeenAt W sB seen) (h1 : w1.heap.size ≤ nB) (h2 : nB ≠ sB) (h3 : nB < lB) :
    Below w1.heap.size w1 (W5.setCell ⟨nB, i, none⟩ (.int .i64 k)) ∧ (lB < (W5.setCell ⟨nB, i, none⟩ (.int .i64 k)).heap.size ∧ (W5.setCell ⟨nB, i, none⟩ (.int .i64 k)).cell? ⟨lB, 0, none⟩ = some (.int .i64 no)) ∧
      NumsAt (W5.setCell ⟨nB, i, none⟩ (.int .i64 k)) nB (n.set i k) ∧ SeenAt (W5.setCell ⟨nB, i, none⟩ (.int .i64 k)) sB seen := by
  refine ⟨(hb.trans (h5.mono hb.size)).setCell h1 _, ⟨?_, ?_⟩, (hn.below h5).set k, (hs.below h5).grown (grown_set _ _ _) (Ne.symm h2)⟩
  · have := h5.size
    have := hl.1
    simp [World.setCell]
    omega
  · rw [World.cell?_of_block (w := W5) (Below.heap_setCell W5 _ _ lB (by show lB ≠ nB; omega)), h5.cell (p := ⟨lB, 0, none⟩) hl.1]
    exact hl.2
theorem fresh_strs (W : World) (ws : List ByteArray) (t : TypeId) (h0 : 0 < ws.length) (hl : ws.length ≤ 1000) : IsStrs (W.alloc (.cells (ws.map Value.string).toArray t)) (.slice (some ⟨W.heap.size, 0, none⟩) ws.length ws.length) ws :=
  IsRow.fresh W (ws.map Value.string) 1 ws.length t ws.length (by simp) (Nat.le_refl _) (by unfold maxLen; omega) h0
theorem readC_pol (s : ByteArray) : readC 20 s = if placeW s polW = 0 then none else some ((placeW s polW : Int), ByteArray.empty) := by
  unfold readC
  rw [if_neg (by decide), if_pos rfl]
theorem readC_yes {i : Nat} (h : i = 15 ∨ i = 22) (s : ByteArray) : readC i s = if placeW s yesW = 0 then none else some ((placeW s yesW : Int) - 1, ByteArray.empty) := by
  unfold readC
  rw [if_neg (by omega), if_neg (by omega), if_pos h]
theorem readC_num {i : Nat} (h1 : i ≠ 21) (h2 : i ≠ 20) (h3 : ¬ (i = 15 ∨ i = 22)) (s : ByteArray) : readC i s = if numOK s && decide (lowC i ≤ numV s ∧ numV s ≤ highC i) then some (numV s, ByteArray.empty) else none := by
  unfold readC
  rw [if_neg h1, if_neg h2, if_neg h3]
theorem place_le (s : ByteArray) (l : List ByteArray) (n : Nat) (h : l.length ≤ n) : placeW s l ≤ n := by
  unfold placeW
  split
  · rename_i i hi
    have := List.findIdx?_eq_some_iff_findIdx_eq.1 hi
    omega
  · omega

/-- Behind the switch by kinds: what is read of the word. -/
def Switched (i : Nat) (s : ByteArray) (r : Read) (nB sB lB : Nat) (no : Int) (w1 X : World) (z q : Value) : Prop :=
  Below w1.heap.size w1 X ∧ (lB < X.heap.size ∧ X.cell? ⟨lB, 0, none⟩ = some (.int .i64 no)) ∧ match readC i s with
  | none => q = .bool false
  | some (k, y) => q = .bool true ∧ z = .string (if i = 21 then y else r.z) ∧ NumsAt X nB (r.n.set i k) ∧ SeenAt X sB (r.seen.set i true)

theorem arr_infoR (c : Cfg) : (Tryd.prog.info? 23).map (·.size) = some c.arr.size := by rw [arr_size]; kernel_rfl
theorem arr_oneR (c : Cfg) : c.arr.all (·.oneCell') = true := by unfold Cfg.arr Cfg.cells; simp [Value.oneCell']

set_option maxRecDepth 100000 in
set_option maxHeartbeats 8000000 in
theorem rParse_good (s : ByteArray) (L : List LineT) (hsp : splitV s = (L, 0, 0)) (w : World) (hs : s.size ≤ 9223372036854775807) :
    Calls Tryd.prog 6 #[.string s] w fun e w' => (match runC read0 L with
      | .inl r => e = .returned (.tuple #[.agg (ofNums r.n r.z).arr, .int .i64 0, .int .i64 0])
      | .inr no => e = .returned (.tuple #[.agg zeroArr, .int .i64 no, .int .i64 2])) ∧ Below w.heap.size w w' := by
  have HSp := fun W => rSplit_any s W hs
  rw [hsp] at HSp
  simp only at HSp
  have HW : Hid (∀ l ∈ L, (∀ x ∈ l.2, x.size ≠ 0 ∧ x.size ≤ 4000) ∧ 1 ≤ l.1 ∧ l.1 ≤ 4001) := by
    have := split_words s
    rw [hsp] at this
    exact this
  clear hsp
  obtain ⟨R, hR⟩ : ∃ R, runC read0 L = R := ⟨_, rfl⟩
  rw [hR]
  have HR : Hid (runC read0 L = R) := hR
  clear hR
  have HDef := fun W => rDefault_any W
  have HNum := fun W => rNums_own defC W
  have HMade := fun n z v W h => rMade_any n z v W h
  rw [defC_nums] at HNum
  obtain ⟨DV, hDV⟩ : ∃ D, defC.val = D := ⟨_, rfl⟩
  rw [hDV] at HDef HNum
  clear hDV
  go_enter Tryd.func6, Tryd.ntmps6
  go_wp2_with fail
  generalize hW0 : w.alloc _ = W0
  have HC0 : Hid (CellsAt W0 w.heap.size zeroArr) := by show CellsAt _ _ _; rw [← hW0]; exact heap_alloc_new w _
  have HB0 : Hid (Below w.heap.size w W0) := by show Below _ _ _; rw [← hW0]; exact (Below.refl _ _).alloc (Nat.le_refl _) _
  clear hW0
  refine (HSp _).mono ?_
  rintro e w1 ⟨v, rfl, ⟨vs, hL⟩, hb⟩
  obtain ⟨ao, cap, rfl⟩ := hL.2.1.shaped
  have HL : Hid (IsLines w1 (.slice ao L.length cap) vs L) := hL
  have HC1 : Hid (CellsAt w1 w.heap.size zeroArr) := HC0.out.below hb
  have HB1 : Hid (Below w.heap.size w w1) := HB0.out.trans (hb.mono HB0.out.size)
  have hLm : L.length ≤ 9223372036854775807 := hL.2.1.2.1.1
  clear hb HSp hL HC0 HB0
  go_wp2_with fail
  refine (HDef _).mono ?_
  rintro e w2 ⟨rfl, hb⟩
  have HB2 : Hid (Below w1.heap.size w1 w2) := hb
  clear hb HDef
  go_wp2_with fail
  refine (HNum _).mono ?_
  rintro e w3 ⟨nB, rfl, hnB, hn3, hb⟩
  have HB3 : Hid (Below w1.heap.size w1 w3) := HB2.out.trans (hb.mono HB2.out.size)
  have HN3 : Hid (NumsAt w3 nB defNums) := hn3
  have HnB : Hid (w1.heap.size ≤ nB) := by have := HB2.out.size; show _ ≤ _; omega
  clear hb hn3 hnB HNum HB2
  go_wp2
  generalize hW4 : w3.alloc _ = W4
  obtain ⟨sB, hsB⟩ : ∃ sB, w3.heap.size = sB := ⟨_, rfl⟩
  have HS4 : Hid (SeenAt W4 sB read0.seen) := by show SeenAt _ _ _; rw [← hW4, ← hsB]; exact heap_alloc_new w3 _
  have HN4 : Hid (NumsAt W4 nB defNums) := by show NumsAt _ _ _; rw [← hW4]; exact HN3.out.alloc _
  have HB4 : Hid (Below w1.heap.size w1 W4) := by show Below _ _ _; rw [← hW4]; exact HB3.out.alloc HB3.out.size _
  have HsB : Hid (w1.heap.size ≤ sB ∧ nB < sB) := by rw [← hsB]; exact ⟨HB3.out.size, HN3.out.lt⟩
  have HRl : Hid (w.heap.size < w1.heap.size) := HC1.out.lt
  rw [hsB]
  clear hW4 hsB HN3 HB3
  go_loopw [9, 35] (fun z q wr => ∃ (k : Nat) (r : Read), k ≤ L.length ∧ q = .int .i64 k ∧ z = .string r.z ∧ Reading2 L k r nB sB w1 wr) (fun _ q _ => L.length - (intOf q).toNat)
  case atStart => exact ⟨0, read0, Nat.zero_le _, rfl, rfl, ⟨rfl, good0, rfl, HN4.out, HS4.out, HB4.out, fun _ => rfl⟩⟩
  case round =>
    obtain ⟨k, r, hk, rfl, rfl, hrd⟩ := hrel
    have HRd : Hid (Reading2 L k r nB sB w1 wr) := hrd
    clear hrd
    by_cases hlt : k < L.length
    · have hlr := HL.out.below HRd.out.below
      obtain ⟨b, off, rfl, hbl, g1, g2⟩ := hlr.at k hlt
      have HWs : Hid (IsStrs wr (vs.getD k nilW) (L.getD k (0, [])).2) := hlr.2.2 k hlt
      have HWb : Hid (0 < (L.getD k (0, [])).2.length → ∀ g, blkOf (vs.getD k nilW) = some g → g < w1.heap.size) := fun h0 g e => by
        obtain ⟨b2, e2, hl2⟩ := (HL.out.2.2 k hlt).blk_lt h0
        rw [e] at e2
        simp only [Option.some.injEq] at e2
        omega
      have hmem : L.getD k (0, []) ∈ L := by
        have e : L.getD k (0, []) = L[k] := by simp [hlt]
        rw [e]; exact List.getElem_mem hlt
      have HWx := HW.out _ hmem
      have HRu : Hid (runC r (L.drop k) = match stepC r (L.getD k (0, [])).2 with
        | none => .inr (L.getD k (0, [])).1
        | some r' => runC r' (L.drop (k + 1))) := runC_at r L k hlt
      have HSt : Hid (∀ r', stepC r (L.getD k (0, [])).2 = some r' → GoodR r' ∧ r'.seen.length = 30) := fun r' h => ⟨step_good HRd.out.good h, (step_seenlen h).trans HRd.out.len⟩
      obtain ⟨no, ws, hl⟩ : ∃ no ws, L.getD k (0, []) = (no, ws) := ⟨_, _, rfl⟩
      rw [hl] at g1 HWs HWb HRu HSt HWx
      simp only at g1 HWs HWb HRu HSt HWx
      have HWz : Hid (∀ x ∈ ws, x.size ≠ 0 ∧ x.size ≤ 4000) := HWx.1
      clear hlr hmem HWx hl
      generalize vs.getD k nilW = wv at g2 HWs HWb
      obtain ⟨wo, wq, rfl⟩ := HWs.out.shaped
      go_upto_if 42 with fail
      generalize hW1 : wr.alloc _ = W1
      have HRd1 : Hid (Reading2 L k r nB sB w1 W1) := by rw [← hW1]; exact HRd.out.on ((Below.refl _ _).alloc (Nat.le_refl _) _)
      have HWs1 : Hid (IsStrs W1 (.slice wo ws.length wq) ws) := by rw [← hW1]; exact HWs.out.below ((Below.refl _ _).alloc (Nat.le_refl _) _)
      have HLn0 : Hid (wr.heap.size < W1.heap.size ∧ W1.cell? ⟨wr.heap.size, 0, none⟩ = some (.int .i64 no)) := by rw [← hW1]; exact ⟨by simp, World.cell?_alloc_at _ _ _ _ rfl⟩
      have HLn1 : Hid (W1.cell? ⟨wr.heap.size, 1, none⟩ = some (.slice wo ws.length wq)) := by rw [← hW1]; exact World.cell?_alloc_at _ _ _ _ rfl
      have HnL : Hid (nB < wr.heap.size ∧ sB < wr.heap.size ∧ w1.heap.size ≤ wr.heap.size) := ⟨HRd.out.nums.lt, HRd.out.seen.lt, HRd.out.below.size⟩
      obtain ⟨lB, hlB⟩ : ∃ lB, wr.heap.size = lB := ⟨_, rfl⟩
      rw [hlB] at HLn0 HLn1 HnL ⊢
      clear hW1 HRd g1 g2 hlB
      go_cut [13] (fun x W => x = .int .i64 (atC ws) ∧ Below W1.heap.size W1 W)
      case first =>
        by_cases h2 : ws.length = 2
        · obtain ⟨na, s2, rfl⟩ : ∃ a s, ws = [a, s] := by
            match ws, h2 with
            | [a, s], _ => exact ⟨a, s, rfl⟩
          obtain ⟨wg, woff, rfl, hwg, hwc⟩ := strsAt HWs1.out 0 (by simp)
          have HWc : Hid (wg < W1.heap.size ∧ W1.cell? ⟨wg, woff, none⟩ = some (.string na)) := ⟨hwg, by simpa using hwc⟩
          have HL1 : Hid (W1.cell? ⟨lB, 1, none⟩ = some (.slice (some ⟨wg, woff, none⟩) 2 wq)) := HLn1.out
          have h22 : (([na, s2] : List ByteArray).length : Int) = 2 := rfl
          clear hwc hwg
          simp only [List.length_cons, List.length_nil] at h22 ⊢
          go_wp2_with fail
          refine (rRows_any _).mono ?_
          rintro e w5 ⟨v, rfl, hr, hb⟩
          obtain ⟨ro, rc, rfl⟩ := hr.shaped
          have HRr : Hid (IsRow 4 w5 (.slice ro 23 rc) 23 rowsV) := hr
          have HB5 : Hid (Below W1.heap.size W1 w5) := hb
          clear hr hb
          go_wp2
          go_loopw [13, 45] (fun x q wi => ∃ m : Nat, m ≤ 23 ∧ q = .int .i64 m ∧ AtTo na m x ∧ Below W1.heap.size W1 wi ∧ Below w5.heap.size w5 wi) (fun _ q _ => 23 - (intOf q).toNat)
          case atStart => exact ⟨0, Nat.zero_le _, rfl, .inl ⟨rfl, fun j h => by omega⟩, HB5.out, Below.refl _ _⟩
          case round =>
            obtain ⟨m, hm, rfl, hat, hbi, hbi5⟩ := hrel
            have HAt : Hid (AtTo na m u13) := hat
            have HBi : Hid (Below W1.heap.size W1 wr) := hbi
            have HB5i : Hid (Below w5.heap.size w5 wr) := hbi5
            clear hat hbi hbi5
            by_cases hlt2 : m < 23
            · obtain ⟨rb, roff, rfl, hrbl, q0, q1, q2, q3⟩ := rowsAt (HRr.out.below HB5i.out) m hlt2
              obtain ⟨q, hq⟩ : ∃ q, (nameC m == na) = q := ⟨_, rfl⟩
              have HQ : Hid ((nameC m == na) = q) := hq
              have hq2 : ((nameC m).toList == na.toList) = q := by rw [← beqB]; exact hq
              obtain ⟨nm, hnm⟩ : ∃ nm, nameC m = nm := ⟨_, rfl⟩
              rw [hnm] at q0 hq2
              generalize selfC m = sv at q3
              generalize lowC m = lv at q1
              generalize highC m = hv at q2
              clear hq hnm
              go_wp2
              have hrow : ∀ W, Below (wr.heap.size + 1) (wr.alloc (.cells #[.string nm, .int .i64 lv, .int .i64 hv, .int .i64 sv] 48)) W → W.cell? ⟨wr.heap.size, 0, none⟩ = some (.string nm) := fun W h => (h.cell (p := ⟨wr.heap.size, 0, none⟩) (by show wr.heap.size < _; omega)).trans (World.cell?_alloc_at _ _ _ _ rfl)
              have hline1 : ∀ W, Below (wr.heap.size + 1) (wr.alloc (.cells #[.string nm, .int .i64 lv, .int .i64 hv, .int .i64 sv] 48)) W → W.cell? ⟨lB, 1, none⟩ = some (.slice (some ⟨wg, woff, none⟩) 2 wq) := fun W h => by
                have h1 := HLn0.out.1
                have h2 := HBi.out.size
                rw [h.cell (p := ⟨lB, 1, none⟩) (by show lB < _; omega), World.cell?_alloc_past _ _ _ (by show lB < _; omega), HBi.out.cell (p := ⟨lB, 1, none⟩) h1]
                exact HL1.out
              have hwd0 : ∀ W, Below (wr.heap.size + 1) (wr.alloc (.cells #[.string nm, .int .i64 lv, .int .i64 hv, .int .i64 sv] 48)) W → W.cell? ⟨wg, woff, none⟩ = some (.string na) := fun W h => by
                have h1 := HWc.out.1
                have h2 := HBi.out.size
                rw [h.cell (p := ⟨wg, woff, none⟩) (by show wg < _; omega), World.cell?_alloc_past _ _ _ (by show wg < _; omega), HBi.out.cell (p := ⟨wg, woff, none⟩) h1]
                exact HWc.out.2
              have hsz1 : (wr.alloc (.cells #[.string nm, .int .i64 lv, .int .i64 hv, .int .i64 sv] 48)).heap.size = wr.heap.size + 1 := by simp
              rw [← hsz1] at hrow hline1 hwd0
              clear hsz1
              refine wp_region_rel4 (fun W W' => Below W.heap.size W W') (fun jj vv _ => vv = ([.pointer (some ⟨wr.heap.size, 0, none⟩), .string nm, .pointer (some ⟨lB, 1, none⟩), .slice (some ⟨wg, woff, none⟩) 2 wq, .pointer (some ⟨wg, woff, none⟩), .string na, .bool q] : List Value).getD jj undef) (by kernel_rfl) (by kernel_rfl) (Below.refl _ _).drew (fun W => Below.refl _ _) (fun _ _ _ h1 h2 => h1.trans (h2.mono h1.size)) (fun _ _ _ _ h _ => h) ?_ ?_
              · simp only [stepsAll3]
                refine ⟨fun a W hF hE hd => ?_, fun a W hF hE hd => ?_, fun a W hF hE hd => ?_, fun a W hF hE hd => ?_, fun a W hF hE hd => ?_, fun a W hF hE hd => ?_, fun a W hF hE hd => ?_, trivial⟩
                all_goals unfold StepAt
                · have t15 : a.tmps.getD 15 undef = .pointer (some ⟨wr.heap.size, 0, none⟩) := hF.at 15 (by kernel_rfl)
                  rw [Array.getD_eq_getD_getElem?] at t15
                  refine .inl ⟨rfl, ?_⟩
                  go_simp
                  exact ⟨Below.refl _ _, rfl⟩
                · have t50 : a.tmps.getD 50 undef = .pointer (some ⟨wr.heap.size, 0, none⟩) := hd { on := 0, ground := .data } (by simp) rfl
                  rw [Array.getD_eq_getD_getElem?] at t50
                  refine .inl ⟨rfl, ?_⟩
                  have hcx := hrow W hE
                  go_simp
                  exact ⟨Below.refl _ _, rfl⟩
                · have t12 : a.tmps.getD 12 undef = .pointer (some ⟨lB, 0, none⟩) := hF.at 12 (by kernel_rfl)
                  rw [Array.getD_eq_getD_getElem?] at t12
                  refine .inl ⟨rfl, ?_⟩
                  go_simp
                  exact ⟨Below.refl _ _, rfl⟩
                · have t52 : a.tmps.getD 52 undef = .pointer (some ⟨lB, 1, none⟩) := hd { on := 2, ground := .data } (by simp) rfl
                  rw [Array.getD_eq_getD_getElem?] at t52
                  refine .inl ⟨rfl, ?_⟩
                  have hcx := hline1 W hE
                  go_simp
                  exact ⟨Below.refl _ _, rfl⟩
                · have t53 : a.tmps.getD 53 undef = .slice (some ⟨wg, woff, none⟩) 2 wq := hd { on := 3, ground := .data } (by simp) rfl
                  rw [Array.getD_eq_getD_getElem?] at t53
                  refine .inl ⟨rfl, ?_⟩
                  go_simp
                  exact ⟨Below.refl _ _, rfl⟩
                · have t54 : a.tmps.getD 54 undef = .pointer (some ⟨wg, woff, none⟩) := hd { on := 4, ground := .data } (by simp) rfl
                  rw [Array.getD_eq_getD_getElem?] at t54
                  refine .inl ⟨rfl, ?_⟩
                  have hcx := hwd0 W hE
                  go_simp
                  exact ⟨Below.refl _ _, rfl⟩
                · have t51 : a.tmps.getD 51 undef = .string nm := hd { on := 1, ground := .data } (by simp) rfl
                  rw [Array.getD_eq_getD_getElem?] at t51
                  have t55 : a.tmps.getD 55 undef = .string na := hd { on := 5, ground := .data } (by simp) rfl
                  rw [Array.getD_eq_getD_getElem?] at t55
                  refine .inl ⟨rfl, ?_⟩
                  go_simp
                  exact ⟨Below.refl _ _, rfl⟩
              · intro vs' W hE hV
                have h4 : vs' 6 = .bool q := hV 6 (by decide)
                have HBf : Hid (Below W1.heap.size W1 W ∧ Below w5.heap.size w5 W) := ⟨(HBi.out.alloc HBi.out.size _).trans (hE.mono (by have := HBi.out.size; simp; omega)), (HB5i.out.alloc HB5i.out.size _).trans (hE.mono (by have := HB5i.out.size; simp; omega))⟩
                clear hV hE
                simp only [putsV, dstsV, List.foldl, h4, Act.put, List.setIfInBounds_toArray, List.set_cons_succ, List.set_cons_zero]
                clear h4
                generalize vs' 0 = y0
                generalize vs' 1 = y1
                generalize vs' 2 = y2
                generalize vs' 3 = y3
                generalize vs' 4 = y4
                generalize vs' 5 = y5
                refine ‹∀ (a : Act) (w : World), Code.wp Tryd.prog (Code.cond _ _ _) _ a w → _› _ _ ?_
                cases q with
                | true =>
                  have HA2 : Hid (AtTo na (m + 1) (.int .i64 m)) := .inr ⟨m, by omega, hlt2, rfl, HQ.out⟩
                  go_wp2
                  go_roundw
                  case rel => exact ⟨m + 1, by omega, by go_num, HA2.out, HBf.out.1, HBf.out.2⟩
                  case measure => simp [intOf]; omega
                | false =>
                  have HA2 : Hid (AtTo na (m + 1) u13) := atTo_next HAt.out HQ.out
                  go_wp2
                  go_roundw
                  case rel => exact ⟨m + 1, by omega, by go_num, HA2.out, HBf.out.1, HBf.out.2⟩
                  case measure => simp [intOf]; omega
            · obtain rfl : m = 23 := by omega
              go_wp2
              go_meet
              case rel => exact ⟨atTo_end HAt.out, HBi.out⟩
        · have h22 : ((ws.length : Int) == 2) = false := by rw [beq_eq_false_iff_ne]; omega
          go_wp2
          go_meet
          case rel => exact ⟨by rw [atC_none h2], Below.refl _ _⟩
      case rest =>
        obtain ⟨rfl, hbw⟩ := hcut
        have HBw : Hid (Below W1.heap.size W1 wc) := hbw
        have HRx : Hid (Reading2 L k r nB sB w1 wc) := HRd1.out.on hbw
        have HWsx : Hid (IsStrs wc (.slice wo ws.length wq) ws) := HWs1.out.below hbw
        have HLx0 : Hid (lB < wc.heap.size ∧ wc.cell? ⟨lB, 0, none⟩ = some (.int .i64 no)) := ⟨by have := HLn0.out.1; have := hbw.size; omega, (hbw.cell (p := ⟨lB, 0, none⟩) HLn0.out.1).trans HLn0.out.2⟩
        have HLx1 : Hid (wc.cell? ⟨lB, 1, none⟩ = some (.slice wo ws.length wq)) := (hbw.cell (p := ⟨lB, 1, none⟩) HLn0.out.1).trans HLn1.out
        clear hbw HRd1 HWs1 HLn0 HLn1 HBw
        cases hwc : wordsC' ws with
        | none =>
          obtain ⟨e1, e2⟩ := words_at_none hwc
          have e0 : R = .inr no := by rw [← HR.out, HRx.out.run, HRu.out, e2 r]
          subst e0
          rw [e1]
          have HCz : Hid (CellsAt wc w.heap.size zeroArr) := HC1.out.below HRx.out.below
          have HBz : Hid (Below w.heap.size w wc) := HB1.out.trans (HRx.out.below.mono (by have := HRl.out; omega))
          have hline : ∀ W, badE w.heap.size wc W → W.cell? ⟨lB, 0, none⟩ = some (.int .i64 no) := fun W hE => by
            have h1 := HnL.out
            have h2 := HRl.out
            rw [hE.1.cell_far ⟨lB, 0, none⟩ HLx0.out.1 (fun e => by simp at e; omega)]
            exact HLx0.out.2
          clear HRu HSt HWsx HLx1
          go_wp2
          refine wp_region_rel4 (badE w.heap.size) (badV lB no) (by kernel_rfl) (by kernel_rfl) ⟨grown_below (Below.refl _ _).drew _, fun h => h⟩ (badE_refl _) (fun _ _ _ h1 h2 => badE_trans h1 h2) (fun i v _ _ h _ => by match i with | 0 | 1 | 2 | 3 | 4 => exact h | n + 5 => exact h) ?_ ?_
          · simp only [stepsAll3]
            refine ⟨fun a W hF hE hd => ?_, fun a W hF hE hd => ?_, fun a W hF hE hd => ?_, fun a W hF hE hd => ?_, fun a W hF hE hd => ?_, fun a W hF hE hd => ?_, trivial⟩
            all_goals unfold StepAt
            · left
              refine ⟨rfl, ?_⟩
              go_simp
              exact ⟨badE_refl _ _, rfl⟩
            · have t12 : a.tmps.getD 12 undef = .pointer (some ⟨lB, 0, none⟩) := hF.at 12 (by kernel_rfl)
              rw [Array.getD_eq_getD_getElem?] at t12
              left
              refine ⟨rfl, ?_⟩
              go_simp
              exact ⟨badE_refl _ _, rfl⟩
            · have t67 : a.tmps.getD 67 undef = .pointer (some ⟨lB, 0, none⟩) := hd { on := 1, ground := .data } (by simp) rfl
              rw [Array.getD_eq_getD_getElem?] at t67
              have c0 : W.cell? ⟨lB, 0, none⟩ = some (.int .i64 no) := hline W hE
              left
              refine ⟨rfl, ?_⟩
              go_simp
              exact ⟨badE_refl _ _, rfl⟩
            · have t2 : a.tmps.getD 2 undef = .pointer (some ⟨w.heap.size, 0, none⟩) := hF.at 2 (by kernel_rfl)
              rw [Array.getD_eq_getD_getElem?] at t2
              have t66 : a.tmps.getD 66 undef = .agg zeroArr := hd { on := 0, ground := .data } (by simp) rfl
              rw [Array.getD_eq_getD_getElem?] at t66
              left
              refine ⟨rfl, ?_⟩
              rw [run_ostore _ _ 23 (.tmp 2) (.tmp 66) rfl w.heap.size zeroArr (by simpa [Act.eval] using t2) (by simpa [Act.eval] using t66) 23 zeroArr (hE.2 HCz.out) zero_info rfl zeroArr_one]
              exact ⟨⟨grown_setRow _, fun h => setRow_heap W _ _ _ _ _ h⟩, trivial⟩
            · have t68 : a.tmps.getD 68 undef = .int .i64 no := hd { on := 2, ground := .data } (by simp) rfl
              rw [Array.getD_eq_getD_getElem?] at t68
              left
              refine ⟨rfl, ?_⟩
              go_simp
              exact ⟨badE_refl _ _, rfl⟩
            · left
              refine ⟨rfl, ?_⟩
              go_simp
              exact ⟨badE_refl _ _, rfl⟩
          · intro vs' W hE hV
            have h3 : vs' 4 = .int .i64 no := hV 4 (by decide)
            have h4 : vs' 5 = .int .i64 2 := hV 5 (by decide)
            have HCf : Hid (CellsAt W w.heap.size zeroArr) := hE.2 HCz.out
            have HBf : Hid (Below w.heap.size w W) := below_grown HBz.out hE.1 (Nat.le_refl _) HBz.out.size
            clear hV hE
            simp only [putsV, dstsV, List.foldl, h3, h4, Act.put, List.setIfInBounds_toArray, List.set_cons_succ, List.set_cons_zero]
            clear h3 h4
            refine ‹∀ (a : Act) (w : World), Code.wp Tryd.prog Code.ret _ a w → _› _ _ ?_
            go_wp2
            try simp only [Exit.inBlock, Exit.then]
            refine bodyPost_ret (results_cell3 rfl _ _ w.heap.size 23 _ _ _ rfl HCf.out Tryd.underlying23 rfl zero_info) rfl ?_
            exact ⟨rfl, HBf.out⟩
        | some p =>
          obtain ⟨na, s2, i⟩ := p
          obtain ⟨hws, hf, e1⟩ := words_at_some hwc
          subst hws
          rw [e1]
          have hi := findC_lt hf
          have hst := HRx.out.seen.cell (i := i) (by rw [HRx.out.len]; omega)
          have hfz : wc.frozen? ⟨sB, i, none⟩ = false := HRx.out.seen.frozen
          cases hsn : r.seen.getD i false with
          | true =>
            have e0 : R = .inr no := by
              rw [← HR.out, HRx.out.run, HRu.out]
              have : stepC r [na, s2] = none := by unfold stepC; simp only [hf, hsn, if_true]
              rw [this]
            subst e0
            rw [hsn] at hst
            have HCz : Hid (CellsAt wc w.heap.size zeroArr) := HC1.out.below HRx.out.below
            have HBz : Hid (Below w.heap.size w wc) := HB1.out.trans (HRx.out.below.mono (by have := HRl.out; omega))
            have hline : ∀ W, badE w.heap.size wc W → W.cell? ⟨lB, 0, none⟩ = some (.int .i64 no) := fun W hE => by
              have h1 := HnL.out
              have h2 := HRl.out
              rw [hE.1.cell_far ⟨lB, 0, none⟩ HLx0.out.1 (fun e => by simp at e; omega)]
              exact HLx0.out.2
            clear HRu HSt HWsx HLx1 hfz
            go_wp2
            refine wp_region_rel4 (badE w.heap.size) (badV lB no) (by kernel_rfl) (by kernel_rfl) ⟨grown_below (Below.refl _ _).drew _, fun h => h⟩ (badE_refl _) (fun _ _ _ h1 h2 => badE_trans h1 h2) (fun i v _ _ h _ => by match i with | 0 | 1 | 2 | 3 | 4 => exact h | n + 5 => exact h) ?_ ?_
            · simp only [stepsAll3]
              refine ⟨fun a W hF hE hd => ?_, fun a W hF hE hd => ?_, fun a W hF hE hd => ?_, fun a W hF hE hd => ?_, fun a W hF hE hd => ?_, fun a W hF hE hd => ?_, trivial⟩
              all_goals unfold StepAt
              · left
                refine ⟨rfl, ?_⟩
                go_simp
                exact ⟨badE_refl _ _, rfl⟩
              · have t12 : a.tmps.getD 12 undef = .pointer (some ⟨lB, 0, none⟩) := hF.at 12 (by kernel_rfl)
                rw [Array.getD_eq_getD_getElem?] at t12
                left
                refine ⟨rfl, ?_⟩
                go_simp
                exact ⟨badE_refl _ _, rfl⟩
              · have t67 : a.tmps.getD 67 undef = .pointer (some ⟨lB, 0, none⟩) := hd { on := 1, ground := .data } (by simp) rfl
                rw [Array.getD_eq_getD_getElem?] at t67
                have c0 : W.cell? ⟨lB, 0, none⟩ = some (.int .i64 no) := hline W hE
                left
                refine ⟨rfl, ?_⟩
                go_simp
                exact ⟨badE_refl _ _, rfl⟩
              · have t2 : a.tmps.getD 2 undef = .pointer (some ⟨w.heap.size, 0, none⟩) := hF.at 2 (by kernel_rfl)
                rw [Array.getD_eq_getD_getElem?] at t2
                have t66 : a.tmps.getD 66 undef = .agg zeroArr := hd { on := 0, ground := .data } (by simp) rfl
                rw [Array.getD_eq_getD_getElem?] at t66
                left
                refine ⟨rfl, ?_⟩
                rw [run_ostore _ _ 23 (.tmp 2) (.tmp 66) rfl w.heap.size zeroArr (by simpa [Act.eval] using t2) (by simpa [Act.eval] using t66) 23 zeroArr (hE.2 HCz.out) zero_info rfl zeroArr_one]
                exact ⟨⟨grown_setRow _, fun h => setRow_heap W _ _ _ _ _ h⟩, trivial⟩
              · have t68 : a.tmps.getD 68 undef = .int .i64 no := hd { on := 2, ground := .data } (by simp) rfl
                rw [Array.getD_eq_getD_getElem?] at t68
                left
                refine ⟨rfl, ?_⟩
                go_simp
                exact ⟨badE_refl _ _, rfl⟩
              · left
                refine ⟨rfl, ?_⟩
                go_simp
                exact ⟨badE_refl _ _, rfl⟩
            · intro vs' W hE hV
              have h3 : vs' 4 = .int .i64 no := hV 4 (by decide)
              have h4 : vs' 5 = .int .i64 2 := hV 5 (by decide)
              have HCf : Hid (CellsAt W w.heap.size zeroArr) := hE.2 HCz.out
              have HBf : Hid (Below w.heap.size w W) := below_grown HBz.out hE.1 (Nat.le_refl _) HBz.out.size
              clear hV hE
              simp only [putsV, dstsV, List.foldl, h3, h4, Act.put, List.setIfInBounds_toArray, List.set_cons_succ, List.set_cons_zero]
              clear h3 h4
              refine ‹∀ (a : Act) (w : World), Code.wp Tryd.prog Code.ret _ a w → _› _ _ ?_
              go_wp2
              try simp only [Exit.inBlock, Exit.then]
              refine bodyPost_ret (results_cell3 rfl _ _ w.heap.size 23 _ _ _ rfl HCf.out Tryd.underlying23 rfl zero_info) rfl ?_
              exact ⟨rfl, HBf.out⟩
          | false =>
            rw [hsn] at hst
            go_upto_region 20 with fail
            obtain ⟨wg, wf, rfl, hwg, hwc1⟩ := strsAt HWsx.out 1 (by simp)
            have HWg : Hid (wg < w1.heap.size) := HWb.out (by simp) wg rfl
            have HNe : Hid (nB ≠ sB ∧ w1.heap.size ≤ sB ∧ lB ≠ sB) := by have h1 := HsB.out; have h2 := HnL.out; exact ⟨by omega, h1.1, by omega⟩
            generalize hW2 : wc.setCell ⟨sB, i, none⟩ (.bool true) = W2
            have HSe : Hid (SeenAt W2 sB (r.seen.set i true)) := by rw [← hW2]; exact HRx.out.seen.set
            have HNu : Hid (NumsAt W2 nB r.n) := by rw [← hW2]; exact HRx.out.nums.grown (grown_set _ _ _) HNe.out.1
            have HBe : Hid (Below w1.heap.size w1 W2) := by rw [← hW2]; exact HRx.out.below.setCell HNe.out.2.1 _
            have HLy0 : Hid (lB < W2.heap.size ∧ W2.cell? ⟨lB, 0, none⟩ = some (.int .i64 no)) := by rw [← hW2]; exact ⟨by simpa [World.setCell] using HLx0.out.1, (World.cell?_of_block (w := wc) (Below.heap_setCell wc _ _ lB HNe.out.2.2)).trans HLx0.out.2⟩
            have HLy1 : Hid (W2.cell? ⟨lB, 1, none⟩ = some (.slice (some ⟨wg, wf, none⟩) 2 wq)) := by rw [← hW2]; exact (World.cell?_of_block (w := wc) (Below.heap_setCell wc _ _ lB HNe.out.2.2)).trans HLx1.out
            have HWd : Hid (W2.cell? ⟨wg, wf + 1, none⟩ = some (.string s2)) := by rw [← hW2]; exact (World.cell?_of_block (w := wc) (Below.heap_setCell wc _ _ wg (by have := HWg.out; have := HNe.out.2.1; simp; omega))).trans hwc1
            clear hW2 hst hfz hwg hwc1 HWsx HLx0 HLx1
            have hline1 : ∀ W, BoxE i W2.heap.size W2 W → W.cell? ⟨lB, 1, none⟩ = some (.slice (some ⟨wg, wf, none⟩) 2 wq) := fun W h => ((h.below (Nat.le_refl _)).cell (p := ⟨lB, 1, none⟩) HLy0.out.1).trans HLy1.out
            have hwd1 : ∀ W, BoxE i W2.heap.size W2 W → W.cell? ⟨wg, wf + 1, none⟩ = some (.string s2) := fun W h => ((h.below (Nat.le_refl _)).cell (p := ⟨wg, wf + 1, none⟩) (by show wg < _; have := HWg.out; have := HBe.out.size; omega)).trans HWd.out
            refine wp_region_rel5 (BoxE i W2.heap.size) (boxV i W2.heap.size lB wg wf wq s2) (BoxJ i W2.heap.size W2) (by kernel_rfl) (by kernel_rfl) ?_ boxV_on ?_ ?_
            · exact BoxJ.start i W2 _ (by rfl)
            · simp only [stepsJ]
              refine ⟨fun l a W hF hsz hJ hl hd => ?_, fun l a W hF hsz hJ hl hd => ?_, fun l a W hF hsz hJ hl hd => ?_, fun l a W hF hsz hJ hl hd => ?_, fun l a W hF hsz hJ hl hd => ?_, fun l a W hF hsz hJ hl hd => ?_, fun l a W hF hsz hJ hl hd => ?_, fun l a W hF hsz hJ hl hd => ?_, fun l a W hF hsz hJ hl hd => ?_, fun l a W hF hsz hJ hl hd => ?_, fun l a W hF hsz hJ hl hd => ?_, fun l a W hF hsz hJ hl hd => ?_, trivial⟩
              all_goals unfold StepJ
              · refine .inl ⟨rfl, ?_⟩
                go_simp
                refine (rRows_own _).mono ?_
                rintro e w5 ⟨rfl, rfl⟩
                exact ⟨_, rfl, BoxE.alloc _ _ _ _, ⟨_, rfl, heap_alloc_new W _⟩, hJ.tab 0 (by decide) (by decide)⟩
              · have t13 : a.tmps.getD 13 undef = .int .i64 i := hF.at 13 (by kernel_rfl)
                rw [Array.getD_eq_getD_getElem?] at t13
                refine .inl ⟨rfl, ?_⟩
                go_simp
                exact ⟨BoxE.refl _ _ _, rfl, hJ.on 1 (by decide) (by decide)⟩
              · obtain ⟨tb, t71, htb⟩ := (hd { on := 0, ground := .data } (by simp) rfl).2
                replace t71 : a.tmps.getD 71 undef = _ := t71
                rw [Array.getD_eq_getD_getElem?] at t71
                have t72 : a.tmps.getD 72 undef = .int .i64 i := (hd { on := 1, ground := .data } (by simp) rfl).2
                rw [Array.getD_eq_getD_getElem?] at t72
                have hi3 : (i : Int) < 23 := by omega
                refine .inl ⟨rfl, ?_⟩
                go_simp
                exact ⟨BoxE.refl _ _ _, ⟨tb, by rw [Nat.mul_comm 4 i]; rfl, htb⟩, hJ.on 2 (by decide) (by decide)⟩
              · obtain ⟨tb, t73, htb⟩ := (hd { on := 2, ground := .data } (by simp) rfl).2
                replace t73 : a.tmps.getD 73 undef = _ := t73
                rw [Array.getD_eq_getD_getElem?] at t73
                obtain ⟨c0, c1, c2, c3⟩ := htb.cells hi
                refine .inl ⟨rfl, ?_⟩
                go_simp
                exact ⟨BoxE.refl _ _ _, rfl, hJ.on 3 (by decide) (by decide)⟩
              · have t12 : a.tmps.getD 12 undef = .pointer (some ⟨lB, 0, none⟩) := hF.at 12 (by kernel_rfl)
                rw [Array.getD_eq_getD_getElem?] at t12
                refine .inl ⟨rfl, ?_⟩
                go_simp
                exact ⟨BoxE.refl _ _ _, rfl, hJ.on 4 (by decide) (by decide)⟩
              · have t75 : a.tmps.getD 75 undef = .pointer (some ⟨lB, 1, none⟩) := (hd { on := 4, ground := .data } (by simp) rfl).2
                rw [Array.getD_eq_getD_getElem?] at t75
                have hcx := hline1 W hJ.e
                refine .inl ⟨rfl, ?_⟩
                go_simp
                exact ⟨BoxE.refl _ _ _, rfl, hJ.on 5 (by decide) (by decide)⟩
              · have t76 : a.tmps.getD 76 undef = .slice (some ⟨wg, wf, none⟩) 2 wq := (hd { on := 5, ground := .data } (by simp) rfl).2
                rw [Array.getD_eq_getD_getElem?] at t76
                refine .inl ⟨rfl, ?_⟩
                go_simp
                exact ⟨BoxE.refl _ _ _, rfl, hJ.on 6 (by decide) (by decide)⟩
              · have t77 : a.tmps.getD 77 undef = .pointer (some ⟨wg, wf + 1, none⟩) := (hd { on := 6, ground := .data } (by simp) rfl).2
                rw [Array.getD_eq_getD_getElem?] at t77
                have hcx := hwd1 W hJ.e
                refine .inl ⟨rfl, ?_⟩
                go_simp
                exact ⟨BoxE.refl _ _ _, rfl, hJ.on 7 (by decide) (by decide)⟩
              · refine .inl ⟨rfl, ?_⟩
                go_simp
                exact ⟨BoxE.alloc _ _ _ _, ⟨_, rfl, by have := hJ.e.size; omega, .inl (heap_alloc_new W _)⟩, hJ.box hl⟩
              · obtain ⟨h8, tb, t16, htb, hbx⟩ := hd { on := 8, ground := .data } (by simp) rfl
                replace t16 : a.tmps.getD 16 undef = _ := t16
                rw [Array.getD_eq_getD_getElem?] at t16
                have t74 : a.tmps.getD 74 undef = .agg (rowBx i) := (hd { on := 3, ground := .data } (by simp) rfl).2
                rw [Array.getD_eq_getD_getElem?] at t74
                refine .inl ⟨rfl, ?_⟩
                rcases hbx with h | h
                · rw [run_ostore _ _ 48 (.tmp 16) (.tmp 74) rfl tb (rowBx i) (by simpa [Act.eval] using t16) (by simpa [Act.eval] using t74) 48 zRow h (by kernel_rfl) rfl (rowBx_one i)]
                  exact ⟨BoxE.setRow htb (.inl h), trivial, hJ.stored h8 htb (.inl h)⟩
                · rw [run_ostore _ _ 48 (.tmp 16) (.tmp 74) rfl tb (rowBx i) (by simpa [Act.eval] using t16) (by simpa [Act.eval] using t74) 48 (rowBx i) h (by kernel_rfl) rfl (rowBx_one i)]
                  exact ⟨BoxE.setRow htb (.inr h), trivial, hJ.stored h8 htb (.inr h)⟩
              · have t78 : a.tmps.getD 78 undef = .string s2 := (hd { on := 7, ground := .data } (by simp) rfl).2
                rw [Array.getD_eq_getD_getElem?] at t78
                refine .inl ⟨rfl, ?_⟩
                go_simp
                exact ⟨BoxE.refl _ _ _, rfl, hJ.on 10 (by decide) (by decide)⟩
              · refine .inl ⟨rfl, ?_⟩
                go_simp
                exact ⟨BoxE.refl _ _ _, rfl, hJ.on 11 (by decide) (by decide)⟩
            · intro l vs' W hall hJ hV
              obtain ⟨g, h16, hg, hgx⟩ := hV 8 (by decide)
              have HBox : Hid (BoxAt W g (rowBx i)) := (hJ.done (hall 9 (by decide))).2 g ⟨hg, hgx.elim (fun h => ⟨_, rfl, h⟩) (fun h => ⟨_, rfl, h⟩)⟩
              have h17 : vs' 10 = .string s2 := hV 10 (by decide)
              have h18 : vs' 11 = .bool false := hV 11 (by decide)
              have HBf : Hid (Below W2.heap.size W2 W) := hJ.e.below (Nat.le_refl _)
              have Hg : Hid (W2.heap.size ≤ g) := hg
              clear hV hJ hall hg hgx hline1 hwd1
              simp only [putsV, dstsV, List.foldl, h16, h17, h18, Act.put, List.setIfInBounds_toArray, List.set_cons_succ, List.set_cons_zero]
              clear h16 h17 h18
              generalize vs' 0 = y0
              generalize vs' 1 = y1
              generalize vs' 2 = y2
              generalize vs' 3 = y3
              generalize vs' 4 = y4
              generalize vs' 5 = y5
              generalize vs' 6 = y6
              generalize vs' 7 = y7
              have HBa : Hid (Below w1.heap.size w1 W) := HBe.out.trans (HBf.out.mono HBe.out.size)
              have HLz : Hid (lB < W.heap.size ∧ W.cell? ⟨lB, 0, none⟩ = some (.int .i64 no)) := ⟨by have h1 := HLy0.out.1; have h2 := HBf.out.size; show _ < _; omega, (HBf.out.cell (p := ⟨lB, 0, none⟩) HLy0.out.1).trans HLy0.out.2⟩
              have HNz : Hid (NumsAt W nB r.n) := HNu.out.below HBf.out
              have HSz : Hid (SeenAt W sB (r.seen.set i true)) := HSe.out.below HBf.out
              have HRun : Hid (runC read0 L = runC r (L.drop k) ∧ r.seen.length = 30 ∧ ZoneR r) := ⟨HRx.out.run, HRx.out.len, HRx.out.zone⟩
              have HGd : Hid (GoodR r) := HRx.out.good
              have HgN : Hid (nB < g ∧ sB < g) := ⟨Nat.lt_of_lt_of_le HNu.out.lt Hg.out, Nat.lt_of_lt_of_le HSe.out.lt Hg.out⟩
              clear HRx HBe HLy0 HLy1 HWd HNu HSe HBf
              refine ‹∀ (a : Act) (w : World), Code.wp Tryd.prog (Code.seq _ _) _ a w → _› _ _ ?_
              go_step
              go_cut [9, 18] (fun z q X => Switched i s2 r nB sB lB no w1 X z q)
              case first =>
                have hsz2 : s2.size ≤ 9223372036854775807 := by have := (HWz.out s2 (by simp)).2; omega
                obtain ⟨o1, o2, o3, o4⟩ := names_other i hi
                have HNm : Hid (W.cell? ⟨g, 0, none⟩ = some (.string (nameC i))) := HBox.out.cell
                have hnm := HNm.out
                by_cases hi21 : i = 21
                · subst hi21
                  have hz0 : r.z = ByteArray.empty := HRun.out.2.2 hsn
                  have hn0 : r.n.set 21 0 = r.n := nums_zone HGd.out
                  have p1 : ((nameC 21).toList == [122, 111, 110, 101]) = true := by rw [ByteArray.toList_eq]; decide +kernel
                  cases hq : (s2.toList == [45]) with
                  | true =>
                    have hrc : readC 21 s2 = some (0, ByteArray.empty) := readC_dash hq
                    go_wp2
                    go_meet
                    case rel => exact ⟨HBa.out, HLz.out, by rw [hrc]; exact ⟨rfl, by rw [hz0]; rfl, by rw [hn0]; exact HNz.out, HSz.out⟩⟩
                  | false =>
                    have hqn : (s2.toList != [45]) = true := by rw [bne, hq]; rfl
                    have hrc : readC 21 s2 = if nameOK s2 then some (0, s2) else none := readC_zone hq
                    go_wp2_with fail
                    refine (rWord_any s2 _ hsz2).mono ?_
                    rintro e w6 ⟨rfl, hw⟩; subst w6
                    cases hok : nameOK s2 with
                    | true =>
                      go_wp2
                      go_meet
                      case rel => exact ⟨HBa.out, HLz.out, by rw [hrc, hok]; exact ⟨rfl, rfl, by rw [hn0]; exact HNz.out, HSz.out⟩⟩
                    | false =>
                      go_wp2
                      go_meet
                      case rel => exact ⟨HBa.out, HLz.out, by rw [hrc, hok]; rfl⟩
                have p21 := o1 hi21
                have hnn : Hid (w1.heap.size ≤ nB ∧ nB ≠ sB ∧ nB < lB) := ⟨HnB.out, HNe.out.1, HnL.out.1⟩
                by_cases hi20 : i = 20
                · subst hi20
                  have p1 : ((nameC 20).toList == [112, 111, 108, 105, 99, 121]) = true := by rw [ByteArray.toList_eq]; decide +kernel
                  have hrc := readC_pol s2
                  have hfr := fresh_strs W polW 9 (by decide) (by decide)
                  have HPl := rPlace_any s2 polW _ _ (by decide) hfr
                  generalize placeW s2 polW = P at hrc HPl
                  have HPc : Hid (readC 20 s2 = if P = 0 then none else some ((P : Int), ByteArray.empty)) := hrc
                  clear hrc hfr
                  go_wp2_with fail
                  refine HPl.mono ?_
                  rintro e w6 ⟨rfl, hw⟩; subst w6
                  obtain ⟨k1, k2, k3, k4⟩ := put_num (i := 20) (k := (P : Int)) HBa.out ((Below.refl _ _).alloc (Nat.le_refl _) (.cells (polW.map Value.string).toArray 9 (0, 0))) HLz.out HNz.out HSz.out hnn.out.1 hnn.out.2.1 hnn.out.2.2
                  have KK : Hid _ := And.intro k1 (And.intro k2 (And.intro k3 k4))
                  clear k1 k2 k3 k4 HPl
                  have hNa : NumsAt (W.alloc (.cells (polW.map Value.string).toArray 9 (0, 0))) nB r.n := HNz.out.alloc _
                  have hfz : (W.alloc (.cells (polW.map Value.string).toArray 9 (0, 0))).frozen? ⟨nB, 20, none⟩ = false := hNa.frozen
                  have hcl : (W.alloc (.cells (polW.map Value.string).toArray 9 (0, 0))).cell? ⟨nB, 20, none⟩ = some (.int .i64 (r.n.getD 20 0)) := hNa.cell (by rw [HGd.out.len]; omega)
                  clear hNa
                  by_cases hP : P = 0
                  · subst hP
                    go_wp2
                    go_meet
                    case rel => exact ⟨KK.out.1, KK.out.2.1, by rw [HPc.out]; rfl⟩
                  · have hP1 : (0 : Int) < (P : Int) := by omega
                    go_wp2
                    go_meet
                    case rel => exact ⟨KK.out.1, KK.out.2.1, by rw [HPc.out, if_neg hP]; exact ⟨congrArg Value.bool (decide_eq_true (show 0 < P by omega)), by rw [if_neg (by decide)], KK.out.2.2.1, KK.out.2.2.2⟩⟩
                have p20 := o2 hi20
                by_cases hi15 : i = 15 ∨ i = 22
                · have hrc := readC_yes hi15 s2
                  have hfr := fresh_strs W yesW 9 (by decide) (by decide)
                  have HPl := rPlace_any s2 yesW _ _ (by decide) hfr
                  have hP2 : placeW s2 yesW ≤ 1000 := place_le s2 yesW 1000 (by decide)
                  generalize placeW s2 yesW = P at hrc HPl hP2
                  have HPc : Hid (readC i s2 = if P = 0 then none else some ((P : Int) - 1, ByteArray.empty)) := hrc
                  clear hrc hfr
                  have hi3 : (i : Int) < 23 := by omega
                  obtain ⟨k1, k2, k3, k4⟩ := put_num (i := i) (k := (P : Int) - 1) HBa.out ((Below.refl _ _).alloc (Nat.le_refl _) (.cells (yesW.map Value.string).toArray 9 (0, 0))) HLz.out HNz.out HSz.out hnn.out.1 hnn.out.2.1 hnn.out.2.2
                  have KK : Hid _ := And.intro k1 (And.intro k2 (And.intro k3 k4))
                  clear k1 k2 k3 k4
                  have hNa : NumsAt (W.alloc (.cells (yesW.map Value.string).toArray 9 (0, 0))) nB r.n := HNz.out.alloc _
                  have hfz : (W.alloc (.cells (yesW.map Value.string).toArray 9 (0, 0))).frozen? ⟨nB, i, none⟩ = false := hNa.frozen
                  have hcl : (W.alloc (.cells (yesW.map Value.string).toArray 9 (0, 0))).cell? ⟨nB, i, none⟩ = some (.int .i64 (r.n.getD i 0)) := hNa.cell (by rw [HGd.out.len]; omega)
                  have hwr : wrap64 ((P : Int) - 1) = (P : Int) - 1 := by unfold wrap64; omega
                  have hj : ((nameC i).toList == [111, 110, 101]) = true ∨ (((nameC i).toList == [111, 110, 101]) = false ∧ ((nameC i).toList == [102, 97, 108, 108, 98, 97, 99, 107]) = true) := by
                    rcases hi15 with e | e
                    · subst e; exact .inl (by rw [ByteArray.toList_eq]; decide +kernel)
                    · subst e; exact .inr ⟨by rw [ByteArray.toList_eq]; decide +kernel, by rw [ByteArray.toList_eq]; decide +kernel⟩
                  have HI21 : Hid (¬ i = 21) := hi21
                  clear hNa o1 o2 o3 o4 hi21 hi20 hi15
                  rcases hj with q1 | ⟨q1, q2⟩
                  all_goals
                    go_wp2_with fail
                    refine HPl.mono ?_
                    rintro e w6 ⟨rfl, hw⟩; subst w6
                    by_cases hP : P = 0
                    · subst hP
                      go_wp2
                      go_meet
                      case rel => exact ⟨KK.out.1, KK.out.2.1, by rw [HPc.out]; rfl⟩
                    · have hP1 : (0 : Int) < (P : Int) := by omega
                      go_wp2
                      go_meet
                      case rel => exact ⟨KK.out.1, KK.out.2.1, by rw [HPc.out, if_neg hP]; exact ⟨congrArg Value.bool (decide_eq_true (show 0 < P by omega)), by rw [if_neg HI21.out], KK.out.2.2.1, KK.out.2.2.2⟩⟩
                have p15 := o3 (fun e => hi15 (.inl e))
                have p22 := o4 (fun e => hi15 (.inr e))
                have hrc := readC_num hi21 hi20 hi15 s2
                have HNr := rNumber_any s2 W hsz2
                have hb1 : BoxAt W g (rowBx i) := HBox.out
                generalize numV s2 = nv at hrc HNr
                generalize numOK s2 = ok at hrc HNr
                have c1 : ∀ W', Below W.heap.size W W' → W'.cell? ⟨g, 1, none⟩ = some (.int .i64 (lowC i)) := fun W' q => (hb1.below q).cell
                have c2 : ∀ W', Below W.heap.size W W' → W'.cell? ⟨g, 2, none⟩ = some (.int .i64 (highC i)) := fun W' q => (hb1.below q).cell
                have hgw : g < W.heap.size := hb1.lt
                generalize lowC i = lo at hrc c1
                generalize highC i = hi' at hrc c2
                have HPc : Hid (readC i s2 = if ok && decide (lo ≤ nv ∧ nv ≤ hi') then some (nv, ByteArray.empty) else none) := hrc
                have hi3 : (i : Int) < 23 := by omega
                obtain ⟨k1, k2, k3, k4⟩ := put_num (i := i) (k := nv) HBa.out (Below.refl W.heap.size W) HLz.out HNz.out HSz.out hnn.out.1 hnn.out.2.1 hnn.out.2.2
                have KK : Hid _ := And.intro k1 (And.intro k2 (And.intro k3 k4))
                have hfz : W.frozen? ⟨nB, i, none⟩ = false := HNz.out.frozen
                have hcl : W.cell? ⟨nB, i, none⟩ = some (.int .i64 (r.n.getD i 0)) := HNz.out.cell (by rw [HGd.out.len]; omega)
                have HI21 : Hid (¬ i = 21) := hi21
                clear k1 k2 k3 k4 o1 o2 o3 o4 hi21 hi20 hi15 hrc hb1
                go_wp2_with fail
                refine HNr.mono ?_
                rintro e w6 ⟨rfl, hw⟩; subst w6
                go_upto_region 23 with fail
                have hcg1 : ∀ W', Below W.heap.size (W.setCell ⟨nB, i, none⟩ (.int .i64 nv)) W' → True := fun _ _ => trivial
                have hX1 : (W.setCell ⟨nB, i, none⟩ (.int .i64 nv)).cell? ⟨g, 1, none⟩ = some (.int .i64 lo) := by
                  rw [World.cell?_of_block (w := W) (Below.heap_setCell W _ _ g (by have := HgN.out.1; show g ≠ nB; omega))]
                  exact c1 W (Below.refl _ _)
                have hX2 : (W.setCell ⟨nB, i, none⟩ (.int .i64 nv)).cell? ⟨g, 2, none⟩ = some (.int .i64 hi') := by
                  rw [World.cell?_of_block (w := W) (Below.heap_setCell W _ _ g (by have := HgN.out.1; show g ≠ nB; omega))]
                  exact c2 W (Below.refl _ _)
                have hgX : g < (W.setCell ⟨nB, i, none⟩ (.int .i64 nv)).heap.size := by simp [World.setCell]; exact hgw
                generalize W.setCell ⟨nB, i, none⟩ (.int .i64 nv) = W4 at KK hX1 hX2 hgX ⊢
                have hnum : ∀ W', Below W4.heap.size W4 W' → W'.cell? ⟨nB, i, none⟩ = some (.int .i64 nv) := fun W' q => by
                  have := (KK.out.2.2.1.below q).cell (i := i) (by rw [List.length_set, HGd.out.len]; omega)
                  rw [this, List.getD_eq_getElem?_getD, List.getElem?_set_self (by rw [HGd.out.len]; omega)]
                  rfl
                have hlow : ∀ W', Below W4.heap.size W4 W' → W'.cell? ⟨g, 1, none⟩ = some (.int .i64 lo) := fun W' q => (q.cell (p := ⟨g, 1, none⟩) hgX).trans hX1
                have hhig : ∀ W', Below W4.heap.size W4 W' → W'.cell? ⟨g, 2, none⟩ = some (.int .i64 hi') := fun W' q => (q.cell (p := ⟨g, 2, none⟩) hgX).trans hX2
                clear hX1 hX2 hgX c1 c2 hgw hcg1 hfz hcl hnm HNr
                have hKL : ∀ W', Below W4.heap.size W4 W' → Below w1.heap.size w1 W' ∧ (lB < W'.heap.size ∧ W'.cell? ⟨lB, 0, none⟩ = some (.int .i64 no)) ∧ NumsAt W' nB (r.n.set i nv) ∧ SeenAt W' sB (r.seen.set i true) := fun W' q =>
                  ⟨KK.out.1.trans (q.mono KK.out.1.size), ⟨by have := KK.out.2.1.1; have := q.size; omega, (q.cell (p := ⟨lB, 0, none⟩) KK.out.2.1.1).trans KK.out.2.1.2⟩, KK.out.2.2.1.below q, KK.out.2.2.2.below q⟩
                have HKL : Hid _ := hKL
                clear hKL KK
                cases ok with
                | false =>
                  refine wp_region_rel4 (fun W W' => Below W.heap.size W W') (fun jj vv _ => vv = ([.bool false, .bool false, undef, undef, undef, undef, undef, undef, undef, .bool false, .bool false, undef, undef, undef, undef, undef, undef, undef, .bool false, .bool false] : List Value).getD jj undef) (by kernel_rfl) (by kernel_rfl) (Below.refl _ _).drew (fun W => Below.refl _ _) (fun _ _ _ h1 h2 => h1.trans (h2.mono h1.size)) (fun _ _ _ _ h _ => h) ?_ ?_
                  · go_light
                    simp only [stepsAll3]
                    refine ⟨fun a W hF hE hd => ?_, fun a W hF hE hd => ?_, fun a W hF hE hd => ?_, fun a W hF hE hd => ?_, fun a W hF hE hd => ?_, fun a W hF hE hd => ?_, fun a W hF hE hd => ?_, fun a W hF hE hd => ?_, fun a W hF hE hd => ?_, fun a W hF hE hd => ?_, fun a W hF hE hd => ?_, fun a W hF hE hd => ?_, fun a W hF hE hd => ?_, fun a W hF hE hd => ?_, fun a W hF hE hd => ?_, fun a W hF hE hd => ?_, fun a W hF hE hd => ?_, fun a W hF hE hd => ?_, fun a W hF hE hd => ?_, fun a W hF hE hd => ?_, trivial⟩
                    all_goals unfold StepAt
                    · have t18 : a.tmps.getD 18 undef = .bool false := hF.at 18 (by kernel_rfl)
                      rw [Array.getD_eq_getD_getElem?] at t18
                      refine .inl ⟨rfl, ?_⟩
                      go_simp
                      exact ⟨Below.refl _ _, rfl⟩
                    · have t89 : a.tmps.getD 89 undef = .bool false := hd { on := 0, ground := .data } (by simp) rfl
                      rw [Array.getD_eq_getD_getElem?] at t89
                      refine .inl ⟨rfl, ?_⟩
                      go_simp
                      exact ⟨Below.refl _ _, rfl⟩
                    · have g90 : a.eval (.tmp 90) = .bool false := hd { on := 1, ground := .guard } (by simp) rfl
                      exact .inr ⟨(by simp only [Region.wanted]; rw [yielded_of (d := 90) (by rfl) g90]; rfl), rfl⟩
                    · have g90 : a.eval (.tmp 90) = .bool false := hd { on := 1, ground := .guard } (by simp) rfl
                      exact .inr ⟨(by simp only [Region.wanted]; rw [yielded_of (d := 90) (by rfl) g90]; rfl), rfl⟩
                    · have g90 : a.eval (.tmp 90) = .bool false := hd { on := 1, ground := .guard } (by simp) rfl
                      exact .inr ⟨(by simp only [Region.wanted]; rw [yielded_of (d := 90) (by rfl) g90]; rfl), rfl⟩
                    · have g90 : a.eval (.tmp 90) = .bool false := hd { on := 1, ground := .guard } (by simp) rfl
                      exact .inr ⟨(by simp only [Region.wanted]; rw [yielded_of (d := 90) (by rfl) g90]; rfl), rfl⟩
                    · have g90 : a.eval (.tmp 90) = .bool false := hd { on := 1, ground := .guard } (by simp) rfl
                      exact .inr ⟨(by simp only [Region.wanted]; rw [yielded_of (d := 90) (by rfl) g90]; rfl), rfl⟩
                    · have g90 : a.eval (.tmp 90) = .bool false := hd { on := 1, ground := .guard } (by simp) rfl
                      exact .inr ⟨(by simp only [Region.wanted]; rw [yielded_of (d := 90) (by rfl) g90]; rfl), rfl⟩
                    · have g90 : a.eval (.tmp 90) = .bool false := hd { on := 1, ground := .guard } (by simp) rfl
                      exact .inr ⟨(by simp only [Region.wanted]; rw [yielded_of (d := 90) (by rfl) g90]; rfl), rfl⟩
                    · have t90 : a.tmps.getD 90 undef = .bool false := hd { on := 1, ground := .data } (by simp) rfl
                      rw [Array.getD_eq_getD_getElem?] at t90
                      refine .inl ⟨rfl, ?_⟩
                      go_simp
                      exact ⟨Below.refl _ _, rfl⟩
                    · have t98 : a.tmps.getD 98 undef = .bool false := hd { on := 9, ground := .data } (by simp) rfl
                      rw [Array.getD_eq_getD_getElem?] at t98
                      refine .inl ⟨rfl, ?_⟩
                      go_simp
                      exact ⟨Below.refl _ _, rfl⟩
                    · have g99 : a.eval (.tmp 99) = .bool false := hd { on := 10, ground := .guard } (by simp) rfl
                      exact .inr ⟨(by simp only [Region.wanted]; rw [yielded_of (d := 99) (by rfl) g99]; rfl), rfl⟩
                    · have g99 : a.eval (.tmp 99) = .bool false := hd { on := 10, ground := .guard } (by simp) rfl
                      exact .inr ⟨(by simp only [Region.wanted]; rw [yielded_of (d := 99) (by rfl) g99]; rfl), rfl⟩
                    · have g99 : a.eval (.tmp 99) = .bool false := hd { on := 10, ground := .guard } (by simp) rfl
                      exact .inr ⟨(by simp only [Region.wanted]; rw [yielded_of (d := 99) (by rfl) g99]; rfl), rfl⟩
                    · have g99 : a.eval (.tmp 99) = .bool false := hd { on := 10, ground := .guard } (by simp) rfl
                      exact .inr ⟨(by simp only [Region.wanted]; rw [yielded_of (d := 99) (by rfl) g99]; rfl), rfl⟩
                    · have g99 : a.eval (.tmp 99) = .bool false := hd { on := 10, ground := .guard } (by simp) rfl
                      exact .inr ⟨(by simp only [Region.wanted]; rw [yielded_of (d := 99) (by rfl) g99]; rfl), rfl⟩
                    · have g99 : a.eval (.tmp 99) = .bool false := hd { on := 10, ground := .guard } (by simp) rfl
                      exact .inr ⟨(by simp only [Region.wanted]; rw [yielded_of (d := 99) (by rfl) g99]; rfl), rfl⟩
                    · have g99 : a.eval (.tmp 99) = .bool false := hd { on := 10, ground := .guard } (by simp) rfl
                      exact .inr ⟨(by simp only [Region.wanted]; rw [yielded_of (d := 99) (by rfl) g99]; rfl), rfl⟩
                    · have t99 : a.tmps.getD 99 undef = .bool false := hd { on := 10, ground := .data } (by simp) rfl
                      rw [Array.getD_eq_getD_getElem?] at t99
                      refine .inl ⟨rfl, ?_⟩
                      go_simp
                      exact ⟨Below.refl _ _, rfl⟩
                    · have t107 : a.tmps.getD 107 undef = .bool false := hd { on := 18, ground := .data } (by simp) rfl
                      rw [Array.getD_eq_getD_getElem?] at t107
                      refine .inl ⟨rfl, ?_⟩
                      go_simp
                      exact ⟨Below.refl _ _, rfl⟩
                  · intro vs' W hE hV
                    have h4 : vs' 19 = .bool false := hV 19 (by decide)
                    have HBf : Hid (Below W4.heap.size W4 W) := hE
                    clear hV hE
                    refine ‹∀ (a : Act) (w : World), Met _ a w → _› _ _ (Met.intro ?_)
                    refine put_run _ 89 [vs' 0, vs' 1, vs' 2, vs' 3, vs' 4, vs' 5, vs' 6, vs' 7, vs' 8, vs' 9, vs' 10, vs' 11, vs' 12, vs' 13, vs' 14, vs' 15, vs' 16, vs' 17, vs' 18] [(some 18, vs' 19)] rfl ?_
                    rw [h4]
                    clear h4
                    generalize vs' 0 = y0
                    generalize vs' 1 = y1
                    generalize vs' 2 = y2
                    generalize vs' 3 = y3
                    generalize vs' 4 = y4
                    generalize vs' 5 = y5
                    generalize vs' 6 = y6
                    generalize vs' 7 = y7
                    generalize vs' 8 = y8
                    generalize vs' 9 = y9
                    generalize vs' 10 = y10
                    generalize vs' 11 = y11
                    generalize vs' 12 = y12
                    generalize vs' 13 = y13
                    generalize vs' 14 = y14
                    generalize vs' 15 = y15
                    generalize vs' 16 = y16
                    generalize vs' 17 = y17
                    generalize vs' 18 = y18
                    simp only [mergeAt_zero, mergeAt_succ, mergeAt_nil, setsL, List.foldl, List.set_cons_succ, List.set_cons_zero]
                    go_step
                    (repeat apply Exists.intro)
                    refine ⟨?rel, rfl⟩
                    case rel => exact ⟨(HKL.out _ HBf.out).1, (HKL.out _ HBf.out).2.1, by rw [HPc.out]; rfl⟩
                | true =>
                  by_cases h1 : lo ≤ nv
                  · have hd1 : decide (lo ≤ nv) = true := decide_eq_true h1
                    obtain ⟨b2, hb2⟩ : ∃ b, decide (nv ≤ hi') = b := ⟨_, rfl⟩
                    have HPd : Hid (readC i s2 = if b2 then some (nv, ByteArray.empty) else none) := by
                      show _ = _
                      rw [HPc.out, ← hb2]
                      simp [h1]
                    clear HPc
                    refine wp_region_rel4 (fun W W' => Below W.heap.size W W') (fun jj vv _ => vv = ([.bool true, .bool true, .slice (some ⟨nB, 0, none⟩) 23 23, .int .i64 i, .pointer (some ⟨nB, i, none⟩), .int .i64 nv, .pointer (some ⟨g, 1, none⟩), .int .i64 lo, .bool true, .bool true, .bool true, .slice (some ⟨nB, 0, none⟩) 23 23, .int .i64 i, .pointer (some ⟨nB, i, none⟩), .int .i64 nv, .pointer (some ⟨g, 2, none⟩), .int .i64 hi', .bool b2, .bool b2, .bool b2] : List Value).getD jj undef) (by kernel_rfl) (by kernel_rfl) (Below.refl _ _).drew (fun W => Below.refl _ _) (fun _ _ _ h1 h2 => h1.trans (h2.mono h1.size)) (fun _ _ _ _ h _ => h) ?_ ?_
                    · go_light
                      simp only [stepsAll3]
                      refine ⟨fun a W hF hE hd => ?_, fun a W hF hE hd => ?_, fun a W hF hE hd => ?_, fun a W hF hE hd => ?_, fun a W hF hE hd => ?_, fun a W hF hE hd => ?_, fun a W hF hE hd => ?_, fun a W hF hE hd => ?_, fun a W hF hE hd => ?_, fun a W hF hE hd => ?_, fun a W hF hE hd => ?_, fun a W hF hE hd => ?_, fun a W hF hE hd => ?_, fun a W hF hE hd => ?_, fun a W hF hE hd => ?_, fun a W hF hE hd => ?_, fun a W hF hE hd => ?_, fun a W hF hE hd => ?_, fun a W hF hE hd => ?_, fun a W hF hE hd => ?_, trivial⟩
                      all_goals unfold StepAt
                      · have t18 : a.tmps.getD 18 undef = .bool true := hF.at 18 (by kernel_rfl)
                        rw [Array.getD_eq_getD_getElem?] at t18
                        refine .inl ⟨rfl, ?_⟩
                        go_simp
                        exact ⟨Below.refl _ _, rfl⟩
                      · have t89 : a.tmps.getD 89 undef = .bool true := hd { on := 0, ground := .data } (by simp) rfl
                        rw [Array.getD_eq_getD_getElem?] at t89
                        refine .inl ⟨rfl, ?_⟩
                        go_simp
                        exact ⟨Below.refl _ _, rfl⟩
                      · have t8 : a.tmps.getD 8 undef = .slice (some ⟨nB, 0, none⟩) 23 23 := hF.at 8 (by kernel_rfl)
                        rw [Array.getD_eq_getD_getElem?] at t8
                        have g90 : a.eval (.tmp 90) = .bool true := hd { on := 1, ground := .guard } (by simp) rfl
                        refine .inl ⟨(by simp only [Region.wanted]; rw [yielded_of (d := 90) (by rfl) g90]; rfl), ?_⟩
                        clear g90
                        go_simp
                        exact ⟨Below.refl _ _, rfl⟩
                      · have t13 : a.tmps.getD 13 undef = .int .i64 i := hF.at 13 (by kernel_rfl)
                        rw [Array.getD_eq_getD_getElem?] at t13
                        have g90 : a.eval (.tmp 90) = .bool true := hd { on := 1, ground := .guard } (by simp) rfl
                        refine .inl ⟨(by simp only [Region.wanted]; rw [yielded_of (d := 90) (by rfl) g90]; rfl), ?_⟩
                        clear g90
                        go_simp
                        exact ⟨Below.refl _ _, rfl⟩
                      · have t91 : a.tmps.getD 91 undef = .slice (some ⟨nB, 0, none⟩) 23 23 := hd { on := 2, ground := .data } (by simp) rfl
                        rw [Array.getD_eq_getD_getElem?] at t91
                        have t92 : a.tmps.getD 92 undef = .int .i64 i := hd { on := 3, ground := .data } (by simp) rfl
                        rw [Array.getD_eq_getD_getElem?] at t92
                        have g90 : a.eval (.tmp 90) = .bool true := hd { on := 1, ground := .guard } (by simp) rfl
                        refine .inl ⟨(by simp only [Region.wanted]; rw [yielded_of (d := 90) (by rfl) g90]; rfl), ?_⟩
                        clear g90
                        have hi3 : (i : Int) < 23 := by omega
                        go_simp
                        exact ⟨Below.refl _ _, rfl⟩
                      · have t93 : a.tmps.getD 93 undef = .pointer (some ⟨nB, i, none⟩) := hd { on := 4, ground := .data } (by simp) rfl
                        rw [Array.getD_eq_getD_getElem?] at t93
                        have g90 : a.eval (.tmp 90) = .bool true := hd { on := 1, ground := .guard } (by simp) rfl
                        refine .inl ⟨(by simp only [Region.wanted]; rw [yielded_of (d := 90) (by rfl) g90]; rfl), ?_⟩
                        clear g90
                        have hcx := hnum W hE
                        go_simp
                        exact ⟨Below.refl _ _, rfl⟩
                      · have t16 : a.tmps.getD 16 undef = .pointer (some ⟨g, 0, none⟩) := hF.at 16 (by kernel_rfl)
                        rw [Array.getD_eq_getD_getElem?] at t16
                        have g90 : a.eval (.tmp 90) = .bool true := hd { on := 1, ground := .guard } (by simp) rfl
                        refine .inl ⟨(by simp only [Region.wanted]; rw [yielded_of (d := 90) (by rfl) g90]; rfl), ?_⟩
                        clear g90
                        go_simp
                        exact ⟨Below.refl _ _, rfl⟩
                      · have t95 : a.tmps.getD 95 undef = .pointer (some ⟨g, 1, none⟩) := hd { on := 6, ground := .data } (by simp) rfl
                        rw [Array.getD_eq_getD_getElem?] at t95
                        have g90 : a.eval (.tmp 90) = .bool true := hd { on := 1, ground := .guard } (by simp) rfl
                        refine .inl ⟨(by simp only [Region.wanted]; rw [yielded_of (d := 90) (by rfl) g90]; rfl), ?_⟩
                        clear g90
                        have hcx := hlow W hE
                        go_simp
                        exact ⟨Below.refl _ _, rfl⟩
                      · have t94 : a.tmps.getD 94 undef = .int .i64 nv := hd { on := 5, ground := .data } (by simp) rfl
                        rw [Array.getD_eq_getD_getElem?] at t94
                        have t96 : a.tmps.getD 96 undef = .int .i64 lo := hd { on := 7, ground := .data } (by simp) rfl
                        rw [Array.getD_eq_getD_getElem?] at t96
                        have g90 : a.eval (.tmp 90) = .bool true := hd { on := 1, ground := .guard } (by simp) rfl
                        refine .inl ⟨(by simp only [Region.wanted]; rw [yielded_of (d := 90) (by rfl) g90]; rfl), ?_⟩
                        clear g90
                        go_simp
                        exact ⟨Below.refl _ _, rfl⟩
                      · have t90 : a.tmps.getD 90 undef = .bool true := hd { on := 1, ground := .data } (by simp) rfl
                        rw [Array.getD_eq_getD_getElem?] at t90
                        have t97 : a.tmps.getD 97 undef = .bool true := hd { on := 8, ground := .data } (by simp) rfl
                        rw [Array.getD_eq_getD_getElem?] at t97
                        refine .inl ⟨rfl, ?_⟩
                        go_simp
                        exact ⟨Below.refl _ _, rfl⟩
                      · have t98 : a.tmps.getD 98 undef = .bool true := hd { on := 9, ground := .data } (by simp) rfl
                        rw [Array.getD_eq_getD_getElem?] at t98
                        refine .inl ⟨rfl, ?_⟩
                        go_simp
                        exact ⟨Below.refl _ _, rfl⟩
                      · have t8 : a.tmps.getD 8 undef = .slice (some ⟨nB, 0, none⟩) 23 23 := hF.at 8 (by kernel_rfl)
                        rw [Array.getD_eq_getD_getElem?] at t8
                        have g99 : a.eval (.tmp 99) = .bool true := hd { on := 10, ground := .guard } (by simp) rfl
                        refine .inl ⟨(by simp only [Region.wanted]; rw [yielded_of (d := 99) (by rfl) g99]; rfl), ?_⟩
                        clear g99
                        go_simp
                        exact ⟨Below.refl _ _, rfl⟩
                      · have t13 : a.tmps.getD 13 undef = .int .i64 i := hF.at 13 (by kernel_rfl)
                        rw [Array.getD_eq_getD_getElem?] at t13
                        have g99 : a.eval (.tmp 99) = .bool true := hd { on := 10, ground := .guard } (by simp) rfl
                        refine .inl ⟨(by simp only [Region.wanted]; rw [yielded_of (d := 99) (by rfl) g99]; rfl), ?_⟩
                        clear g99
                        go_simp
                        exact ⟨Below.refl _ _, rfl⟩
                      · have t100 : a.tmps.getD 100 undef = .slice (some ⟨nB, 0, none⟩) 23 23 := hd { on := 11, ground := .data } (by simp) rfl
                        rw [Array.getD_eq_getD_getElem?] at t100
                        have t101 : a.tmps.getD 101 undef = .int .i64 i := hd { on := 12, ground := .data } (by simp) rfl
                        rw [Array.getD_eq_getD_getElem?] at t101
                        have g99 : a.eval (.tmp 99) = .bool true := hd { on := 10, ground := .guard } (by simp) rfl
                        refine .inl ⟨(by simp only [Region.wanted]; rw [yielded_of (d := 99) (by rfl) g99]; rfl), ?_⟩
                        clear g99
                        have hi3 : (i : Int) < 23 := by omega
                        go_simp
                        exact ⟨Below.refl _ _, rfl⟩
                      · have t102 : a.tmps.getD 102 undef = .pointer (some ⟨nB, i, none⟩) := hd { on := 13, ground := .data } (by simp) rfl
                        rw [Array.getD_eq_getD_getElem?] at t102
                        have g99 : a.eval (.tmp 99) = .bool true := hd { on := 10, ground := .guard } (by simp) rfl
                        refine .inl ⟨(by simp only [Region.wanted]; rw [yielded_of (d := 99) (by rfl) g99]; rfl), ?_⟩
                        clear g99
                        have hcx := hnum W hE
                        go_simp
                        exact ⟨Below.refl _ _, rfl⟩
                      · have t16 : a.tmps.getD 16 undef = .pointer (some ⟨g, 0, none⟩) := hF.at 16 (by kernel_rfl)
                        rw [Array.getD_eq_getD_getElem?] at t16
                        have g99 : a.eval (.tmp 99) = .bool true := hd { on := 10, ground := .guard } (by simp) rfl
                        refine .inl ⟨(by simp only [Region.wanted]; rw [yielded_of (d := 99) (by rfl) g99]; rfl), ?_⟩
                        clear g99
                        go_simp
                        exact ⟨Below.refl _ _, rfl⟩
                      · have t104 : a.tmps.getD 104 undef = .pointer (some ⟨g, 2, none⟩) := hd { on := 15, ground := .data } (by simp) rfl
                        rw [Array.getD_eq_getD_getElem?] at t104
                        have g99 : a.eval (.tmp 99) = .bool true := hd { on := 10, ground := .guard } (by simp) rfl
                        refine .inl ⟨(by simp only [Region.wanted]; rw [yielded_of (d := 99) (by rfl) g99]; rfl), ?_⟩
                        clear g99
                        have hcx := hhig W hE
                        go_simp
                        exact ⟨Below.refl _ _, rfl⟩
                      · have t103 : a.tmps.getD 103 undef = .int .i64 nv := hd { on := 14, ground := .data } (by simp) rfl
                        rw [Array.getD_eq_getD_getElem?] at t103
                        have t105 : a.tmps.getD 105 undef = .int .i64 hi' := hd { on := 16, ground := .data } (by simp) rfl
                        rw [Array.getD_eq_getD_getElem?] at t105
                        have g99 : a.eval (.tmp 99) = .bool true := hd { on := 10, ground := .guard } (by simp) rfl
                        refine .inl ⟨(by simp only [Region.wanted]; rw [yielded_of (d := 99) (by rfl) g99]; rfl), ?_⟩
                        clear g99
                        go_simp
                        exact ⟨Below.refl _ _, rfl⟩
                      · have t99 : a.tmps.getD 99 undef = .bool true := hd { on := 10, ground := .data } (by simp) rfl
                        rw [Array.getD_eq_getD_getElem?] at t99
                        have t106 : a.tmps.getD 106 undef = .bool b2 := hd { on := 17, ground := .data } (by simp) rfl
                        rw [Array.getD_eq_getD_getElem?] at t106
                        refine .inl ⟨rfl, ?_⟩
                        go_simp
                        exact ⟨Below.refl _ _, rfl⟩
                      · have t107 : a.tmps.getD 107 undef = .bool b2 := hd { on := 18, ground := .data } (by simp) rfl
                        rw [Array.getD_eq_getD_getElem?] at t107
                        refine .inl ⟨rfl, ?_⟩
                        go_simp
                        exact ⟨Below.refl _ _, rfl⟩
                    · intro vs' W hE hV
                      have h4 : vs' 19 = .bool b2 := hV 19 (by decide)
                      have HBf : Hid (Below W4.heap.size W4 W) := hE
                      clear hV hE
                      refine ‹∀ (a : Act) (w : World), Met _ a w → _› _ _ (Met.intro ?_)
                      refine put_run _ 89 [vs' 0, vs' 1, vs' 2, vs' 3, vs' 4, vs' 5, vs' 6, vs' 7, vs' 8, vs' 9, vs' 10, vs' 11, vs' 12, vs' 13, vs' 14, vs' 15, vs' 16, vs' 17, vs' 18] [(some 18, vs' 19)] rfl ?_
                      rw [h4]
                      clear h4
                      generalize vs' 0 = y0
                      generalize vs' 1 = y1
                      generalize vs' 2 = y2
                      generalize vs' 3 = y3
                      generalize vs' 4 = y4
                      generalize vs' 5 = y5
                      generalize vs' 6 = y6
                      generalize vs' 7 = y7
                      generalize vs' 8 = y8
                      generalize vs' 9 = y9
                      generalize vs' 10 = y10
                      generalize vs' 11 = y11
                      generalize vs' 12 = y12
                      generalize vs' 13 = y13
                      generalize vs' 14 = y14
                      generalize vs' 15 = y15
                      generalize vs' 16 = y16
                      generalize vs' 17 = y17
                      generalize vs' 18 = y18
                      simp only [mergeAt_zero, mergeAt_succ, mergeAt_nil, setsL, List.foldl, List.set_cons_succ, List.set_cons_zero]
                      go_step
                      (repeat apply Exists.intro)
                      refine ⟨?rel, rfl⟩
                      case rel => exact ⟨(HKL.out _ HBf.out).1, (HKL.out _ HBf.out).2.1, by cases b2 with | false => (first | (rw [HPd.out]; rfl) | rw [HPd.out]) | true => rw [HPd.out]; exact ⟨rfl, congrArg Value.string (if_neg HI21.out).symm, (HKL.out _ HBf.out).2.2.1, (HKL.out _ HBf.out).2.2.2⟩⟩
                  · have hd1 : decide (lo ≤ nv) = false := decide_eq_false h1
                    have HPd : Hid (readC i s2 = none) := by
                      show _ = _
                      rw [HPc.out]
                      simp [h1]
                    clear HPc
                    refine wp_region_rel4 (fun W W' => Below W.heap.size W W') (fun jj vv _ => vv = ([.bool true, .bool true, .slice (some ⟨nB, 0, none⟩) 23 23, .int .i64 i, .pointer (some ⟨nB, i, none⟩), .int .i64 nv, .pointer (some ⟨g, 1, none⟩), .int .i64 lo, .bool false, .bool false, .bool false, undef, undef, undef, undef, undef, undef, undef, .bool false, .bool false] : List Value).getD jj undef) (by kernel_rfl) (by kernel_rfl) (Below.refl _ _).drew (fun W => Below.refl _ _) (fun _ _ _ h1 h2 => h1.trans (h2.mono h1.size)) (fun _ _ _ _ h _ => h) ?_ ?_
                    · go_light
                      simp only [stepsAll3]
                      refine ⟨fun a W hF hE hd => ?_, fun a W hF hE hd => ?_, fun a W hF hE hd => ?_, fun a W hF hE hd => ?_, fun a W hF hE hd => ?_, fun a W hF hE hd => ?_, fun a W hF hE hd => ?_, fun a W hF hE hd => ?_, fun a W hF hE hd => ?_, fun a W hF hE hd => ?_, fun a W hF hE hd => ?_, fun a W hF hE hd => ?_, fun a W hF hE hd => ?_, fun a W hF hE hd => ?_, fun a W hF hE hd => ?_, fun a W hF hE hd => ?_, fun a W hF hE hd => ?_, fun a W hF hE hd => ?_, fun a W hF hE hd => ?_, fun a W hF hE hd => ?_, trivial⟩
                      all_goals unfold StepAt
                      · have t18 : a.tmps.getD 18 undef = .bool true := hF.at 18 (by kernel_rfl)
                        rw [Array.getD_eq_getD_getElem?] at t18
                        refine .inl ⟨rfl, ?_⟩
                        go_simp
                        exact ⟨Below.refl _ _, rfl⟩
                      · have t89 : a.tmps.getD 89 undef = .bool true := hd { on := 0, ground := .data } (by simp) rfl
                        rw [Array.getD_eq_getD_getElem?] at t89
                        refine .inl ⟨rfl, ?_⟩
                        go_simp
                        exact ⟨Below.refl _ _, rfl⟩
                      · have t8 : a.tmps.getD 8 undef = .slice (some ⟨nB, 0, none⟩) 23 23 := hF.at 8 (by kernel_rfl)
                        rw [Array.getD_eq_getD_getElem?] at t8
                        have g90 : a.eval (.tmp 90) = .bool true := hd { on := 1, ground := .guard } (by simp) rfl
                        refine .inl ⟨(by simp only [Region.wanted]; rw [yielded_of (d := 90) (by rfl) g90]; rfl), ?_⟩
                        clear g90
                        go_simp
                        exact ⟨Below.refl _ _, rfl⟩
                      · have t13 : a.tmps.getD 13 undef = .int .i64 i := hF.at 13 (by kernel_rfl)
                        rw [Array.getD_eq_getD_getElem?] at t13
                        have g90 : a.eval (.tmp 90) = .bool true := hd { on := 1, ground := .guard } (by simp) rfl
                        refine .inl ⟨(by simp only [Region.wanted]; rw [yielded_of (d := 90) (by rfl) g90]; rfl), ?_⟩
                        clear g90
                        go_simp
                        exact ⟨Below.refl _ _, rfl⟩
                      · have t91 : a.tmps.getD 91 undef = .slice (some ⟨nB, 0, none⟩) 23 23 := hd { on := 2, ground := .data } (by simp) rfl
                        rw [Array.getD_eq_getD_getElem?] at t91
                        have t92 : a.tmps.getD 92 undef = .int .i64 i := hd { on := 3, ground := .data } (by simp) rfl
                        rw [Array.getD_eq_getD_getElem?] at t92
                        have g90 : a.eval (.tmp 90) = .bool true := hd { on := 1, ground := .guard } (by simp) rfl
                        refine .inl ⟨(by simp only [Region.wanted]; rw [yielded_of (d := 90) (by rfl) g90]; rfl), ?_⟩
                        clear g90
                        have hi3 : (i : Int) < 23 := by omega
                        go_simp
                        exact ⟨Below.refl _ _, rfl⟩
                      · have t93 : a.tmps.getD 93 undef = .pointer (some ⟨nB, i, none⟩) := hd { on := 4, ground := .data } (by simp) rfl
                        rw [Array.getD_eq_getD_getElem?] at t93
                        have g90 : a.eval (.tmp 90) = .bool true := hd { on := 1, ground := .guard } (by simp) rfl
                        refine .inl ⟨(by simp only [Region.wanted]; rw [yielded_of (d := 90) (by rfl) g90]; rfl), ?_⟩
                        clear g90
                        have hcx := hnum W hE
                        go_simp
                        exact ⟨Below.refl _ _, rfl⟩
                      · have t16 : a.tmps.getD 16 undef = .pointer (some ⟨g, 0, none⟩) := hF.at 16 (by kernel_rfl)
                        rw [Array.getD_eq_getD_getElem?] at t16
                        have g90 : a.eval (.tmp 90) = .bool true := hd { on := 1, ground := .guard } (by simp) rfl
                        refine .inl ⟨(by simp only [Region.wanted]; rw [yielded_of (d := 90) (by rfl) g90]; rfl), ?_⟩
                        clear g90
                        go_simp
                        exact ⟨Below.refl _ _, rfl⟩
                      · have t95 : a.tmps.getD 95 undef = .pointer (some ⟨g, 1, none⟩) := hd { on := 6, ground := .data } (by simp) rfl
                        rw [Array.getD_eq_getD_getElem?] at t95
                        have g90 : a.eval (.tmp 90) = .bool true := hd { on := 1, ground := .guard } (by simp) rfl
                        refine .inl ⟨(by simp only [Region.wanted]; rw [yielded_of (d := 90) (by rfl) g90]; rfl), ?_⟩
                        clear g90
                        have hcx := hlow W hE
                        go_simp
                        exact ⟨Below.refl _ _, rfl⟩
                      · have t94 : a.tmps.getD 94 undef = .int .i64 nv := hd { on := 5, ground := .data } (by simp) rfl
                        rw [Array.getD_eq_getD_getElem?] at t94
                        have t96 : a.tmps.getD 96 undef = .int .i64 lo := hd { on := 7, ground := .data } (by simp) rfl
                        rw [Array.getD_eq_getD_getElem?] at t96
                        have g90 : a.eval (.tmp 90) = .bool true := hd { on := 1, ground := .guard } (by simp) rfl
                        refine .inl ⟨(by simp only [Region.wanted]; rw [yielded_of (d := 90) (by rfl) g90]; rfl), ?_⟩
                        clear g90
                        go_simp
                        exact ⟨Below.refl _ _, rfl⟩
                      · have t90 : a.tmps.getD 90 undef = .bool true := hd { on := 1, ground := .data } (by simp) rfl
                        rw [Array.getD_eq_getD_getElem?] at t90
                        have t97 : a.tmps.getD 97 undef = .bool false := hd { on := 8, ground := .data } (by simp) rfl
                        rw [Array.getD_eq_getD_getElem?] at t97
                        refine .inl ⟨rfl, ?_⟩
                        go_simp
                        exact ⟨Below.refl _ _, rfl⟩
                      · have t98 : a.tmps.getD 98 undef = .bool false := hd { on := 9, ground := .data } (by simp) rfl
                        rw [Array.getD_eq_getD_getElem?] at t98
                        refine .inl ⟨rfl, ?_⟩
                        go_simp
                        exact ⟨Below.refl _ _, rfl⟩
                      · have g99 : a.eval (.tmp 99) = .bool false := hd { on := 10, ground := .guard } (by simp) rfl
                        exact .inr ⟨(by simp only [Region.wanted]; rw [yielded_of (d := 99) (by rfl) g99]; rfl), rfl⟩
                      · have g99 : a.eval (.tmp 99) = .bool false := hd { on := 10, ground := .guard } (by simp) rfl
                        exact .inr ⟨(by simp only [Region.wanted]; rw [yielded_of (d := 99) (by rfl) g99]; rfl), rfl⟩
                      · have g99 : a.eval (.tmp 99) = .bool false := hd { on := 10, ground := .guard } (by simp) rfl
                        exact .inr ⟨(by simp only [Region.wanted]; rw [yielded_of (d := 99) (by rfl) g99]; rfl), rfl⟩
                      · have g99 : a.eval (.tmp 99) = .bool false := hd { on := 10, ground := .guard } (by simp) rfl
                        exact .inr ⟨(by simp only [Region.wanted]; rw [yielded_of (d := 99) (by rfl) g99]; rfl), rfl⟩
                      · have g99 : a.eval (.tmp 99) = .bool false := hd { on := 10, ground := .guard } (by simp) rfl
                        exact .inr ⟨(by simp only [Region.wanted]; rw [yielded_of (d := 99) (by rfl) g99]; rfl), rfl⟩
                      · have g99 : a.eval (.tmp 99) = .bool false := hd { on := 10, ground := .guard } (by simp) rfl
                        exact .inr ⟨(by simp only [Region.wanted]; rw [yielded_of (d := 99) (by rfl) g99]; rfl), rfl⟩
                      · have g99 : a.eval (.tmp 99) = .bool false := hd { on := 10, ground := .guard } (by simp) rfl
                        exact .inr ⟨(by simp only [Region.wanted]; rw [yielded_of (d := 99) (by rfl) g99]; rfl), rfl⟩
                      · have t99 : a.tmps.getD 99 undef = .bool false := hd { on := 10, ground := .data } (by simp) rfl
                        rw [Array.getD_eq_getD_getElem?] at t99
                        refine .inl ⟨rfl, ?_⟩
                        go_simp
                        exact ⟨Below.refl _ _, rfl⟩
                      · have t107 : a.tmps.getD 107 undef = .bool false := hd { on := 18, ground := .data } (by simp) rfl
                        rw [Array.getD_eq_getD_getElem?] at t107
                        refine .inl ⟨rfl, ?_⟩
                        go_simp
                        exact ⟨Below.refl _ _, rfl⟩
                    · intro vs' W hE hV
                      have h4 : vs' 19 = .bool false := hV 19 (by decide)
                      have HBf : Hid (Below W4.heap.size W4 W) := hE
                      clear hV hE
                      refine ‹∀ (a : Act) (w : World), Met _ a w → _› _ _ (Met.intro ?_)
                      refine put_run _ 89 [vs' 0, vs' 1, vs' 2, vs' 3, vs' 4, vs' 5, vs' 6, vs' 7, vs' 8, vs' 9, vs' 10, vs' 11, vs' 12, vs' 13, vs' 14, vs' 15, vs' 16, vs' 17, vs' 18] [(some 18, vs' 19)] rfl ?_
                      rw [h4]
                      clear h4
                      generalize vs' 0 = y0
                      generalize vs' 1 = y1
                      generalize vs' 2 = y2
                      generalize vs' 3 = y3
                      generalize vs' 4 = y4
                      generalize vs' 5 = y5
                      generalize vs' 6 = y6
                      generalize vs' 7 = y7
                      generalize vs' 8 = y8
                      generalize vs' 9 = y9
                      generalize vs' 10 = y10
                      generalize vs' 11 = y11
                      generalize vs' 12 = y12
                      generalize vs' 13 = y13
                      generalize vs' 14 = y14
                      generalize vs' 15 = y15
                      generalize vs' 16 = y16
                      generalize vs' 17 = y17
                      generalize vs' 18 = y18
                      simp only [mergeAt_zero, mergeAt_succ, mergeAt_nil, setsL, List.foldl, List.set_cons_succ, List.set_cons_zero]
                      go_step
                      (repeat apply Exists.intro)
                      refine ⟨?rel, rfl⟩
                      case rel => exact ⟨(HKL.out _ HBf.out).1, (HKL.out _ HBf.out).2.1, by first | (rw [HPd.out]; rfl) | rw [HPd.out]⟩
              case rest =>
                obtain ⟨hb3, hl3, hm3⟩ := hcut
                cases hrd : readC i s2 with
                | none =>
                  rw [hrd] at hm3
                  simp only at hm3
                  obtain rfl := hm3
                  have e0 : R = .inr no := by
                    rw [← HR.out, HRun.out.1, HRu.out]
                    have : stepC r [na, s2] = none := by unfold stepC; simp only [hf, hsn, hrd]; rfl
                    rw [this]
                  subst e0
                  have HCz : Hid (CellsAt wc w.heap.size zeroArr) := HC1.out.below hb3
                  have HBz : Hid (Below w.heap.size w wc) := HB1.out.trans (hb3.mono (by have := HRl.out; omega))
                  have HL3 : Hid (lB < wc.heap.size ∧ wc.cell? ⟨lB, 0, none⟩ = some (.int .i64 no)) := hl3
                  have hline : ∀ W, badE w.heap.size wc W → W.cell? ⟨lB, 0, none⟩ = some (.int .i64 no) := fun W hE => by
                    have h1 := HnL.out
                    have h2 := HRl.out
                    rw [hE.1.cell_far ⟨lB, 0, none⟩ HL3.out.1 (fun e => by simp at e; omega)]
                    exact HL3.out.2
                  clear HRu HSt hl3 hb3 hrd
                  go_wp2
                  refine wp_region_rel4 (badE w.heap.size) (badV lB no) (by kernel_rfl) (by kernel_rfl) ⟨grown_below (Below.refl _ _).drew _, fun h => h⟩ (badE_refl _) (fun _ _ _ h1 h2 => badE_trans h1 h2) (fun i v _ _ h _ => by match i with | 0 | 1 | 2 | 3 | 4 => exact h | n + 5 => exact h) ?_ ?_
                  · simp only [stepsAll3]
                    refine ⟨fun a W hF hE hd => ?_, fun a W hF hE hd => ?_, fun a W hF hE hd => ?_, fun a W hF hE hd => ?_, fun a W hF hE hd => ?_, fun a W hF hE hd => ?_, trivial⟩
                    all_goals unfold StepAt
                    · left
                      refine ⟨rfl, ?_⟩
                      go_simp
                      exact ⟨badE_refl _ _, rfl⟩
                    · have t12 : a.tmps.getD 12 undef = .pointer (some ⟨lB, 0, none⟩) := hF.at 12 (by kernel_rfl)
                      rw [Array.getD_eq_getD_getElem?] at t12
                      left
                      refine ⟨rfl, ?_⟩
                      go_simp
                      exact ⟨badE_refl _ _, rfl⟩
                    · have t148 : a.tmps.getD 148 undef = .pointer (some ⟨lB, 0, none⟩) := hd { on := 1, ground := .data } (by simp) rfl
                      rw [Array.getD_eq_getD_getElem?] at t148
                      have c0 : W.cell? ⟨lB, 0, none⟩ = some (.int .i64 no) := hline W hE
                      left
                      refine ⟨rfl, ?_⟩
                      go_simp
                      exact ⟨badE_refl _ _, rfl⟩
                    · have t2 : a.tmps.getD 2 undef = .pointer (some ⟨w.heap.size, 0, none⟩) := hF.at 2 (by kernel_rfl)
                      rw [Array.getD_eq_getD_getElem?] at t2
                      have t147 : a.tmps.getD 147 undef = .agg zeroArr := hd { on := 0, ground := .data } (by simp) rfl
                      rw [Array.getD_eq_getD_getElem?] at t147
                      left
                      refine ⟨rfl, ?_⟩
                      rw [run_ostore _ _ 23 (.tmp 2) (.tmp 147) rfl w.heap.size zeroArr (by simpa [Act.eval] using t2) (by simpa [Act.eval] using t147) 23 zeroArr (hE.2 HCz.out) zero_info rfl zeroArr_one]
                      exact ⟨⟨grown_setRow _, fun h => setRow_heap W _ _ _ _ _ h⟩, trivial⟩
                    · have t149 : a.tmps.getD 149 undef = .int .i64 no := hd { on := 2, ground := .data } (by simp) rfl
                      rw [Array.getD_eq_getD_getElem?] at t149
                      left
                      refine ⟨rfl, ?_⟩
                      go_simp
                      exact ⟨badE_refl _ _, rfl⟩
                    · left
                      refine ⟨rfl, ?_⟩
                      go_simp
                      exact ⟨badE_refl _ _, rfl⟩
                  · intro vs' W hE hV
                    have h3 : vs' 4 = .int .i64 no := hV 4 (by decide)
                    have h4 : vs' 5 = .int .i64 2 := hV 5 (by decide)
                    have HCf : Hid (CellsAt W w.heap.size zeroArr) := hE.2 HCz.out
                    have HBf : Hid (Below w.heap.size w W) := below_grown HBz.out hE.1 (Nat.le_refl _) HBz.out.size
                    clear hV hE
                    simp only [putsV, dstsV, List.foldl, h3, h4, Act.put, List.setIfInBounds_toArray, List.set_cons_succ, List.set_cons_zero]
                    clear h3 h4
                    refine ‹∀ (a : Act) (w : World), Code.wp Tryd.prog Code.ret _ a w → _› _ _ ?_
                    go_wp2
                    try simp only [Exit.inBlock, Exit.then]
                    refine bodyPost_ret (results_cell3 rfl _ _ w.heap.size 23 _ _ _ rfl HCf.out Tryd.underlying23 rfl zero_info) rfl ?_
                    exact ⟨rfl, HBf.out⟩
                | some p =>
                  obtain ⟨kk, zz⟩ := p
                  rw [hrd] at hm3
                  simp only at hm3
                  obtain ⟨rfl, rfl, hn3, hs3⟩ := hm3
                  have hst3 : stepC r [na, s2] = some ⟨r.n.set i kk, if i = 21 then zz else r.z, r.seen.set i true⟩ := by unfold stepC; simp only [hf, hsn, hrd]; rfl
                  obtain ⟨hg3, hlen3⟩ := HSt.out _ hst3
                  have HRd3 : Hid (Reading2 L (k + 1) ⟨r.n.set i kk, if i = 21 then zz else r.z, r.seen.set i true⟩ nB sB w1 wc) := ⟨by rw [HRun.out.1, HRu.out, hst3], hg3, hlen3, hn3, hs3, hb3, step_zone hst3 HRun.out.2.2 HRun.out.2.1⟩
                  clear hn3 hs3 hb3 hl3 hg3 hlen3 hst3
                  go_wp2
                  go_roundw
                  case rel => exact ⟨k + 1, _, by omega, by go_num, rfl, HRd3.out⟩
                  case measure => simp [intOf]; omega
    · have hkL : k = L.length := by omega
      have eR : R = .inl r := by
        rw [← HR.out, HRd.out.run, hkL, List.drop_length]
        rfl
      subst eR
      have HCz : Hid (CellsAt wr w.heap.size zeroArr) := HC1.out.below HRd.out.below
      have HBz : Hid (Below w.heap.size w wr) := HB1.out.trans (HRd.out.below.mono (by have := HRl.out; omega))
      have HMd := HMade r.n r.z _ wr (HRd.out.nums.row HRd.out.good.len)
      rw [val_arr] at HMd
      have HIm : Hid _ := arr_infoR (ofNums r.n r.z)
      have HOm : Hid _ := arr_oneR (ofNums r.n r.z)
      have HSm : Hid ((ofNums r.n r.z).arr.size = 23) := rfl
      obtain ⟨MA, hMA⟩ : ∃ MA, (ofNums r.n r.z).arr = MA := ⟨_, rfl⟩
      rw [hMA] at HMd HIm HOm HSm
      have HMA : Hid ((ofNums r.n r.z).arr = MA) := hMA
      clear HMade hMA
      go_wp2_with fail
      refine HMd.mono ?_
      rintro e w6 ⟨rfl, hb⟩
      have HC6 : Hid (CellsAt w6 w.heap.size zeroArr) := HCz.out.below hb
      have HB6 : Hid (Below w.heap.size w w6) := HBz.out.trans (hb.mono HBz.out.size)
      clear hb HMd
      go_wp2_with (refine wpList_store_row rfl 23 (.tmp 2) (.tmp 153) rfl w.heap.size MA rfl rfl 23 _ HC6.out HIm.out (by rw [HSm.out]; rfl) HOm.out ?_)
      try simp only [Exit.inBlock, Exit.then]
      refine bodyPost_ret (results_cell3 rfl _ _ w.heap.size 23 _ _ _ rfl (setRow_heap w6 _ _ _ _ _ HC6.out) Tryd.underlying23 rfl HIm.out) rfl ?_
      exact ⟨by show _ = Ending.returned (.tuple #[.agg (ofNums r.n r.z).arr, .int .i64 0, .int .i64 0]); rw [HMA.out]; rfl, below_setRow HB6.out (Nat.le_refl _) _⟩

/-- The reference's reading. -/
theorem rParse_any (s : ByteArray) (w : World) (hs : s.size ≤ 9223372036854775807) :
    Calls Tryd.prog 6 #[.string s] w fun e w' => e = .returned (.tuple #[.agg (parseV s).1.arr, .int .i64 (parseV s).2.1, .int .i64 (parseV s).2.2]) ∧ Below w.heap.size w w' := by
  obtain ⟨L, no, er, hsp⟩ : ∃ L no er, splitV s = (L, no, er) := ⟨_, _, _, rfl⟩
  by_cases her : er = 0
  · have hno : no = 0 := by
      rcases split_no s with ⟨_, h, _⟩ | ⟨h, _⟩
      · rw [hsp] at h; exact h
      · rw [hsp] at h; simp only at h; omega
    subst her hno
    refine (rParse_good s L hsp w hs).mono ?_
    rintro e w1 ⟨h, hb⟩
    refine ⟨?_, hb⟩
    unfold parseV
    rw [hsp]
    simp only [if_true]
    cases hr : runC read0 L with
    | inl r => rw [hr] at h; exact h
    | inr no => rw [hr] at h; exact h
  · refine (rParse_bad s no er L hsp her w hs).mono ?_
    rintro e w1 ⟨rfl, hb⟩
    refine ⟨?_, hb⟩
    unfold parseV
    rw [hsp]
    simp only [if_neg her]
    rfl

end Go.Proofs.YtkninlahlgipoaaDoor
