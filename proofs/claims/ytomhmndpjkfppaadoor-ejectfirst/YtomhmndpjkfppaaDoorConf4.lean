/-
  The contracts of package config's row, at a row of the table: may, read; what they come to. And those of readLine.
-/
import Derived.Test.YtomhmndpjkfppaaDoorConf3
namespace Go.Proofs.YtomhmndpjkfppaaDoor
open Go.RowKit

theorem num20 {i : Nat} (h : i < 21 ∧ i ≠ 15) : i = 0 ∨ i = 1 ∨ i = 2 ∨ i = 3 ∨ i = 4 ∨ i = 5 ∨ i = 6 ∨ i = 7 ∨ i = 8 ∨ i = 9 ∨ i = 10 ∨ i = 11 ∨ i = 12 ∨ i = 13 ∨ i = 14 ∨ i = 16 ∨ i = 17 ∨ i = 18 ∨ i = 19 ∨ i = 20 := by omega
theorem kinds {i : Nat} (h : i < 23) : (i < 21 ∧ i ≠ 15) ∨ (i = 15 ∨ i = 22) ∨ i = 21 := by omega

/-- The array of a configuration's cells. -/
def Cfg.arr (c : Cfg) : Array Value := c.cells.toArray
theorem val_arr (c : Cfg) : c.val = .agg c.arr := rfl
theorem arr_size (c : Cfg) : c.arr.size = 23 := rfl
theorem arr_num (c : Cfg) {i : Nat} (h : i < 21 ∧ i ≠ 15) : c.arr[i]? = some (.int .i64 (c.nums.getD i 0)) := by
  rcases num20 h with rfl | rfl | rfl | rfl | rfl | rfl | rfl | rfl | rfl | rfl | rfl | rfl | rfl | rfl | rfl | rfl | rfl | rfl | rfl | rfl
  all_goals rfl
theorem arr_zone (c : Cfg) : c.arr[21]? = some (.string c.zone) := rfl
theorem kind_num {i : Nat} (h : i < 21 ∧ i ≠ 15) : ((rowK i).1 = 1 ∨ (rowK i).1 = 3) ∧ (rowK i).2.1 = lowC i ∧ (rowK i).2.2.1 = highC i ∧ ((rowK i).1 = 3 ↔ i = 20) := by
  rcases num20 h with rfl | rfl | rfl | rfl | rfl | rfl | rfl | rfl | rfl | rfl | rfl | rfl | rfl | rfl | rfl | rfl | rfl | rfl | rfl | rfl
  all_goals decide
theorem nums_num {n : List Int} (z : ByteArray) {i : Nat} (h : i < 21 ∧ i ≠ 15) : (ofNums n z).nums.getD i 0 = n.getD i 0 := by
  rcases num20 h with rfl | rfl | rfl | rfl | rfl | rfl | rfl | rfl | rfl | rfl | rfl | rfl | rfl | rfl | rfl | rfl | rfl | rfl | rfl | rfl
  all_goals rfl
theorem arr_set_num {n : List Int} (hl : n.length = 23) (z : ByteArray) {i : Nat} (h : i < 21 ∧ i ≠ 15) (k : Int) : (ofNums n z).arr.setIfInBounds i (.int .i64 k) = (ofNums (n.set i k) z).arr := by
  obtain ⟨a0, a1, a2, a3, a4, a5, a6, a7, a8, a9, a10, a11, a12, a13, a14, a15, a16, a17, a18, a19, a20, a21, a22, rfl⟩ := list23 hl
  rcases num20 h with rfl | rfl | rfl | rfl | rfl | rfl | rfl | rfl | rfl | rfl | rfl | rfl | rfl | rfl | rfl | rfl | rfl | rfl | rfl | rfl
  all_goals rfl
theorem arr_set_bit {n : List Int} (hl : n.length = 23) (z : ByteArray) {i : Nat} (h : i = 15 ∨ i = 22) (q : Bool) : (ofNums n z).arr.setIfInBounds i (.bool q) = (ofNums (n.set i (bitV q)) z).arr := by
  obtain ⟨a0, a1, a2, a3, a4, a5, a6, a7, a8, a9, a10, a11, a12, a13, a14, a15, a16, a17, a18, a19, a20, a21, a22, rfl⟩ := list23 hl
  cases q
  all_goals rcases h with rfl | rfl
  all_goals rfl
theorem arr_set_zone {n : List Int} (hl : n.length = 23) (z z' : ByteArray) : (ofNums n z).arr.setIfInBounds 21 (.string z') = (ofNums (n.set 21 0) z').arr := by
  obtain ⟨a0, a1, a2, a3, a4, a5, a6, a7, a8, a9, a10, a11, a12, a13, a14, a15, a16, a17, a18, a19, a20, a21, a22, rfl⟩ := list23 hl
  rfl

/-- Whether what a configuration holds for a name may be. -/
def mayK (c : Cfg) (i : Nat) : Bool := if i = 21 then (decide (c.zone.size = 0) || nameOK c.zone) else fitsC c.nums i
theorem fits_bit (c : Cfg) {i : Nat} (h : i = 15 ∨ i = 22) : fitsC c.nums i = true := by
  have hb : ∀ q : Bool, 0 ≤ bitV q ∧ bitV q ≤ 1 := by decide
  unfold fitsC
  rw [decide_eq_true_eq]
  rcases h with rfl | rfl
  · exact hb c.one
  · exact hb c.fb
theorem fits_21 (c : Cfg) : fitsC c.nums 21 = true := by
  unfold fitsC
  rw [decide_eq_true_eq]
  exact ⟨Int.le_refl _, Int.le_refl _⟩
theorem may_all {c : Cfg} (h : ∀ i, i < 23 → mayK c i = true) : mayC c = true := by
  refine may_of (fun i hi => ?_) ?_
  · by_cases e : i = 21
    · rw [e]; exact fits_21 c
    · have := h i hi
      unfold mayK at this
      rwa [if_neg e] at this
  · have := h 21 (by omega)
    unfold mayK at this
    rw [if_pos rfl] at this
    simpa using this
theorem may_not {c : Cfg} {i : Nat} (hi : i < 23) (h : mayK c i = false) : mayC c = false := by
  cases hm : mayC c with
  | false => rfl
  | true =>
    exfalso
    obtain ⟨h1, h2⟩ := may_parts hm
    unfold mayK at h
    split at h
    · rcases h2 with h2 | h2
      · simp [h2] at h
      · simp [h2] at h
    · rw [h1 i hi] at h; cases h

theorem row_may (i : Nat) (hi : i < 23) (c : Cfg) (w : World) (hz : c.zone.size ≤ 9223372036854775807) :
    Calls Tryd.prog 33 #[rowA i, .agg c.arr] w fun e w' => e = .returned (.bool (mayK c i)) ∧ Below w.heap.size w w' := by
  rcases kinds hi with h | h | rfl
  · have e : mayK c i = decide ((rowK i).2.1 ≤ c.nums.getD i 0 ∧ c.nums.getD i 0 ≤ (rowK i).2.2.1) := by
      unfold mayK fitsC
      rw [if_neg (by omega), (kind_num h).2.1, (kind_num h).2.2.1]
    rw [e]
    exact may_num i (nameC i) (mkS (rowK i).2.2.2) (rowK i).1 (rowK i).2.1 (rowK i).2.2.1 _ (kind_num h).1 c.arr (arr_num c h) (fun b W => numberIn_any i h b W) w
  · have e : mayK c i = true := by
      unfold mayK
      rw [if_neg (by omega)]
      exact fits_bit c h
    rw [e]
    rcases h with rfl | rfl
    · exact may_two _ _ 0 0 c.arr w
    · exact may_two _ _ 0 0 c.arr w
  · exact may_zone _ _ c.zone 0 0 c.arr (arr_zone c) w hz

/-- What a word is read as behind a name. -/
def okR (i : Nat) (s : ByteArray) : Bool := if i = 21 then true else if i = 20 then decide (placeW s polW ≠ 0) else if i = 15 ∨ i = 22 then decide (placeW s yesW ≠ 0) else numOK s
def numR (i : Nat) (s : ByteArray) : Int := if i = 21 then 0 else if i = 20 then placeW s polW else if i = 15 ∨ i = 22 then bitV (placeW s yesW == 2) else numV s
def zonR (z : ByteArray) (i : Nat) (s : ByteArray) : ByteArray := if i = 21 then (if s = mkS [45] then ByteArray.empty else s) else z

theorem row_read (i : Nat) (hi : i < 23) (n : List Int) (hl : n.length = 23) (z s : ByteArray) (b : Nat) (w : World) (h : CellsAt w b (ofNums n z).arr) (hs : s.size ≤ 9223372036854775807) :
    Calls Tryd.prog 34 #[rowA i, .pointer (some ⟨b, 0, none⟩), .string s] w fun e w' => e = .returned (.bool (okR i s)) ∧ CellsAt w' b (ofNums (n.set i (numR i s)) (zonR z i s)).arr ∧ w.grownBy w' (some b) := by
  have hsz : (ofNums n z).arr.size = 23 := arr_size _
  rcases kinds hi with h1 | h1 | rfl
  · by_cases e20 : i = 20
    · subst e20
      have := read_pol 20 (nameC 20) (mkS (rowK 20).2.2.2) s (rowK 20).2.1 (rowK 20).2.2.1 (ofNums n z).arr (by omega) b (fun b W => numberIn_any 20 h1 b W) w h
      rw [arr_set_num hl z h1] at this
      exact this
    · have e : okR i s = numOK s ∧ numR i s = numV s ∧ zonR z i s = z := by
        unfold okR numR zonR
        simp [e20, show ¬ i = 21 from by omega, show ¬ i = 22 from by omega, h1.2]
      have hk : (rowK i).1 = 1 := (kind_num h1).1.resolve_right fun h => e20 ((kind_num h1).2.2.2.1 h)
      have := read_num i (nameC i) (mkS (rowK i).2.2.2) s (rowK i).2.1 (rowK i).2.2.1 (ofNums n z).arr (by omega) b (fun b W => numberIn_any i h1 b W) w h hs
      rw [arr_set_num hl z h1] at this
      rw [e.1, e.2.1, e.2.2]
      unfold rowA
      rw [hk]
      exact this
  · have e : okR i s = decide (placeW s yesW ≠ 0) ∧ numR i s = bitV (placeW s yesW == 2) ∧ zonR z i s = z := by
      unfold okR numR zonR
      simp [h1, show ¬ i = 21 from by omega, show ¬ i = 20 from by omega]
    have hk : (rowK i).1 = 2 := by rcases h1 with rfl | rfl <;> rfl
    have := read_cho i (nameC i) (mkS (rowK i).2.2.2) s (rowK i).2.1 (rowK i).2.2.1 (ofNums n z).arr (by omega) b (fun b W => choiceIn_any i h1 b W) w h
    rw [arr_set_bit hl z h1] at this
    rw [e.1, e.2.1, e.2.2]
    unfold rowA
    rw [hk]
    exact this
  · have := read_zone (nameC 21) (mkS (rowK 21).2.2.2) s (rowK 21).2.1 (rowK 21).2.2.1 (ofNums n z).arr (by omega) b w h
    rw [arr_set_zone hl] at this
    exact this

/-- Both together are what is read. -/
theorem read_both (i : Nat) (hi : i < 23) (n : List Int) (hl : n.length = 23) (z s : ByteArray) (h0 : s.size ≠ 0) :
    match readC i s with
    | none => (okR i s && mayK (ofNums (n.set i (numR i s)) (zonR z i s)) i) = false
    | some (k, zz) => (okR i s && mayK (ofNums (n.set i (numR i s)) (zonR z i s)) i) = true ∧ numR i s = k ∧ zonR z i s = if i = 21 then zz else z := by
  have hset : ∀ k, (n.set i k).getD i 0 = k := fun k => by
    have : i < n.length := by omega
    simp [this]
  rcases kinds hi with h1 | h1 | rfl
  · have n21 : ¬ i = 21 := by omega
    have n22 : ¬ i = 22 := by omega
    have hm : mayK (ofNums (n.set i (numR i s)) (zonR z i s)) i = decide (lowC i ≤ numR i s ∧ numR i s ≤ highC i) := by
      unfold mayK fitsC
      rw [if_neg n21, nums_num _ h1, hset]
    by_cases e20 : i = 20
    · subst e20
      rw [hm]
      have hle : placeW s polW ≤ 3 := placeW_le s polW
      have e1 : lowC 20 = 1 := rfl
      have e2 : highC 20 = 3 := rfl
      have e3 : okR 20 s = decide (placeW s polW ≠ 0) := rfl
      have e4 : numR 20 s = placeW s polW := rfl
      have e5 : zonR z 20 s = z := rfl
      have e6 : readC 20 s = if placeW s polW = 0 then none else some ((placeW s polW : Int), ByteArray.empty) := rfl
      rw [e1, e2, e3, e4, e5, e6]
      by_cases hp : placeW s polW = 0
      · rw [if_pos hp]; simp [hp]
      · rw [if_neg hp]
        refine ⟨?_, rfl, rfl⟩
        simp only [Bool.and_eq_true, decide_eq_true_eq]
        omega
    · have e : okR i s = numOK s ∧ numR i s = numV s ∧ zonR z i s = z := by
        unfold okR numR zonR
        simp [e20, n21, n22, h1.2]
      have er : readC i s = if numOK s && decide (lowC i ≤ numV s ∧ numV s ≤ highC i) then some (numV s, ByteArray.empty) else none := by
        unfold readC
        rw [if_neg n21, if_neg e20, if_neg (by omega)]
      rw [hm, er, e.1, e.2.1, e.2.2]
      cases hq : (numOK s && decide (lowC i ≤ numV s ∧ numV s ≤ highC i)) with
      | true => simp [n21]
      | false => simp
  · have n21 : ¬ i = 21 := by omega
    have hm : mayK (ofNums (n.set i (numR i s)) (zonR z i s)) i = true := by
      unfold mayK
      rw [if_neg n21]
      exact fits_bit _ h1
    have hle : placeW s yesW ≤ 2 := placeW_le s yesW
    have e : okR i s = decide (placeW s yesW ≠ 0) ∧ numR i s = bitV (placeW s yesW == 2) ∧ zonR z i s = z := by
      unfold okR numR zonR
      simp [h1, n21, show ¬ i = 20 from by omega]
    have er : readC i s = if placeW s yesW = 0 then none else some ((placeW s yesW : Int) - 1, ByteArray.empty) := by
      unfold readC
      rw [if_neg n21, if_neg (by omega), if_pos h1]
    rw [hm, er, e.1, e.2.1, e.2.2]
    have hc : placeW s yesW = 0 ∨ placeW s yesW = 1 ∨ placeW s yesW = 2 := by omega
    rcases hc with h | h | h
    · rw [h]; rfl
    · rw [h]; simp [n21, bitV]
    · rw [h]; simp [n21, bitV]
  · have e6 : readC 21 s = if s = mkS [45] then some (0, ByteArray.empty) else if nameOK s then some (0, s) else none := rfl
    have e3 : okR 21 s = true := rfl
    have e4 : numR 21 s = 0 := rfl
    have e5 : zonR z 21 s = if s = mkS [45] then ByteArray.empty else s := rfl
    have hm : ∀ y : ByteArray, mayK (ofNums (n.set 21 0) y) 21 = (decide (y.size = 0) || nameOK y) := fun _ => rfl
    rw [e3, e4, e5, e6, hm]
    by_cases hs : s = mkS [45]
    · simp only [if_pos hs]
      simp
    · simp only [if_neg hs]
      cases hn : nameOK s with
      | true => simp
      | false => simp [h0]

end Go.Proofs.YtomhmndpjkfppaaDoor
