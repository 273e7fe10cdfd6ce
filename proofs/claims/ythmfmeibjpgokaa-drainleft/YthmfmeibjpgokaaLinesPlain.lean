/-
  The plain mathematics of chapter 5: numbers and names, lines and words. No program stands in it.
-/
import Derived.Test.YthmfmeibjpgokaaTurnPlain
namespace Go.Proofs.Ythmfmeibjpgokaa

def isDig (b : UInt8) : Bool := decide (48 ≤ b.toNat ∧ b.toNat ≤ 57)
def numL (l : List UInt8) : Nat := l.foldl (fun n b => n * 10 + (b.toNat - 48)) 0
theorem numL_snoc (l : List UInt8) (b : UInt8) : numL (l ++ [b]) = numL l * 10 + (b.toNat - 48) := by unfold numL; rw [List.foldl_append]; rfl
theorem numL_acc (l : List UInt8) (a : Nat) (h : ∀ b ∈ l, isDig b = true) : l.foldl (fun n b => n * 10 + (b.toNat - 48)) a < (a + 1) * 10 ^ l.length := by
  induction l generalizing a with
  | nil => simp
  | cons c r ih =>
    have hc := h c (by simp)
    unfold isDig at hc
    simp only [decide_eq_true_eq] at hc
    have h1 := ih (a * 10 + (c.toNat - 48)) (fun b hb => h b (by simp [hb]))
    have h2 : (a * 10 + (c.toNat - 48) + 1) * 10 ^ r.length ≤ ((a + 1) * 10) * 10 ^ r.length := Nat.mul_le_mul_right _ (by omega)
    rw [List.foldl_cons, List.length_cons, Nat.pow_succ, Nat.mul_comm (10 ^ r.length) 10, ← Nat.mul_assoc]
    omega
theorem numL_lt (l : List UInt8) (h : ∀ b ∈ l, isDig b = true) : numL l < 10 ^ l.length := by
  have := numL_acc l 0 h
  unfold numL
  omega

/-- A text's bytes, up to place k. -/
def upto (s : ByteArray) (k : Nat) : List UInt8 := s.data.toList.take k
theorem upto_succ (s : ByteArray) (k : Nat) (h : k < s.size) : upto s (k + 1) = upto s k ++ [s[k]] := by
  unfold upto
  rw [List.take_succ_eq_append_getElem (by simpa using h)]; rfl
theorem upto_all (s : ByteArray) (k : Nat) (h : s.size ≤ k) : upto s k = s.data.toList := List.take_of_length_le (by simpa using h)
theorem upto_length (s : ByteArray) (k : Nat) (h : k ≤ s.size) : (upto s k).length = k := by
  unfold upto
  rw [List.length_take]
  have : s.data.toList.length = s.size := rfl
  omega
theorem upto_mem {s : ByteArray} {k : Nat} {b : UInt8} (h : b ∈ upto s k) : b ∈ s.data.toList := List.mem_of_mem_take h
theorem mem_at (s : ByteArray) (k : Nat) (h : k < s.size) : s[k] ∈ s.data.toList := by
  have e : s[k] = s.data.toList[k]'h := rfl
  rw [e]; exact List.getElem_mem _

/-- May it be a number, and which. -/
def numOK (s : ByteArray) : Bool := decide (1 ≤ s.size ∧ s.size ≤ 7) && !(decide (1 < s.size) && decide (s.data.toList.head? = some 48)) && s.data.toList.all isDig && decide (numL s.data.toList ≤ 1000000)
def numV (s : ByteArray) : Int := if numOK s then (numL s.data.toList : Int) else 0

def nameB (b : UInt8) : Bool := decide ((97 ≤ b.toNat ∧ b.toNat ≤ 122) ∨ (48 ≤ b.toNat ∧ b.toNat ≤ 57) ∨ b.toNat = 45 ∨ b.toNat = 46)
def nameOK (s : ByteArray) : Bool := decide (1 ≤ s.size ∧ s.size ≤ 12) && !decide (s.data.toList = [45]) && s.data.toList.all nameB

theorem head_at (s : ByteArray) (h : 0 < s.size) : s.data.toList.head? = some s[0] := by
  have hl : 0 < s.data.toList.length := h
  rw [List.head?_eq_getElem?, List.getElem?_eq_getElem hl]
  rfl

theorem numOK_short {s : ByteArray} (h : ¬ (1 ≤ s.size ∧ s.size ≤ 7)) : numOK s = false := by unfold numOK; simp [h]
theorem numOK_nought {s : ByteArray} (h : 1 < s.size) (h0 : (s[0]).toNat = 48) : numOK s = false := by
  unfold numOK
  have e : s[0] = 48 := UInt8.toNat_inj.1 h0
  rw [head_at s (by omega), e]
  simp [h]
theorem numOK_bad {s : ByteArray} (k : Nat) (h : k < s.size) (hb : isDig s[k] = false) : numOK s = false := by
  unfold numOK
  have : s.data.toList.all isDig = false := by
    rw [List.all_eq_false]
    exact ⟨s[k], mem_at s k h, by simp [hb]⟩
  rw [this]; simp
theorem numOK_end {s : ByteArray} (h1 : 1 ≤ s.size) (h2 : s.size ≤ 7) (h3 : ¬ (1 < s.size ∧ (s[0]).toNat = 48)) (h4 : ∀ b ∈ s.data.toList, isDig b = true) : numOK s = decide (numL s.data.toList ≤ 1000000) := by
  unfold numOK
  rw [List.all_eq_true.2 h4, head_at s (by omega)]
  have e : (decide (1 < s.size) && decide (some s[0] = some (48 : UInt8))) = false := by
    rw [Bool.and_eq_false_iff]
    by_cases h : 1 < s.size
    · right
      rw [decide_eq_false_iff_not]
      intro e
      exact h3 ⟨h, by rw [Option.some.inj e]; rfl⟩
    · left; simpa using h
  rw [e]
  simp [h1, h2]

theorem nameOK_short {s : ByteArray} (h : ¬ (1 ≤ s.size ∧ s.size ≤ 12)) : nameOK s = false := by unfold nameOK; simp [h]
theorem nameOK_minus {s : ByteArray} (h : s.data.toList = [45]) : nameOK s = false := by unfold nameOK; simp [h]
theorem nameOK_bad {s : ByteArray} (k : Nat) (h : k < s.size) (hb : nameB s[k] = false) : nameOK s = false := by
  unfold nameOK
  have : s.data.toList.all nameB = false := by
    rw [List.all_eq_false]
    exact ⟨s[k], mem_at s k h, by simp [hb]⟩
  rw [this]; simp
theorem nameOK_end {s : ByteArray} (h1 : 1 ≤ s.size) (h2 : s.size ≤ 12) (h3 : ¬ s.data.toList = [45]) (h4 : ∀ b ∈ s.data.toList, nameB b = true) : nameOK s = true := by
  unfold nameOK
  rw [List.all_eq_true.2 h4]
  simp [h1, h2, h3]

/-- Lines and words. -/
def lineB (b : UInt8) : Bool := decide (32 ≤ b.toNat ∧ b.toNat ≤ 126)
def lineOK (p : ByteArray) : Bool := decide (p.size ≤ 200) && p.data.toList.all lineB
def cutH (l : List UInt8) : List UInt8 := l.takeWhile fun b => decide (b.toNat ≠ 35)
def wordsOf (p : ByteArray) : List ByteArray := (partsV (mkS (cutH p.data.toList)) 32).filter fun s => decide (s.size ≠ 0)
def linesOf (i : Nat) : List ByteArray → List (Int × List ByteArray)
  | [] => []
  | p :: r => (if wordsOf p = [] then [] else [(((i + 1 : Nat) : Int), wordsOf p)]) ++ linesOf (i + 1) r
def splitV (s : ByteArray) : List (Int × List ByteArray) × Int × Int :=
  if 4000 < s.size then ([], 0, 2) else match (partsV s 10).findIdx? (fun p => !lineOK p) with
    | some i => ([], ((i + 1 : Nat) : Int), 2)
    | none => (linesOf 0 (partsV s 10), 0, 0)

theorem lineOK_long {p : ByteArray} (h : 200 < p.size) : lineOK p = false := by unfold lineOK; rw [decide_eq_false (by omega)]; rfl
theorem lineOK_bad {p : ByteArray} (k : Nat) (h : k < p.size) (hb : lineB p[k] = false) : lineOK p = false := by
  unfold lineOK
  have : p.data.toList.all lineB = false := by
    rw [List.all_eq_false]
    exact ⟨p[k], mem_at p k h, by simp [hb]⟩
  rw [this]; simp
theorem lineOK_end {p : ByteArray} (h1 : p.size ≤ 200) (h4 : ∀ b ∈ p.data.toList, lineB b = true) : lineOK p = true := by
  unfold lineOK
  rw [List.all_eq_true.2 h4]
  simp [h1]
theorem cutH_all {l : List UInt8} (h : ∀ b ∈ l, b.toNat ≠ 35) : cutH l = l := by
  unfold cutH
  induction l with
  | nil => rfl
  | cons b r ih =>
    have hb := h b (by simp)
    rw [List.takeWhile_cons]
    simp only [hb, ne_eq, not_false_eq_true, decide_true, if_true]
    rw [ih (fun x hx => h x (by simp [hx]))]
theorem cutH_hit {s : ByteArray} {k : Nat} (hk : k < s.size) (h : ∀ b ∈ upto s k, b.toNat ≠ 35) (hb : (s[k]).toNat = 35) : s.extract 0 k = mkS (cutH s.data.toList) := by
  rw [extract_cut]
  congr 1
  unfold cutL cutH
  have hl : k < s.data.toList.length := hk
  have e : s.data.toList = s.data.toList.take k ++ s[k] :: s.data.toList.drop (k + 1) := by
    have e2 : s[k] = s.data.toList[k] := rfl
    rw [e2, ← List.drop_eq_getElem_cons hl, List.take_append_drop]
  rw [List.drop_zero, Nat.sub_zero]
  conv => rhs; rw [e]
  rw [List.takeWhile_append_of_pos (by intro a ha; simpa using h a ha), List.takeWhile_cons]
  simp [hb]
theorem mkS_data' (l : List UInt8) : (mkS l).size = l.length := rfl
theorem mkS_data (s : ByteArray) : mkS s.data.toList = s := by unfold mkS; simp

theorem linesOf_append (i : Nat) (a b : List ByteArray) : linesOf i (a ++ b) = linesOf i a ++ linesOf (i + a.length) b := by
  induction a generalizing i with
  | nil => simp [linesOf]
  | cons p r ih =>
    simp only [List.cons_append, linesOf, List.length_cons]
    rw [ih, List.append_assoc, show i + 1 + r.length = i + (r.length + 1) by omega]
theorem linesOf_next (P : List ByteArray) (i : Nat) (h : i < P.length) : linesOf 0 (P.take (i + 1)) = linesOf 0 (P.take i) ++ (if wordsOf (P.getD i ByteArray.empty) = [] then [] else [(((i + 1 : Nat) : Int), wordsOf (P.getD i ByteArray.empty))]) := by
  rw [List.take_succ_eq_append_getElem h, linesOf_append]
  have e : 0 + (P.take i).length = i := by rw [List.length_take]; omega
  have e2 : P.getD i ByteArray.empty = P[i] := by simp [h]
  rw [e, e2]
  simp [linesOf]
theorem linesOf_length (i : Nat) (P : List ByteArray) : (linesOf i P).length ≤ P.length := by
  induction P generalizing i with
  | nil => simp [linesOf]
  | cons p r ih =>
    simp only [linesOf, List.length_append, List.length_cons]
    have := ih (i + 1)
    split
    · simp; omega
    · simp; omega

theorem split_bad {s : ByteArray} (hs : ¬ 4000 < s.size) (i : Nat) (h : i < (partsV s 10).length) (hp : ∀ j, j < i → lineOK ((partsV s 10).getD j ByteArray.empty) = true) (hb : lineOK ((partsV s 10).getD i ByteArray.empty) = false) : splitV s = ([], ((i + 1 : Nat) : Int), 2) := by
  unfold splitV
  rw [if_neg hs]
  generalize partsV s 10 = P at *
  have : P.findIdx? (fun p => !lineOK p) = some i := by
    rw [List.findIdx?_eq_some_iff_getElem]
    refine ⟨h, ?_, fun j hj => ?_⟩
    · have e : P.getD i ByteArray.empty = P[i] := by simp [h]
      rw [← e, hb]; rfl
    · have hj2 : j < P.length := by omega
      have e : P.getD j ByteArray.empty = P[j] := by simp [hj2]
      rw [← e, hp j hj]; simp
  rw [this]
theorem split_good {s : ByteArray} (hs : ¬ 4000 < s.size) (hp : ∀ j, j < (partsV s 10).length → lineOK ((partsV s 10).getD j ByteArray.empty) = true) : splitV s = (linesOf 0 (partsV s 10), 0, 0) := by
  unfold splitV
  rw [if_neg hs]
  generalize partsV s 10 = P at *
  have : P.findIdx? (fun p => !lineOK p) = none := by
    rw [List.findIdx?_eq_none_iff]
    intro x hx
    obtain ⟨j, hj, rfl⟩ := List.getElem_of_mem hx
    have e : P.getD j ByteArray.empty = P[j] := by simp [hj]
    rw [← e, hp j hj]; rfl
  rw [this]

end Go.Proofs.Ythmfmeibjpgokaa
