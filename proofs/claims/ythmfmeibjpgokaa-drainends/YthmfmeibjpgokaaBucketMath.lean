/-
  How requests went: buckets as plain pairs of numbers, and what package bucket says of them. No program stands in it.
-/
import Derived.Test.YthmfmeibjpgokaaPlain
namespace Go.Proofs.Ythmfmeibjpgokaa

/-- So many ok ones of all. -/
structure Bk where
  ok : Int
  all : Int
deriving DecidableEq
def inBk (b : Bk) : Prop := (-9223372036854775808 ≤ b.ok ∧ b.ok ≤ 9223372036854775807) ∧ (-9223372036854775808 ≤ b.all ∧ b.all ≤ 9223372036854775807)
def topK : Int := 1000000000
def mayBk (b : Bk) : Bool := decide (0 ≤ b.ok) && (decide (b.ok ≤ b.all) && decide (b.all ≤ 1000000000))
def countsK (b : Bk) : Bool := mayBk b && decide (0 < b.all)
def noteK (b : Bk) (ok : Bool) : Bk := if mayBk b = true ∧ b.all ≠ 1000000000 then ⟨if ok then b.ok + 1 else b.ok, b.all + 1⟩ else b
def rateK (b : Bk) : Int := if countsK b = true then b.ok * 10000 / b.all else 0
def enoughK (b : Bk) (n : Int) : Bool := countsK b && decide (n ≤ b.all)
def failK (b : Bk) (p : Int) : Bool := countsK b && (decide (0 < p) && decide (p * b.all ≤ (b.all - b.ok) * 100))

theorem mayBk_iff (b : Bk) : mayBk b = true ↔ 0 ≤ b.ok ∧ b.ok ≤ b.all ∧ b.all ≤ 1000000000 := by
  unfold mayBk
  simp only [Bool.and_eq_true, decide_eq_true_eq]
theorem countsK_iff (b : Bk) : countsK b = true ↔ 0 ≤ b.ok ∧ b.ok ≤ b.all ∧ b.all ≤ 1000000000 ∧ 0 < b.all := by
  unfold countsK
  simp only [Bool.and_eq_true, mayBk_iff, decide_eq_true_eq]
  omega
theorem noteK_in {b : Bk} (h : inBk b) (ok : Bool) : inBk (noteK b ok) := by
  unfold noteK
  split
  · rename_i h1
    have := (mayBk_iff b).1 h1.1
    unfold inBk
    cases ok <;> simp <;> omega
  · exact h

/-- A rate is 0 to 10000. -/
theorem rateK_bd (b : Bk) : 0 ≤ rateK b ∧ rateK b ≤ 10000 := by
  unfold rateK
  split
  · rename_i h
    have h := (countsK_iff b).1 h
    refine ⟨Int.ediv_nonneg (by omega) (by omega), ?_⟩
    have : b.ok * 10000 ≤ 10000 * b.all := by omega
    exact Int.ediv_le_of_le_mul (by omega) this
  · omega
/-- Of a bucket that counts: what Compare's answer says is what 'failK' says. -/
theorem failK_cmp {b : Bk} {p : Int} (h : countsK b = true) (hp : 0 < p) : decide (0 ≤ cmpV (oz (b.all - b.ok) * oz 100) (oz p * oz b.all)) = failK b p := by
  have hb := (countsK_iff b).1 h
  unfold failK
  rw [h, decide_eq_true hp, Bool.true_and, Bool.true_and, oz_pos (n := b.all - b.ok) (by omega), oz_pos (n := 100) (by omega), oz_pos (n := p) (by omega), oz_pos (n := b.all) (by omega)]
  generalize (b.all - b.ok) * 100 = x
  generalize p * b.all = y
  unfold cmpV
  refine decide_eq_decide.2 ?_
  split
  · omega
  · split <;> omega
/-- Of a bucket that counts: MulDiv's answer is the rate. -/
theorem rateK_md {b : Bk} (h : countsK b = true) : mdV b.ok 10000 b.all = rateK b := by
  have hb := (countsK_iff b).1 h
  have hr := rateK_bd b
  have e : rateK b = b.ok * 10000 / b.all := by unfold rateK; rw [if_pos h]
  rw [e] at hr ⊢
  have e2 : oz b.ok * oz 10000 / b.all = b.ok * 10000 / b.all := by rw [oz_pos (n := b.ok) (by omega), oz_pos (n := 10000) (by omega)]
  rw [(md_good b.ok 10000 b.all (by omega) (by omega) (by omega) (by rw [e2]; omega)).1, e2]

/-- One more that is ok lowers no rate. -/
theorem rateK_up (b : Bk) : rateK b ≤ rateK (noteK b true) := by
  unfold noteK
  split
  · rename_i h
    have hm := (mayBk_iff b).1 h.1
    have h2 : countsK ⟨b.ok + 1, b.all + 1⟩ = true := (countsK_iff _).2 (by simp; omega)
    have hr := rateK_bd b
    by_cases hc : countsK b = true
    · have hb := (countsK_iff b).1 hc
      have e : rateK b = b.ok * 10000 / b.all := by unfold rateK; rw [if_pos hc]
      have e2 : rateK ⟨b.ok + 1, b.all + 1⟩ = (b.ok + 1) * 10000 / (b.all + 1) := by unfold rateK; rw [if_pos h2]
      simp only [if_true]
      rw [e2]
      refine Int.le_ediv_of_mul_le (by omega) ?_
      have h3 : rateK b * b.all ≤ b.ok * 10000 := by rw [e]; exact Int.ediv_mul_le _ (by omega)
      rw [Int.mul_add, Int.mul_one]
      omega
    · have e : rateK b = 0 := by unfold rateK; rw [if_neg hc]
      rw [e]
      exact (rateK_bd _).1
  · exact Int.le_refl _
/-- One more that is not ok raises none. -/
theorem rateK_down (b : Bk) (hc : countsK b = true) : rateK (noteK b false) ≤ rateK b := by
  have hb := (countsK_iff b).1 hc
  unfold noteK
  split
  · have h2 : countsK ⟨b.ok, b.all + 1⟩ = true := (countsK_iff _).2 (by simp; omega)
    have hr := rateK_bd ⟨b.ok, b.all + 1⟩
    have e : rateK b = b.ok * 10000 / b.all := by unfold rateK; rw [if_pos hc]
    have e2 : rateK ⟨b.ok, b.all + 1⟩ = b.ok * 10000 / (b.all + 1) := by unfold rateK; rw [if_pos h2]
    simp only [Bool.false_eq_true, if_false]
    rw [e]
    refine Int.le_ediv_of_mul_le (by omega) ?_
    have h3 : rateK ⟨b.ok, b.all + 1⟩ * (b.all + 1) ≤ b.ok * 10000 := by rw [e2]; exact Int.ediv_mul_le _ (by omega)
    rw [Int.mul_add, Int.mul_one] at h3
    omega
  · exact Int.le_refl _
/-- The rate is all just if all were ok. -/
theorem rateK_full {b : Bk} (hc : countsK b = true) : (rateK b = 10000) ↔ b.ok = b.all := by
  have hb := (countsK_iff b).1 hc
  have e : rateK b = b.ok * 10000 / b.all := by unfold rateK; rw [if_pos hc]
  rw [e]
  constructor
  · intro h
    by_cases h1 : b.ok = b.all
    · exact h1
    · have : b.ok * 10000 / b.all < 10000 := Int.ediv_lt_of_lt_mul (by omega) (by omega)
      omega
  · intro h
    rw [h, Int.mul_comm]
    exact Int.mul_ediv_cancel _ (by omega)
theorem rateK_none {b : Bk} (h : b.ok = 0) : rateK b = 0 := by
  unfold rateK
  split
  · rw [h]; simp
  · rfl

/-- What fails by so many percent fails by fewer. -/
theorem failK_less {b : Bk} {p q : Int} (h0 : 0 < p) (h1 : p ≤ q) (h : failK b q = true) : failK b p = true := by
  unfold failK at h ⊢
  simp only [Bool.and_eq_true, decide_eq_true_eq] at h ⊢
  have hb := (countsK_iff b).1 h.1
  refine ⟨h.1, h0, Int.le_trans (Int.mul_le_mul_of_nonneg_right h1 (by omega)) h.2.2⟩
theorem failK_allok {b : Bk} (h : b.ok = b.all) (p : Int) : failK b p = false := by
  by_cases hf : failK b p = true
  · unfold failK at hf
    simp only [Bool.and_eq_true, decide_eq_true_eq] at hf
    have hb := (countsK_iff b).1 hf.1
    have h1 : 0 < p * b.all := Int.mul_pos hf.2.1 (by omega)
    have h2 : (b.all - b.ok) * 100 = 0 := by rw [h]; omega
    omega
  · simpa using hf
theorem failK_zero (b : Bk) : failK b 0 = false := by unfold failK; simp
theorem failK_hundred {b : Bk} (hm : mayBk b = true) (h0 : b.ok ≤ 0) (h1 : b.all ≠ 0) : failK b 100 = true := by
  have hb := (mayBk_iff b).1 hm
  have hc : countsK b = true := (countsK_iff b).2 (by omega)
  unfold failK
  simp only [Bool.and_eq_true, decide_eq_true_eq]
  exact ⟨hc, by omega, by omega⟩
theorem countsK_off {b : Bk} (h : mayBk b = false) : countsK b = false := by unfold countsK; rw [h, Bool.false_and]

/-- Noted one by one from nothing: the first k. -/
def gone (l : List Bool) (k : Nat) : Bk := ⟨((l.take k).count true : Nat), (k : Nat)⟩
theorem gone_zero (l : List Bool) : gone l 0 = ⟨0, 0⟩ := by unfold gone; simp
theorem gone_bd (l : List Bool) (k : Nat) : 0 ≤ (gone l k).ok ∧ (gone l k).ok ≤ (gone l k).all := by
  unfold gone
  simp only
  have h : (l.take k).count true ≤ (l.take k).length := List.count_le_length
  have : (l.take k).length ≤ k := by rw [List.length_take]; omega
  omega
theorem gone_may (l : List Bool) (k : Nat) (h : k ≤ 1000000000) : mayBk (gone l k) = true := by
  have := gone_bd l k
  refine (mayBk_iff _).2 ⟨this.1, this.2, ?_⟩
  unfold gone
  simp only
  omega
theorem gone_succ (l : List Bool) (k : Nat) (hk : k < l.length) (h : k < 1000000000) : noteK (gone l k) (l.getD k false) = gone l (k + 1) := by
  unfold noteK
  rw [if_pos ⟨gone_may l k (by omega), by unfold gone; simp only; omega⟩]
  have e : l.take (k + 1) = l.take k ++ [l.getD k false] := by
    rw [List.take_add_one, List.getD_eq_getElem?_getD, List.getElem?_eq_getElem hk]
    rfl
  unfold gone
  simp only
  rw [e, List.count_append]
  cases l.getD k false <;> simp

/-- The row begun at r, gone round. -/
def turned (l : List Bool) (r : Nat) : List Bool := l.drop r ++ l.take r
theorem turned_length (l : List Bool) (r : Nat) : (turned l r).length = l.length := by unfold turned; simp; omega
theorem turned_at (l : List Bool) (r i : Nat) (hr : r ≤ l.length) (hi : i < l.length) : (turned l r).getD i false = l.getD ((i + r) % l.length) false := by
  unfold turned
  rw [List.getD_eq_getElem?_getD, List.getD_eq_getElem?_getD, List.getElem?_append]
  by_cases h : i + r < l.length
  · rw [if_pos (by simp; omega), Nat.mod_eq_of_lt h, List.getElem?_drop, Nat.add_comm]
  · have e : (i + r) % l.length = i + r - l.length := by
      rw [Nat.mod_eq_sub_mod (by omega), Nat.mod_eq_of_lt (by omega)]
    rw [if_neg (by simp; omega), e, List.getElem?_take]
    simp only [List.length_drop]
    rw [if_pos (by omega), show i - (l.length - r) = i + r - l.length by omega]
theorem gone_turned (l : List Bool) (r : Nat) : gone (turned l r) l.length = gone l l.length := by
  unfold gone
  rw [List.take_length, List.take_of_length_le (by rw [turned_length]; omega)]
  unfold turned
  rw [List.count_append]
  have h : (l.take r ++ l.drop r).count true = l.count true := by rw [List.take_append_drop]
  rw [List.count_append] at h
  rw [Nat.add_comm, h]

end Go.Proofs.Ythmfmeibjpgokaa
