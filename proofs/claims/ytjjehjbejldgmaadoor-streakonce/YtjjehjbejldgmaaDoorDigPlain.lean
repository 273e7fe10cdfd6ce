/-
  Numbers written in digits are read as they are. No program stands in it.
-/
import Derived.Test.YtjjehjbejldgmaaDoorLinesPlain
namespace Go.Proofs.YtjjehjbejldgmaaDoor

def dig (n : Nat) : UInt8 := UInt8.ofNat (48 + n % 10)
theorem dig_nat (n : Nat) : (dig n).toNat = 48 + n % 10 := by unfold dig; rw [UInt8.toNat_ofNat_of_lt' (by simp [UInt8.size]; omega)]
def digL (n : Nat) : List UInt8 := if n < 10 then [dig n] else digL (n / 10) ++ [dig n]
termination_by n
decreasing_by omega
theorem digL_small {n : Nat} (h : n < 10) : digL n = [dig n] := by rw [digL, if_pos h]
theorem digL_big {n : Nat} (h : ¬ n < 10) : digL n = digL (n / 10) ++ [dig n] := by rw [digL, if_neg h]
theorem digL_pos (n : Nat) : 0 < (digL n).length := by
  by_cases h : n < 10
  · rw [digL_small h]; simp
  · rw [digL_big h]; simp
theorem digL_digits (n : Nat) : ∀ b ∈ digL n, isDig b = true := by
  induction n using Nat.strongRecOn with
  | _ n ih =>
    have hd : isDig (dig n) = true := by unfold isDig; rw [dig_nat, decide_eq_true_eq]; omega
    by_cases h : n < 10
    · rw [digL_small h]; intro b hb; rw [List.mem_singleton] at hb; rw [hb]; exact hd
    · rw [digL_big h]
      intro b hb
      rcases List.mem_append.1 hb with h1 | h1
      · exact ih (n / 10) (by omega) b h1
      · rw [List.mem_singleton] at h1; rw [h1]; exact hd
theorem digL_num (n : Nat) : numL (digL n) = n := by
  induction n using Nat.strongRecOn with
  | _ n ih =>
    by_cases h : n < 10
    · rw [digL_small h]
      show 0 * 10 + ((dig n).toNat - 48) = n
      rw [dig_nat]; omega
    · rw [digL_big h, numL_snoc, ih (n / 10) (by omega), dig_nat]; omega
theorem digL_len (n k : Nat) (hk : 0 < k) (h : n < 10 ^ k) : (digL n).length ≤ k := by
  induction k generalizing n with
  | zero => omega
  | succ k ih =>
    by_cases h1 : n < 10
    · rw [digL_small h1]; simp
    · rw [digL_big h1, List.length_append, List.length_singleton]
      rcases Nat.eq_zero_or_pos k with h0 | h0
      · subst h0; simp at h; omega
      · have := ih (n / 10) h0 (by rw [Nat.pow_succ] at h; omega)
        omega
theorem digL_head (n : Nat) (h : 10 ≤ n) : ∃ b r, digL n = b :: r ∧ b.toNat ≠ 48 := by
  induction n using Nat.strongRecOn with
  | _ n ih =>
    rw [digL_big (by omega)]
    by_cases h1 : n / 10 < 10
    · rw [digL_small h1]
      exact ⟨_, _, rfl, by rw [dig_nat]; omega⟩
    · obtain ⟨b, r, e, hb⟩ := ih (n / 10) (by omega) (by omega)
      exact ⟨b, r ++ [dig n], by rw [e]; rfl, hb⟩

theorem mkS_list (l : List UInt8) : (mkS l).data.toList = l := by unfold mkS; simp

theorem num_digits (N : Nat) (hN : N ≤ 1000000) : numOK (mkS (digL N)) = true ∧ numV (mkS (digL N)) = (N : Int) := by
  have hl := digL_len N 7 (by omega) (by omega)
  have hp := digL_pos N
  have h1 : numOK (mkS (digL N)) = true := by
    unfold numOK
    rw [mkS_list, List.all_eq_true.2 (digL_digits N), digL_num]
    have e : (decide (1 < (mkS (digL N)).size) && decide ((digL N).head? = some 48)) = false := by
      rw [Bool.and_eq_false_iff]
      by_cases h : N < 10
      · left; rw [digL_small h]; rfl
      · right
        obtain ⟨b, r, e, hb⟩ := digL_head N (by omega)
        rw [e, decide_eq_false_iff_not]
        intro h2
        simp at h2
        rw [h2] at hb
        exact hb rfl
    rw [e]
    have e2 : (mkS (digL N)).size = (digL N).length := rfl
    rw [e2]
    simp only [Bool.not_false, Bool.and_true, Bool.and_eq_true, decide_eq_true_eq]
    exact ⟨⟨hp, hl⟩, hN⟩
  exact ⟨h1, by unfold numV; rw [h1, mkS_list, digL_num]; rfl⟩

end Go.Proofs.YtjjehjbejldgmaaDoor
