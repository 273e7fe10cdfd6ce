/-
  The plain mathematics of chapter 8: one host, under the numbers from 1 on.
-/
import Derived.Test.YtcafjjfaamjipaaTableMath
namespace Go.Proofs.Ytcafjjfaamjipaa
open Go.RowKit

theorem u_mod8 (f : Int) (m : Nat) (hm : 0 < m) : ∃ F : Nat, F < m ∧ (IntKind.u64.wrap f).tmod (m : Int) = (F : Int) := by
  rw [IntKind.wrap_u64, Int.tmod_eq_emod_of_nonneg (by omega)]
  have h1 := Int.emod_nonneg (f % 18446744073709551616) (show (m : Int) ≠ 0 by omega)
  have h2 := Int.emod_lt_of_pos (f % 18446744073709551616) (show (0 : Int) < m by omega)
  exact ⟨((f % 18446744073709551616) % (m : Int)).toNat, by omega, by omega⟩

abbrev idH (h : HostT) (n : Int) : HostT := { h with id := n }
def fill (h : HostT) (k : Nat) : List HostT := (List.range k).map fun i => idH h (i + 1 : Nat)
theorem fill_length (h : HostT) (k : Nat) : (fill h k).length = k := by simp [fill]
theorem fill_at (h : HostT) (k i : Nat) (hi : i < k) : (fill h k).getD i noHost = idH h (i + 1 : Nat) := by simp [fill, hi]
theorem fill_succ (h : HostT) (k : Nat) : fill h (k + 1) = fill h k ++ [idH h (k + 1 : Nat)] := by unfold fill; rw [List.range_succ, List.map_append]; rfl
theorem mayHost_id {h : HostT} (hm : mayHost h = true) (n : Int) (h1 : 1 ≤ n) (h2 : n ≤ 1000000) : mayHost (idH h n) = true := by
  unfold mayHost at hm ⊢
  simp only [Bool.and_eq_true, decide_eq_true_eq] at hm ⊢
  obtain ⟨⟨⟨⟨⟨⟨_, a⟩, b⟩, c⟩, d⟩, e⟩, f⟩ := hm
  exact ⟨⟨⟨⟨⟨⟨⟨h1, h2⟩, a⟩, b⟩, c⟩, d⟩, e⟩, f⟩
theorem fill_may {h : HostT} (hm : mayHost h = true) (k : Nat) (hk : k ≤ 64) : mayTab (fill h k) = true := by
  unfold mayTab
  rw [fill_length, decide_eq_true hk, Bool.and_true, List.all_eq_true]
  intro i hi
  have hi := List.mem_range.1 hi
  unfold okAt
  rw [fill_at h k i hi, mayHost_id hm _ (by omega) (by omega), Bool.true_and]
  cases i with
  | zero => rfl
  | succ i =>
    rw [fill_at h k (i + 1 - 1) (by omega)]
    simp
    omega
theorem fill_none (h : HostT) (k : Nat) (n : Int) (hn : (k : Int) < n) : findH (fill h k) n = -1 := findH_none fun j hj => by
  rw [fill_length] at hj
  rw [fill_at h k j hj]
  show ((j + 1 : Nat) : Int) ≠ n
  omega
theorem more_end {hs : List HostT} {h : HostT} (hl : ∀ x ∈ hs, x.id < h.id) : moreH hs h = hs ++ [h] := by
  induction hs with
  | nil => rfl
  | cons x r ih =>
    have h1 := hl x (List.mem_cons_self ..)
    simp only [moreH, if_neg (show ¬ h.id < x.id by omega)]
    rw [ih fun y hy => hl y (List.mem_cons_of_mem _ hy)]
    rfl
theorem fill_add {h : HostT} (hm : mayHost h = true) (k : Nat) (hk : k < 64) : addR (fill h k) (idH h (k + 1 : Nat)) = (fill h (k + 1), 0) := by
  unfold addR
  rw [fill_may hm k (by omega), mayHost_id hm _ (by omega) (by omega), fill_none h k _ (by show (k : Int) < ((k + 1 : Nat) : Int); omega), fill_length, Bool.and_self, if_pos rfl, if_neg (by omega), if_neg (by omega), fill_succ, more_end]
  intro x hx
  unfold fill at hx
  obtain ⟨i, hi, rfl⟩ := List.mem_map.1 hx
  have := List.mem_range.1 hi
  show ((i + 1 : Nat) : Int) < ((k + 1 : Nat) : Int)
  omega
theorem fill_full {h : HostT} (hm : mayHost h = true) (k : Nat) (hk : 64 ≤ k) (hk2 : k ≤ 1000) : addR (fill h 64) (idH h (k + 1 : Nat)) = ([], 6) := by
  unfold addR
  rw [fill_may hm 64 (by omega), mayHost_id hm _ (by omega) (by omega), fill_none h 64 _ (by show ((64 : Nat) : Int) < ((k + 1 : Nat) : Int); omega), fill_length, Bool.and_self, if_pos rfl, if_neg (by omega), if_pos (by omega)]
end Go.Proofs.Ytcafjjfaamjipaa
