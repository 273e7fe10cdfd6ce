/-
  's[k:]', 's[:k]' at a row of flat elements; what the call has just made. No program stands in it.
-/
import Derived.Test.YtomhmndpjkfppaaDoorBoolsOpen
import Derived.Deep.OwnRows
namespace Go.Proofs.YtomhmndpjkfppaaDoor
open Go.RowKit

theorem addr_plus (b off n : Nat) : (⟨b, off, none⟩ : Addr).add n = ⟨b, off + n, none⟩ := by
  by_cases h : n = 0
  · subst h; simp [Addr.add]
  · simp [Addr.add, h]

/-- 's[k:]'. -/
theorem row_from {sz n : Nat} {w : World} {lo : Option Addr} {lc : Nat} {cs : List Value} (h : IsRow sz w (.slice lo n lc) n cs) (k : Nat) (hk : k ≤ n) :
    IsRow sz w (.slice (if lc = k then lo else Option.map (fun x => x.add (k * sz)) lo) (n - k) (lc - k)) (n - k) (cs.drop (k * sz)) := by
  obtain ⟨h1, ⟨h2, h3, h4⟩, h5⟩ := h
  refine ⟨by rw [List.length_drop, h1, Nat.sub_mul], ⟨by omega, by show _ ≤ _ ∧ _ ≤ _; omega⟩, ?_⟩
  by_cases hd : n - k = 0
  · refine .inl ⟨hd, _, _, by rw [hd], fun hn => ?_⟩
    rcases h5 with ⟨h0, ao, cap, e, hno⟩ | ⟨_, b, off, cap, e, _⟩
    · simp only [Value.slice.injEq] at e
      obtain ⟨rfl, _, rfl⟩ := e
      cases lo with
      | none => have := hno rfl; omega
      | some x => split at hn <;> simp at hn
    · simp only [Value.slice.injEq] at e
      rw [e.1] at hn
      split at hn <;> simp at hn
  · rcases h5 with ⟨h0, _⟩ | ⟨_, b, off, cap, e, hlt, hc⟩
    · omega
    · simp only [Value.slice.injEq] at e
      obtain ⟨rfl, _, rfl⟩ := e
      rw [if_neg (by omega), Option.map_some, addr_plus]
      refine .inr ⟨by omega, b, off + k * sz, lc - k, rfl, hlt, fun j hj => ?_⟩
      rw [Nat.add_assoc, List.getElem?_drop]
      refine hc (k * sz + j) ?_
      have : k * sz + (n - k) * sz = n * sz := by rw [← Nat.add_mul, Nat.add_sub_cancel' hk]
      omega

/-- 's[:k]'. -/
theorem row_upto {sz n : Nat} {w : World} {lo : Option Addr} {lc : Nat} {cs : List Value} (h : IsRow sz w (.slice lo n lc) n cs) (k : Nat) (hk : k ≤ n) : IsRow sz w (.slice lo k lc) k (cs.take (k * sz)) := by
  obtain ⟨h1, ⟨h2, h3, h4⟩, h5⟩ := h
  have hkn : k * sz ≤ n * sz := Nat.mul_le_mul_right _ hk
  refine ⟨by rw [List.length_take, h1]; omega, ⟨by omega, by show _ ≤ _ ∧ _ ≤ _; omega⟩, ?_⟩
  by_cases h0 : k = 0
  · subst h0
    refine .inl ⟨rfl, _, _, rfl, fun hn => ?_⟩
    rcases h5 with ⟨_, ao, cap, e, hno⟩ | ⟨_, b, off, cap, e, _⟩
    · simp only [Value.slice.injEq] at e
      obtain ⟨rfl, _, rfl⟩ := e
      exact hno hn
    · simp only [Value.slice.injEq] at e
      rw [e.1] at hn
      cases hn
  · rcases h5 with ⟨h00, _⟩ | ⟨_, b, off, cap, e, hlt, hc⟩
    · omega
    · simp only [Value.slice.injEq] at e
      obtain ⟨rfl, _, rfl⟩ := e
      refine .inr ⟨by omega, b, off, lc, rfl, hlt, fun j hj => ?_⟩
      rw [List.getElem?_take, if_pos hj]
      exact hc j (by omega)

theorem bools_from {w : World} {lo : Option Addr} {lc : Nat} {l : List Bool} (h : IsBools w (.slice lo l.length lc) l) (k : Nat) (hk : k ≤ l.length) :
    IsBools w (.slice (if lc = k then lo else Option.map (fun x => x.add k) lo) (l.length - k) (lc - k)) (l.drop k) := by
  have := row_from h k hk
  unfold IsBools
  rw [List.length_drop, List.map_drop]
  rwa [Nat.mul_one] at this
theorem bools_upto {w : World} {lo : Option Addr} {lc : Nat} {l : List Bool} (h : IsBools w (.slice lo l.length lc) l) (k : Nat) (hk : k ≤ l.length) : IsBools w (.slice lo k lc) (l.take k) := by
  have := row_upto h k hk
  unfold IsBools
  rw [List.length_take, Nat.min_eq_left hk, List.map_take]
  rwa [Nat.mul_one] at this

/-- What the call owns, of yeses and noes. -/
theorem own_bools {w : World} {base e : Nat} {v : Value} {n : Nat} {l : List Bool} (h : w.ownsRow base e 1 v n (l.map Value.bool)) (hn : n = l.length) : IsBools w v l := by
  unfold IsBools
  rw [← hn]
  exact isRow_own h

end Go.Proofs.YtomhmndpjkfppaaDoor
