/-
  More of rows of keys: a place of one, 's[k:]', 's[:k]', a row just laid down.
-/
import Derived.Test.YtomhmndpjkfppaaDoorBase
import Derived.Test.YtomhmndpjkfppaaDoorChecked
import Derived.WalkSmall
import Derived.BigQuiet
namespace Go.Proofs.YtomhmndpjkfppaaDoor
open Go.RowKit Go.ChangeShapes

theorem fresh_keys (w : World) (ks : List (Int × Int)) (t : Nat) (hk : ∀ k ∈ ks, inK k) (hl : ks.length ≤ 1000000) (h0 : 0 < ks.length) :
    IsKeys (w.alloc (.cells (keyCells ks).toArray t)) (.slice (some ⟨w.heap.size, 0, none⟩) ks.length ks.length) ks :=
  IsRow.keys (IsRow.fresh w (keyCells ks) 2 ks.length t ks.length (keyCells_length ks) (Nat.le_refl _) (by unfold maxLen; omega) h0) hk (by omega)

theorem infoKey : (Tryd.prog.info? 54).map (fun i => (i.zero, i.size, i.bytes)) = some (some (.agg #[.int .i64 0, .int .i64 0]), 2, 16) := by kernel_rfl

/-- The place of key i of a slice that is given by its parts. -/
theorem IsKeys.at {w : World} {ao : Option Addr} {n cap : Nat} {ks : List (Int × Int)} (h : IsKeys w (.slice ao n cap) ks) (i : Nat) (hi : i < ks.length) :
    ∃ b off, ao = some ⟨b, off, none⟩ ∧ b < w.heap.size ∧ w.cell? ⟨b, off + i * 2, none⟩ = some (.int .i64 (ks.getD i (0, 0)).1) ∧ w.cell? ⟨b, off + i * 2 + 1, none⟩ = some (.int .i64 (ks.getD i (0, 0)).2) := by
  rcases h.2.2 with ⟨h0, _⟩ | ⟨_, b, off, c, e, hlt, hc⟩
  · rw [h0] at hi; simp at hi
  · simp only [Value.slice.injEq] at e
    exact ⟨b, off, e.1, hlt, (hc i hi).1, (hc i hi).2⟩

theorem addr_add (b off n : Nat) : (⟨b, off, none⟩ : Addr).add n = ⟨b, off + n, none⟩ := by
  by_cases h : n = 0
  · subst h; simp [Addr.add]
  · simp [Addr.add, h]

/-- 's[k:]'. -/
theorem keys_from {w : World} {lo : Option Addr} {lc : Nat} {l : List (Int × Int)} (h : IsKeys w (.slice lo l.length lc) l) (k : Nat) (hk : k ≤ l.length) :
    IsKeys w (.slice (if lc = k then lo else Option.map (fun x => x.add (k * 2)) lo) (l.length - k) (lc - k)) (l.drop k) := by
  obtain ⟨h1, ⟨h2, h3, h4⟩, h5⟩ := h
  refine ⟨fun x hx => h1 x (List.mem_of_mem_drop hx), ⟨by simp; omega, by show _ ≤ _ ∧ _ ≤ _; omega⟩, ?_⟩
  by_cases hd : l.drop k = []
  · have hlen : l.length - k = 0 := by have := congrArg List.length hd; simpa using this
    refine .inl ⟨hd, _, _, by rw [hlen], fun hn => ?_⟩
    rcases h5 with ⟨h0, ao, cap, e, hno⟩ | ⟨_, b, off, cap, e, _⟩
    · simp only [Value.slice.injEq] at e
      obtain ⟨rfl, _, rfl⟩ := e
      cases lo with
      | none => have := hno rfl; omega
      | some x => split at hn <;> simp at hn
    · simp only [Value.slice.injEq] at e
      rw [e.1] at hn
      split at hn <;> simp at hn
  · have hlen : 0 < l.length - k := by
      rcases Nat.eq_zero_or_pos (l.length - k) with h | h
      · exact absurd (List.eq_nil_of_length_eq_zero (by simpa using h)) hd
      · exact h
    rcases h5 with ⟨h0, _⟩ | ⟨_, b, off, cap, e, hlt, hc⟩
    · rw [h0] at hlen; simp at hlen
    · simp only [Value.slice.injEq] at e
      obtain ⟨rfl, _, rfl⟩ := e
      rw [if_neg (by omega), Option.map_some, addr_add]
      refine .inr ⟨hd, b, off + k * 2, lc - k, by simp, hlt, fun i hi => ?_⟩
      have hi' : k + i < l.length := by simp at hi; omega
      have hg : (l.drop k).getD i (0, 0) = l.getD (k + i) (0, 0) := by simp [List.getD_eq_getElem?_getD, List.getElem?_drop]
      rw [hg]
      have := hc (k + i) hi'
      rw [show off + k * 2 + i * 2 = off + (k + i) * 2 by omega]
      exact this

/-- 's[:k]'. -/
theorem keys_upto {w : World} {lo : Option Addr} {lc : Nat} {l : List (Int × Int)} (h : IsKeys w (.slice lo l.length lc) l) (k : Nat) (hk : k ≤ l.length) : IsKeys w (.slice lo k lc) (l.take k) := by
  obtain ⟨h1, ⟨h2, h3, h4⟩, h5⟩ := h
  have hlen : (l.take k).length = k := by simp; omega
  refine ⟨fun x hx => h1 x (List.mem_of_mem_take hx), ⟨by omega, by show _ ≤ _ ∧ _ ≤ _; omega⟩, ?_⟩
  by_cases h0 : k = 0
  · subst h0
    refine .inl ⟨by simp, _, _, rfl, fun hn => ?_⟩
    rcases h5 with ⟨_, ao, cap, e, hno⟩ | ⟨_, b, off, cap, e, _⟩
    · simp only [Value.slice.injEq] at e
      obtain ⟨rfl, _, rfl⟩ := e
      exact hno hn
    · simp only [Value.slice.injEq] at e
      rw [e.1] at hn
      cases hn
  · rcases h5 with ⟨h00, _⟩ | ⟨_, b, off, cap, e, hlt, hc⟩
    · rw [h00] at hk; simp at hk; omega
    · simp only [Value.slice.injEq] at e
      obtain ⟨rfl, _, rfl⟩ := e
      refine .inr ⟨fun hn => by rw [hn] at hlen; simp at hlen; omega, b, off, lc, by rw [hlen], hlt, fun i hi => ?_⟩
      have hg : (l.take k).getD i (0, 0) = l.getD i (0, 0) := by
        rw [List.getD_eq_getElem?_getD, List.getD_eq_getElem?_getD, List.getElem?_take, if_pos (by omega)]
      rw [hg]
      exact hc i (by omega)

theorem eq_parts (xa xb k1 k2 : Int) : (decide ((xa, xb) = (k1, k2)) = true ∧ (xa == k1) = true ∧ (xb == k2) = true) ∨ (decide ((xa, xb) = (k1, k2)) = false ∧ (xa == k1) = false) ∨ (decide ((xa, xb) = (k1, k2)) = false ∧ (xa == k1) = true ∧ (xb == k2) = false) := by
  simp only [decide_eq_true_eq, decide_eq_false_iff_not, Prod.mk.injEq, beq_iff_eq, beq_eq_false_iff_ne]
  omega

end Go.Proofs.YtomhmndpjkfppaaDoor
