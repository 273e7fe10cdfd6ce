/-
  The plain mathematics of chapter 8: where a host goes in, what is left without one.
-/
import Derived.Test.YtcafjjfaamjipaaTableMay
import Derived.Test.YtcafjjfaamjipaaRefAdd2
import Derived.Test.YtcafjjfaamjipaaRefChange
namespace Go.Proofs.Ytcafjjfaamjipaa
open Go.RowKit

/-- Numbers that rise. -/
abbrev RisesH (hs : List HostT) : Prop := hs.Pairwise fun a b => a.id < b.id
theorem mayTab_rises {hs : List HostT} (h : mayTab hs = true) : RisesH hs := by
  have hstep : ∀ i, i + 1 < hs.length → (hs.getD i noHost).id < (hs.getD (i + 1) noHost).id := fun i hi => by
    unfold mayTab at h
    rw [Bool.and_eq_true, List.all_eq_true] at h
    have := h.1 (i + 1) (List.mem_range.2 hi)
    unfold okAt at this
    rw [Bool.and_eq_true] at this
    simpa using this.2
  have hall : ∀ d i, i + d + 1 < hs.length → (hs.getD i noHost).id < (hs.getD (i + d + 1) noHost).id := fun d => by
    induction d with
    | zero => intro i hi; exact hstep i hi
    | succ d ih =>
      intro i hi
      exact Int.lt_trans (ih i (by omega)) (hstep (i + d + 1) (by omega))
  refine List.pairwise_iff_getElem.2 ?_
  intro i j hi hj hij
  have := hall (j - i - 1) i (by omega)
  rw [show i + (j - i - 1) + 1 = j by omega] at this
  simpa [hi, hj] using this
theorem rises_keys {hs : List HostT} (h : RisesH hs) : SortedK (keysH hs) := by
  unfold keysH
  rw [SortedK, List.pairwise_map]
  exact h.imp fun {a b} hab => leK_of_ltK (by rw [ltK_key]; exact decide_eq_true hab)
theorem findH_neg {hs : List HostT} {id : Int} : findH hs id < 0 ↔ ∀ x ∈ hs, x.id ≠ id := by
  rcases findH_at hs id with h | ⟨j, hj, h⟩
  · refine ⟨fun _ x hx e => ?_, fun _ => by omega⟩
    unfold findH at h
    cases hf : hs.findIdx? (fun h => h.id == id) with
    | none =>
      rw [List.findIdx?_eq_none_iff] at hf
      have := hf x hx
      simp [e] at this
    | some i => rw [hf] at h; simp at h <;> omega
  · refine ⟨fun h0 => by omega, fun H => ?_⟩
    unfold findH at h
    cases hf : hs.findIdx? (fun h => h.id == id) with
    | none => rw [hf] at h; simp at h <;> omega
    | some i =>
      rw [List.findIdx?_eq_some_iff_getElem] at hf
      obtain ⟨hi, hp, _⟩ := hf
      exact absurd (by simpa using hp) (H _ (List.getElem_mem hi))
theorem findH_id {hs : List HostT} {id : Int} {j : Nat} (h : findH hs id = j) : j < hs.length ∧ (hs.getD j noHost).id = id := by
  unfold findH at h
  cases hf : hs.findIdx? (fun h => h.id == id) with
  | none => rw [hf] at h; simp at h <;> omega
  | some i =>
    rw [hf] at h
    have hij : i = j := by simp at h; omega
    subst hij
    rw [List.findIdx?_eq_some_iff_getElem] at hf
    obtain ⟨hi, hp, _⟩ := hf
    exact ⟨hi, by simp at hp; simp [hi, hp]⟩
theorem key_in {hs : List HostT} {h : HostT} : (decide (keyH h ∈ keysH hs)) = decide (0 ≤ findH hs h.id) := by
  refine decide_eq_decide.2 ⟨fun hm => ?_, fun h0 => ?_⟩
  · unfold keysH at hm
    obtain ⟨x, hx, e⟩ := List.mem_map.1 hm
    have e1 : x.id = h.id := by simpa [keyH] using e
    rcases Int.lt_or_le (findH hs h.id) 0 with hn | hn
    · exact absurd e1 (findH_neg.1 hn x hx)
    · exact hn
  · rcases findH_at hs h.id with h1 | ⟨j, hj, h1⟩
    · omega
    · have h2 := (findH_id h1).2
      unfold keysH
      refine List.mem_map.2 ⟨hs[j], List.getElem_mem hj, ?_⟩
      have : hs.getD j noHost = hs[j] := by simp [hj]
      rw [this] at h2
      simp [keyH, h2]
theorem moreH_at {hs : List HostT} {h : HostT} (hr : RisesH hs) (hn : ∀ x ∈ hs, x.id ≠ h.id) : moreH hs h = hs.take (findV (keysH hs) (keyH h)) ++ h :: hs.drop (findV (keysH hs) (keyH h)) := by
  induction hs with
  | nil => rfl
  | cons x r ih =>
    obtain ⟨h1, h2⟩ := List.pairwise_cons.1 hr
    have ih := ih h2 fun y hy => hn y (List.mem_cons_of_mem _ hy)
    have hc : findV (keysH (x :: r)) (keyH h) = findV (keysH r) (keyH h) + (if x.id < h.id then 1 else 0) := by
      unfold findV keysH
      rw [List.map_cons, List.countP_cons, ltK_key]
      simp
    have hx := hn x (List.mem_cons_self ..)
    by_cases hlt : h.id < x.id
    · have h0 : findV (keysH r) (keyH h) = 0 := by
        unfold findV keysH
        rw [List.countP_eq_zero]
        intro k hk
        obtain ⟨y, hy, rfl⟩ := List.mem_map.1 hk
        have := h1 y hy
        rw [ltK_key]
        simp; omega
      rw [hc, h0, if_neg (by omega)]
      simp [moreH, hlt]
    · rw [hc, if_pos (by omega)]
      simp only [moreH, if_neg hlt]
      rw [ih]
      simp
theorem lessH_at {hs : List HostT} {id : Int} {j : Nat} (hr : RisesH hs) (hj : j < hs.length) (he : (hs.getD j noHost).id = id) : lessH hs id = hs.take j ++ hs.drop (j + 1) := by
  have e : (hs.getD j noHost) = hs[j] := by simp [hj]
  rw [e] at he
  have hp := List.pairwise_iff_getElem.1 hr
  unfold lessH
  conv => lhs; rw [← List.take_append_drop j hs, List.drop_eq_getElem_cons hj]
  rw [List.filter_append, List.filter_cons, if_neg (by simp [he])]
  congr 1
  · rw [List.filter_eq_self]
    intro x hx
    obtain ⟨i, hi, rfl⟩ := List.mem_iff_getElem.1 hx
    rw [List.getElem_take]
    have hij : i < j := by rw [List.length_take] at hi; omega
    have := hp i j (by omega) hj hij
    simp; omega
  · rw [List.filter_eq_self]
    intro x hx
    obtain ⟨i, hi, rfl⟩ := List.mem_iff_getElem.1 hx
    rw [List.getElem_drop]
    have hi' : j + 1 + i < hs.length := by rw [List.length_drop] at hi; omega
    have := hp j (j + 1 + i) hj hi' (by omega)
    simp; omega

end Go.Proofs.Ytcafjjfaamjipaa
