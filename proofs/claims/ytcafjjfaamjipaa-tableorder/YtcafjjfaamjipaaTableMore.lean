/-
  The plain mathematics of chapter 8: a table with one host more.
-/
import Derived.Test.YtcafjjfaamjipaaTableStay
namespace Go.Proofs.Ytcafjjfaamjipaa
open Go.RowKit

theorem mayTab_of {hs : List HostT} (h1 : hs.length ≤ 64) (h2 : ∀ x ∈ hs, mayHost x = true) (h3 : RisesH hs) : mayTab hs = true := by
  unfold mayTab
  rw [decide_eq_true h1, Bool.and_true, List.all_eq_true]
  intro i hi
  have hi := List.mem_range.1 hi
  unfold okAt
  have e : hs.getD i noHost = hs[i] := by simp [hi]
  rw [e, h2 _ (List.getElem_mem hi), Bool.true_and]
  cases i with
  | zero => rfl
  | succ i =>
    have e2 : hs.getD (i + 1 - 1) noHost = hs[i] := by simp [show i < hs.length by omega]
    rw [e2]
    have := List.pairwise_iff_getElem.1 h3 i (i + 1) (by omega) hi (by omega)
    simpa using this
theorem mayTab_all {hs : List HostT} (h : mayTab hs = true) : ∀ x ∈ hs, mayHost x = true := fun x hx => by
  obtain ⟨i, hi, rfl⟩ := List.mem_iff_getElem.1 hx
  have := mayTab_at h i hi
  have e : hs.getD i noHost = hs[i] := by simp [hi]
  rwa [e] at this
theorem more_mem {hs : List HostT} {h x : HostT} : x ∈ moreH hs h ↔ x = h ∨ x ∈ hs := by
  induction hs with
  | nil => simp [moreH]
  | cons y r ih =>
    simp only [moreH]
    split
    · simp
    · rw [List.mem_cons, ih, List.mem_cons]
      constructor
      · rintro (e | e | e)
        · exact .inr (.inl e)
        · exact .inl e
        · exact .inr (.inr e)
      · rintro (e | e | e)
        · exact .inr (.inl e)
        · exact .inl e
        · exact .inr (.inr e)
theorem more_len (hs : List HostT) (h : HostT) : (moreH hs h).length = hs.length + 1 := by
  induction hs with
  | nil => rfl
  | cons y r ih => simp only [moreH]; split <;> simp [ih]
theorem more_rises {hs : List HostT} {h : HostT} (hr : RisesH hs) (hn : ∀ x ∈ hs, x.id ≠ h.id) : RisesH (moreH hs h) := by
  induction hs with
  | nil => exact List.pairwise_singleton _ _
  | cons y r ih =>
    obtain ⟨h1, h2⟩ := List.pairwise_cons.1 hr
    have hy := hn y (List.mem_cons_self ..)
    simp only [moreH]
    split
    · rename_i hlt
      refine List.pairwise_cons.2 ⟨fun x hx => ?_, hr⟩
      rcases List.mem_cons.1 hx with e | e
      · rw [e]; exact hlt
      · have := h1 x e; omega
    · refine List.pairwise_cons.2 ⟨fun x hx => ?_, ih h2 fun x hx => hn x (List.mem_cons_of_mem _ hx)⟩
      rcases more_mem.1 hx with e | e
      · rw [e]; omega
      · exact h1 x e
theorem more_may {hs : List HostT} {h : HostT} (hm : mayTab hs = true) (hh : mayHost h = true) (hl : hs.length < 64) (hn : ∀ x ∈ hs, x.id ≠ h.id) : mayTab (moreH hs h) = true :=
  mayTab_of (by rw [more_len]; omega) (fun x hx => by
    rcases more_mem.1 hx with e | e
    · rw [e]; exact hh
    · exact mayTab_all hm x e) (more_rises (mayTab_rises hm) hn)
theorem less_more {hs : List HostT} {h : HostT} (hn : ∀ x ∈ hs, x.id ≠ h.id) : lessH (moreH hs h) h.id = hs := by
  have key : lessH (moreH hs h) h.id = lessH hs h.id := by
    clear hn
    induction hs with
    | nil => unfold lessH moreH; simp
    | cons y r ih =>
      unfold lessH at ih ⊢
      simp only [moreH]
      split
      · rw [List.filter_cons, if_neg (by simp)]
      · rw [List.filter_cons, List.filter_cons, ih]
  rw [key]
  unfold lessH
  rw [List.filter_eq_self]
  intro x hx
  simpa using hn x hx
theorem find_more {hs : List HostT} {h : HostT} (hr : RisesH hs) (hn : ∀ x ∈ hs, x.id ≠ h.id) : ∃ j : Nat, j < (moreH hs h).length ∧ findH (moreH hs h) h.id = j ∧ (moreH hs h).getD j noHost = h := by
  rcases findH_at (moreH hs h) h.id with e | ⟨j, hj, e⟩
  · exact absurd rfl (findH_neg.1 (show findH (moreH hs h) h.id < 0 by omega) h (more_mem.2 (.inl rfl)))
  · refine ⟨j, hj, e, ?_⟩
    have e2 : (moreH hs h).getD j noHost = (moreH hs h)[j] := by simp [hj]
    have e3 := (findH_id e).2
    rw [e2] at e3 ⊢
    exact rises_nodup (more_rises hr hn) (List.getElem_mem hj) (more_mem.2 (.inl rfl)) e3

end Go.Proofs.Ytcafjjfaamjipaa
