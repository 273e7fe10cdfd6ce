/-
  The plain mathematics of chapter 8: hosts put in one by one, in whatever order.
-/
import Derived.Test.YtcafjjfaamjipaaTableMore
import Derived.Test.YtcafjjfaamjipaaTableEdit
namespace Go.Proofs.Ytcafjjfaamjipaa
open Go.RowKit

/-- All put in, one by one. -/
def putH (l : List HostT) : List HostT := l.foldl moreH []
theorem putH_snoc (l : List HostT) (x : HostT) : putH (l ++ [x]) = moreH (putH l) x := by unfold putH; rw [List.foldl_append]; rfl
theorem more_perm (hs : List HostT) (h : HostT) : (moreH hs h).Perm (h :: hs) := by
  induction hs with
  | nil => exact List.Perm.refl _
  | cons y r ih =>
    simp only [moreH]
    split
    · exact List.Perm.refl _
    · exact (List.Perm.cons y ih).trans (List.Perm.swap h y r)
theorem putH_perm (l : List HostT) : (putH l).Perm l := by
  have key : ∀ (l acc : List HostT), (l.foldl moreH acc).Perm (l ++ acc) := by
    intro l
    induction l with
    | nil => intro acc; exact List.Perm.refl _
    | cons x r ih =>
      intro acc
      exact (ih (moreH acc x)).trans (((more_perm acc x).append_left r).trans List.perm_middle)
  have := key l []
  rw [List.append_nil] at this
  exact this
abbrev ApartH (l : List HostT) : Prop := l.Pairwise fun a b => a.id ≠ b.id
theorem putH_rises {l : List HostT} (ha : ApartH l) : RisesH (putH l) := by
  have key : ∀ (l acc : List HostT), ApartH l → RisesH acc → (∀ x ∈ l, ∀ y ∈ acc, y.id ≠ x.id) → RisesH (l.foldl moreH acc) := by
    intro l
    induction l with
    | nil => intro acc _ h _; exact h
    | cons x r ih =>
      intro acc h1 h2 h3
      obtain ⟨h4, h5⟩ := List.pairwise_cons.1 h1
      refine ih (moreH acc x) h5 (more_rises h2 (h3 x (List.mem_cons_self ..))) fun y hy z hz => ?_
      rcases more_mem.1 hz with e | e
      · rw [e]; exact h4 y hy
      · exact h3 y (List.mem_cons_of_mem _ hy) z e
  exact key l [] ha List.Pairwise.nil fun _ _ _ h => by cases h
theorem putH_may {l : List HostT} (ha : ApartH l) (hm : ∀ x ∈ l, mayHost x = true) (hl : l.length ≤ 64) : mayTab (putH l) = true :=
  mayTab_of (by rw [(putH_perm l).length_eq]; exact hl) (fun x hx => hm x ((putH_perm l).mem_iff.1 hx)) (putH_rises ha)
theorem putH_eq {l m : List HostT} (ha : ApartH l) (hb : ApartH m) (hp : l.Perm m) : putH l = putH m :=
  ((putH_perm l).trans (hp.trans (putH_perm m).symm)).eq_of_pairwise (fun _ _ _ _ x y => absurd (Int.lt_trans x y) (Int.lt_irrefl _)) (putH_rises ha) (putH_rises hb)
/-- One more goes in. -/
theorem putH_step {l : List HostT} (ha : ApartH l) (hm : ∀ x ∈ l, mayHost x = true) (hl : l.length ≤ 64) (k : Nat) (hk : k < l.length) : addR (putH (l.take k)) (l.getD k noHost) = (putH (l.take (k + 1)), 0) := by
  have e : l.getD k noHost = l[k] := by simp [hk]
  have h1 : ApartH (l.take k) := List.Pairwise.sublist (List.take_sublist k l) ha
  have h2 : ∀ x ∈ l.take k, mayHost x = true := fun x hx => hm x (List.mem_of_mem_take hx)
  have h3 : (l.take k).length = k := by rw [List.length_take]; omega
  have hno : ∀ x ∈ putH (l.take k), x.id ≠ l[k].id := fun x hx => by
    have hx := (putH_perm _).mem_iff.1 hx
    obtain ⟨i, hi, rfl⟩ := List.mem_iff_getElem.1 hx
    rw [List.getElem_take]
    exact List.pairwise_iff_getElem.1 ha i k (by omega) hk (by omega)
  unfold addR
  rw [e, putH_may h1 h2 (by omega), hm _ (List.getElem_mem hk), Bool.and_self, if_pos rfl, if_neg (by have := findH_neg.2 hno; omega), if_neg (by rw [(putH_perm _).length_eq]; omega), List.take_succ_eq_append_getElem hk, putH_snoc]
/-- Gone through from the k-th on. -/
def fromH (l : List HostT) (k : Nat) : List HostT := l.drop k ++ l.take k
theorem fromH_perm (l : List HostT) (k : Nat) : (fromH l k).Perm l := by
  unfold fromH
  exact List.perm_append_comm.trans (List.Perm.of_eq (List.take_append_drop k l))
theorem fromH_at (l : List HostT) (k i : Nat) (hk : k ≤ l.length) (hi : i < l.length) : ∃ q : Nat, q < l.length ∧ ((i : Int) + (k : Int)).tmod (l.length : Int) = (q : Int) ∧ (fromH l k).getD i noHost = l.getD q noHost := by
  have hd : (l.drop k).length = l.length - k := by simp
  rcases Nat.lt_or_ge (i + k) l.length with h | h
  · refine ⟨i + k, h, ?_, ?_⟩
    · rw [Int.tmod_eq_of_lt (by omega) (by omega)]; omega
    · unfold fromH
      rw [List.getD_eq_getElem?_getD, List.getElem?_append_left (by omega), List.getElem?_drop, List.getD_eq_getElem?_getD, Nat.add_comm]
  · refine ⟨i + k - l.length, by omega, ?_, ?_⟩
    · rw [Int.tmod_eq_emod_of_nonneg (by omega)]
      have e : (i : Int) + (k : Int) = ((i + k - l.length : Nat) : Int) + (l.length : Int) := by omega
      rw [e, Int.add_emod_right, Int.emod_eq_of_lt (by omega) (by omega)]
    · unfold fromH
      rw [List.getD_eq_getElem?_getD, List.getElem?_append_right (by omega), hd, List.getElem?_take, if_pos (by omega), List.getD_eq_getElem?_getD, show i - (l.length - k) = i + k - l.length by omega]
theorem apart_of {l : List HostT} (h : ∀ i, i < l.length → findH (l.take i) (l.getD i noHost).id < 0) : ApartH l := by
  rw [ApartH, List.pairwise_iff_getElem]
  intro i j hi hj hij
  have e : l.getD j noHost = l[j] := by simp [hj]
  have := h j hj
  rw [e] at this
  refine findH_neg.1 this _ (List.mem_iff_getElem.2 ⟨i, by rw [List.length_take]; omega, ?_⟩)
  rw [List.getElem_take]
theorem apart_perm {l m : List HostT} (hp : l.Perm m) (h : ApartH l) : ApartH m := (hp.pairwise_iff (fun {_ _} e => Ne.symm e)).1 h

/-- 's[:i]'. -/
theorem IsHosts.upto {w : World} {ao : Option Addr} {cap : Nat} {vs : List Value} {hs : List HostT} (h : IsHosts w (.slice ao hs.length cap) vs hs) (i : Nat) (hi : i ≤ hs.length) : IsHosts w (.slice ao i cap) (vs.take i) (hs.take i) := by
  have hl : (hs.take i).length = i := by rw [List.length_take]; omega
  have g1 : ∀ j, j < i → (hs.take i).getD j noHost = hs.getD j noHost := fun j hj => by
    rw [List.getD_eq_getElem?_getD, List.getElem?_take, if_pos hj, List.getD_eq_getElem?_getD]
  have g2 : ∀ j, j < i → (vs.take i).getD j nilW = vs.getD j nilW := fun j hj => by
    rw [List.getD_eq_getElem?_getD, List.getElem?_take, if_pos hj, List.getD_eq_getElem?_getD]
  refine ⟨by simp [h.same], fun j hj => ?_, ?_, fun j hj => ?_⟩
  · rw [hl] at hj
    rw [g1 j hj]
    exact h.ok j (by omega)
  · rw [hl]
    have hcl := hostCells_length hs vs h.same
    obtain ⟨h1, ⟨h2, h3⟩, h4⟩ := h.row
    have h3' : hs.length ≤ cap ∧ cap ≤ maxLen := h3
    have hc : ∀ j, j < i * 6 → (hostCells (hs.take i) (vs.take i))[j]? = (hostCells hs vs)[j]? := fun j hj => by
      rw [hostCells_take hs vs h.same, List.getElem?_take, if_pos hj]
    refine ⟨by rw [hostCells_length _ _ (by simp [h.same]), hl], ⟨by omega, show i ≤ cap ∧ cap ≤ maxLen by omega⟩, ?_⟩
    rcases h4 with ⟨h0, ao', cap', e, hn⟩ | ⟨_, b, off, cap', e, hlt, hcells⟩
    · simp only [Value.slice.injEq] at e
      obtain ⟨rfl, _, rfl⟩ := e
      exact .inl ⟨by omega, ao, cap, by rw [show i = 0 by omega], hn⟩
    · simp only [Value.slice.injEq] at e
      obtain ⟨rfl, _, rfl⟩ := e
      by_cases h0 : i = 0
      · subst h0
        exact .inl ⟨rfl, _, _, rfl, fun e => by cases e⟩
      · exact .inr ⟨by omega, b, off, cap, rfl, hlt, fun j hj => by rw [hcells j (by omega), hc j hj]⟩
  · rw [hl] at hj
    rw [g1 j hj, g2 j hj]
    exact h.tags j (by omega)

end Go.Proofs.Ytcafjjfaamjipaa
