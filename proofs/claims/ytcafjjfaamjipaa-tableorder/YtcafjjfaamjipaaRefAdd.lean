/-
  The reference's answers to chapter 8: a host more.
-/
import Derived.Test.YtcafjjfaamjipaaHostsRow
namespace Go.Proofs.Ytcafjjfaamjipaa
open Go.RowKit

/-- With h in its place. -/
def moreH : List HostT → HostT → List HostT
  | [], h => [h]
  | x :: r, h => if h.id < x.id then h :: x :: r else x :: moreH r h
/-- As far as it has come. -/
def MoreTo (hs : List HostT) (h : HostT) (k : Nat) (done : Bool) (out : List HostT) : Prop :=
  if done then moreH hs h = out ++ hs.drop k else out = hs.take k ∧ moreH hs h = hs.take k ++ moreH (hs.drop k) h
theorem moreTo_zero (hs : List HostT) (h : HostT) : MoreTo hs h 0 false [] := ⟨by simp, by simp⟩
theorem drop_at {hs : List HostT} {k : Nat} (hk : k < hs.length) : hs.drop k = hs.getD k noHost :: hs.drop (k + 1) := by
  rw [List.drop_eq_getElem_cons hk]
  simp [hk]
theorem take_at {hs : List HostT} {k : Nat} (hk : k < hs.length) : hs.take (k + 1) = hs.take k ++ [hs.getD k noHost] := by
  rw [List.take_succ_eq_append_getElem hk]
  simp [hk]
theorem moreTo_done {hs : List HostT} {h : HostT} {k : Nat} {out : List HostT} (hk : k < hs.length) (H : MoreTo hs h k true out) : MoreTo hs h (k + 1) true (out ++ [hs.getD k noHost]) := by
  have H' : moreH hs h = out ++ hs.drop k := H
  show moreH hs h = _
  rw [H', drop_at hk]
  simp
theorem moreTo_now {hs : List HostT} {h : HostT} {k : Nat} {out : List HostT} (hk : k < hs.length) (H : MoreTo hs h k false out) (hlt : h.id < (hs.getD k noHost).id) : MoreTo hs h (k + 1) true ((out ++ [h]) ++ [hs.getD k noHost]) := by
  obtain ⟨h1, h2⟩ : out = hs.take k ∧ moreH hs h = hs.take k ++ moreH (hs.drop k) h := H
  show moreH hs h = _
  rw [h2, drop_at hk, h1]
  simp only [moreH, if_pos hlt]
  simp
theorem moreTo_not {hs : List HostT} {h : HostT} {k : Nat} {out : List HostT} (hk : k < hs.length) (H : MoreTo hs h k false out) (hlt : ¬ h.id < (hs.getD k noHost).id) : MoreTo hs h (k + 1) false (out ++ [hs.getD k noHost]) := by
  obtain ⟨h1, h2⟩ : out = hs.take k ∧ moreH hs h = hs.take k ++ moreH (hs.drop k) h := H
  refine ⟨by rw [h1, take_at hk], ?_⟩
  rw [h2, drop_at hk, take_at hk]
  simp only [moreH, if_neg hlt]
  simp
theorem moreTo_end {hs : List HostT} {h : HostT} {k : Nat} {out : List HostT} {done : Bool} (hk : hs.length ≤ k) (H : MoreTo hs h k done out) : moreH hs h = if done then out else out ++ [h] := by
  cases done with
  | true =>
    have H' : moreH hs h = out ++ hs.drop k := H
    rw [H', List.drop_of_length_le hk]
    simp
  | false =>
    obtain ⟨h1, h2⟩ : out = hs.take k ∧ moreH hs h = hs.take k ++ moreH (hs.drop k) h := H
    rw [h2, List.drop_of_length_le hk, h1]
    rfl
theorem moreTo_len {hs : List HostT} {h : HostT} {k : Nat} {out : List HostT} {done : Bool} (hl : hs.length ≤ 64) (H : MoreTo hs h k done out) : out.length ≤ 66 := by
  have hm : ∀ l : List HostT, (moreH l h).length = l.length + 1 := fun l => by
    induction l with
    | nil => rfl
    | cons x r ih => simp only [moreH]; split <;> simp [ih]
  cases done with
  | true =>
    have H' : moreH hs h = out ++ hs.drop k := H
    have := congrArg List.length H'
    rw [hm, List.length_append] at this
    omega
  | false =>
    obtain ⟨h1, _⟩ : out = hs.take k ∧ moreH hs h = hs.take k ++ moreH (hs.drop k) h := H
    rw [h1, List.length_take]
    omega

/-- Behind one append of a copy: what is owned, what stands. -/
theorem after_app {w wr w3 w5 : World} {uo : Option Addr} {uc : Nat} {ov v' : Value} {vs' : List Value} {cl : List HostT} {x : HostT} {o : Obj} (HB : Below w.heap.size w wr) (h3 : Below wr.heap.size wr w3) (hu : w3.ownsRow wr.heap.size 48 2 (.slice uo x.tags.length uc) x.tags.length (pairCells x.tags))
    (ho : OwnHosts wr w.heap.size 25 48 ov vs' cl) (hown : w5.ownsRow w.heap.size 25 6 v' (cl.length + 1) (hostCells cl vs' ++ (hcells x (.slice uo x.tags.length uc)).toList)) (hgrow : (w3.alloc o).grownBy w5 ov.ownBlock) :
    OwnHosts w5 w.heap.size 25 48 v' (vs' ++ [.slice uo x.tags.length uc]) (cl ++ [x]) ∧ Below w.heap.size w w5 ∧ Below w.heap.size w3 w5 := by
  have ho3 := (ho.below h3).below ((Below.refl w3.heap.size w3).alloc (Nat.le_refl _) o)
  refine ⟨ho3.snoc ((own_from hu HB.size).alloc _) pair_ne_host hown hgrow, ?_, ?_⟩
  · exact ((HB.trans (h3.mono HB.size)).alloc (by have := HB.size; have := h3.size; omega) _).grown hgrow (by have := HB.size; have := h3.size; simp; omega) (ho.below h3).blocks
  · exact ((Below.refl _ _).alloc (by have := HB.size; have := h3.size; omega) _).grown hgrow (by have := HB.size; have := h3.size; simp; omega) (ho.below h3).blocks

end Go.Proofs.Ytcafjjfaamjipaa
