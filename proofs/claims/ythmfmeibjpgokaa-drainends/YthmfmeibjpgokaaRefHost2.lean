/-
  The reference's answers to chapter 7: Has, MayHost.
-/
import Derived.Test.YthmfmeibjpgokaaRefHost
namespace Go.Proofs.Ythmfmeibjpgokaa
open Go.RowKit

theorem mayH_no (h : HostT) (hn : h.id < 1 ∨ 1000000 < h.id ∨ nameOK h.addr = false ∨ ((h.zone.toList == []) = false ∧ nameOK h.zone = false) ∨ h.prio < 0 ∨ 3 < h.prio ∨ h.weight < 1 ∨ 20 < h.weight ∨ mayPairs h.tags = false ∨ risesP h.tags = false) : mayHost h = false := by
  cases hm : mayHost h with
  | false => rfl
  | true =>
    unfold mayHost at hm
    simp only [Bool.and_eq_true, Bool.or_eq_true, decide_eq_true_eq] at hm
    obtain ⟨⟨⟨⟨⟨⟨⟨h1, h2⟩, h3⟩, h4, h5⟩, h6⟩, h7, h8⟩, h9⟩, h10⟩ := hm
    rcases hn with h | h | h | ⟨h, h'⟩ | h | h | h | h | h | h
    · omega
    · omega
    · rw [h3] at h; cases h
    · rw [h, h'] at h6; simp at h6
    · omega
    · omega
    · omega
    · omega
    · rw [h9] at h; cases h
    · rw [h10] at h; cases h
theorem mayH_yes (h : HostT) (h1 : ¬ h.id < 1) (h2 : ¬ 1000000 < h.id) (h3 : nameOK h.addr = true) (h4 : (h.zone.toList == []) = true ∨ nameOK h.zone = true) (h5 : ¬ h.prio < 0) (h6 : ¬ 3 < h.prio) (h7 : ¬ h.weight < 1) (h8 : ¬ 20 < h.weight) (h9 : mayPairs h.tags = true) (h10 : risesP h.tags = true) : mayHost h = true := by
  unfold mayHost
  simp only [Bool.and_eq_true, Bool.or_eq_true, decide_eq_true_eq]
  exact ⟨⟨⟨⟨⟨⟨⟨by omega, by omega⟩, h3⟩, by omega, by omega⟩, h4⟩, by omega, by omega⟩, h9⟩, h10⟩


end Go.Proofs.Ythmfmeibjpgokaa
