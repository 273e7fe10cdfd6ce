/-
  The plain mathematics of chapter 8. No program stands in it.
-/
import Derived.Test.YtcafjjfaamjipaaHost3
import Derived.Test.YtcafjjfaamjipaaBoxKit
namespace Go.Proofs.Ytcafjjfaamjipaa

/-- The place of the first host with that number; -1: none. -/
def findH (hs : List HostT) (id : Int) : Int := match hs.findIdx? (fun h => h.id == id) with
  | some i => (i : Int)
  | none => -1
theorem findH_hit {hs : List HostT} {id : Int} {k : Nat} (hk : k < hs.length) (hn : ∀ j, j < k → (hs.getD j noHost).id ≠ id) (he : (hs.getD k noHost).id = id) : findH hs id = k := by
  unfold findH
  have : hs.findIdx? (fun h => h.id == id) = some k := by
    rw [List.findIdx?_eq_some_iff_getElem]
    refine ⟨hk, ?_, fun j hj => ?_⟩
    · have : hs.getD k noHost = hs[k] := by simp [hk]
      rw [this] at he
      rw [beq_iff_eq]; exact he
    · have h1 := hn j hj
      have : hs.getD j noHost = hs[j]'(by omega) := by simp [show j < hs.length by omega]
      rw [this] at h1
      simpa using h1
  rw [this]
theorem findH_none {hs : List HostT} {id : Int} (hn : ∀ j, j < hs.length → (hs.getD j noHost).id ≠ id) : findH hs id = -1 := by
  unfold findH
  have : hs.findIdx? (fun h => h.id == id) = none := by
    rw [List.findIdx?_eq_none_iff]
    intro x hx
    obtain ⟨j, hj, rfl⟩ := List.mem_iff_getElem.1 hx
    have h1 := hn j hj
    have : hs.getD j noHost = hs[j] := by simp [hj]
    rw [this] at h1
    simpa using h1
  rw [this]

/-- Numbers that rise, and hosts that may be: up to k. -/
def okAt (hs : List HostT) (i : Nat) : Bool := mayHost (hs.getD i noHost) && (i == 0 || decide ((hs.getD (i - 1) noHost).id < (hs.getD i noHost).id))
def GoodTo (hs : List HostT) (k : Nat) : Prop := ∀ i, i < k → okAt hs i = true
/-- May it be a table? -/
def mayTab (hs : List HostT) : Bool := (List.range hs.length).all (okAt hs) && decide (hs.length ≤ 64)
theorem goodTo_zero (hs : List HostT) : GoodTo hs 0 := fun i h => by omega
theorem goodTo_step {hs : List HostT} {k : Nat} (hk : k < hs.length) (h : GoodTo hs k) : ∀ q : Bool, q = (mayHost (hs.getD k noHost) && (k == 0 || decide ((hs.getD (k - 1) noHost).id < (hs.getD k noHost).id))) → if q then GoodTo hs (k + 1) else mayTab hs = false := by
  intro q hq
  have hq' : q = okAt hs k := hq
  cases q with
  | true =>
    intro i hi
    rcases Nat.lt_or_ge i k with h1 | h1
    · exact h i h1
    · obtain rfl : i = k := by omega
      exact hq'.symm
  | false =>
    show mayTab hs = false
    unfold mayTab
    rw [Bool.and_eq_false_iff, List.all_eq_false]
    exact .inl ⟨k, List.mem_range.2 hk, by rw [← hq']; simp⟩
theorem goodTo_end {hs : List HostT} (h : GoodTo hs hs.length) : mayTab hs = decide (hs.length ≤ 64) := by
  unfold mayTab
  have : (List.range hs.length).all (okAt hs) = true := by
    rw [List.all_eq_true]
    intro i hi
    exact h i (List.mem_range.1 hi)
  rw [this, Bool.true_and]

end Go.Proofs.Ytcafjjfaamjipaa
