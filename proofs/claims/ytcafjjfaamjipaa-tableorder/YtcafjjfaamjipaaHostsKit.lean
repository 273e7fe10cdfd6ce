/-
  How rows of hosts lie in memory. No program stands in it.
-/
import Derived.Test.YtcafjjfaamjipaaBoxKit
namespace Go.Proofs.Ytcafjjfaamjipaa
open Go.RowKit Go.ChangeShapes

/-- The cells of hosts: each its numbers and words, and the slice of its pairs. -/
def hostCells : List HostT → List Value → List Value
  | h :: hs, v :: vs => .int .i64 h.id :: .string h.addr :: .int .i64 h.prio :: .string h.zone :: .int .i64 h.weight :: v :: hostCells hs vs
  | _, _ => []
theorem hostCells_length (hs : List HostT) (vs : List Value) (h : vs.length = hs.length) : (hostCells hs vs).length = hs.length * 6 := by
  induction hs generalizing vs with
  | nil => cases vs <;> rfl
  | cons x r ih =>
    cases vs with
    | nil => simp at h
    | cons v vr => simp only [hostCells, List.length_cons]; rw [ih vr (by simpa using h)]; omega
theorem hostCells_at (hs : List HostT) (vs : List Value) (h : vs.length = hs.length) (i : Nat) (hi : i < hs.length) :
    (hostCells hs vs)[i * 6]? = some (.int .i64 (hs.getD i noHost).id) ∧ (hostCells hs vs)[i * 6 + 1]? = some (.string (hs.getD i noHost).addr) ∧ (hostCells hs vs)[i * 6 + 2]? = some (.int .i64 (hs.getD i noHost).prio) ∧
    (hostCells hs vs)[i * 6 + 3]? = some (.string (hs.getD i noHost).zone) ∧ (hostCells hs vs)[i * 6 + 4]? = some (.int .i64 (hs.getD i noHost).weight) ∧ (hostCells hs vs)[i * 6 + 5]? = some (vs.getD i nilW) := by
  induction hs generalizing vs i with
  | nil => simp at hi
  | cons x r ih =>
    cases vs with
    | nil => simp at h
    | cons v vr =>
      cases i with
      | zero => exact ⟨rfl, rfl, rfl, rfl, rfl, rfl⟩
      | succ i =>
        have := ih vr (by simpa using h) i (by simpa using hi)
        rw [show (i + 1) * 6 = i * 6 + 6 by omega]
        simpa [hostCells] using this
theorem hostCells_snoc (hs : List HostT) (vs : List Value) (h : vs.length = hs.length) (x : HostT) (v : Value) : hostCells (hs ++ [x]) (vs ++ [v]) = hostCells hs vs ++ (hcells x v).toList := by
  induction hs generalizing vs with
  | nil => cases vs with
    | nil => rfl
    | cons _ _ => simp at h
  | cons y r ih =>
    cases vs with
    | nil => simp at h
    | cons u vr => simp only [List.cons_append, hostCells]; rw [ih vr (by simpa using h)]

/-- A slice value that holds the hosts hs, their pairs in the slices vs. -/
structure IsHosts (w : World) (v : Value) (vs : List Value) (hs : List HostT) : Prop where
  same : vs.length = hs.length
  ok : ∀ i, i < hs.length → okHost (hs.getD i noHost)
  row : IsRow 6 w v hs.length (hostCells hs vs)
  tags : ∀ i, i < hs.length → IsPairs w (vs.getD i nilW) (hs.getD i noHost).tags
theorem IsHosts.below {w w' : World} {v : Value} {vs : List Value} {hs : List HostT} (h : IsHosts w v vs hs) (hb : Below w.heap.size w w') : IsHosts w' v vs hs :=
  ⟨h.same, h.ok, h.row.below hb, fun i hi => (h.tags i hi).below hb⟩
theorem isHosts_nil (w : World) : IsHosts w nilW [] [] := ⟨rfl, fun i hi => by simp at hi, ⟨rfl, ⟨by unfold maxLen; simp, by unfold roomy maxLen; omega⟩, .inl ⟨rfl, _, _, rfl, fun _ => rfl⟩⟩, fun i hi => by simp at hi⟩
theorem IsHosts.shaped {w : World} {v : Value} {vs : List Value} {hs : List HostT} (h : IsHosts w v vs hs) : ∃ ao cap, v = .slice ao hs.length cap := h.row.shaped
theorem IsHosts.len {w : World} {v : Value} {vs : List Value} {hs : List HostT} (h : IsHosts w v vs hs) : hs.length ≤ 9223372036854775807 := h.row.2.1.1
/-- The place of host i. -/
theorem IsHosts.at {w : World} {ao : Option Addr} {n cap : Nat} {vs : List Value} {hs : List HostT} (h : IsHosts w (.slice ao n cap) vs hs) (i : Nat) (hi : i < hs.length) :
    ∃ b off, ao = some ⟨b, off, none⟩ ∧ b < w.heap.size ∧ w.cell? ⟨b, off + i * 6, none⟩ = some (.int .i64 (hs.getD i noHost).id) ∧ w.cell? ⟨b, off + i * 6 + 1, none⟩ = some (.string (hs.getD i noHost).addr) ∧ w.cell? ⟨b, off + i * 6 + 2, none⟩ = some (.int .i64 (hs.getD i noHost).prio) ∧
      w.cell? ⟨b, off + i * 6 + 3, none⟩ = some (.string (hs.getD i noHost).zone) ∧ w.cell? ⟨b, off + i * 6 + 4, none⟩ = some (.int .i64 (hs.getD i noHost).weight) ∧ w.cell? ⟨b, off + i * 6 + 5, none⟩ = some (vs.getD i nilW) := by
  rcases h.row.2.2 with ⟨h0, _⟩ | ⟨_, b, off, c, e, hlt, hc⟩
  · omega
  · simp only [Value.slice.injEq] at e
    obtain ⟨a0, a1, a2, a3, a4, a5⟩ := hostCells_at hs vs h.same i hi
    refine ⟨b, off, e.1, hlt, ?_, ?_, ?_, ?_, ?_, ?_⟩
    · rw [hc (i * 6) (by omega), a0]
    · rw [Nat.add_assoc, hc (i * 6 + 1) (by omega), a1]
    · rw [Nat.add_assoc, hc (i * 6 + 2) (by omega), a2]
    · rw [Nat.add_assoc, hc (i * 6 + 3) (by omega), a3]
    · rw [Nat.add_assoc, hc (i * 6 + 4) (by omega), a4]
    · rw [Nat.add_assoc, hc (i * 6 + 5) (by omega), a5]

/-- Rows of two element types lie in two blocks. -/
theorem own_ne_own {w : World} {base base' e e' sz sz' n n' : Nat} {v v' : Value} {xs xs' : List Value} (h : w.ownsRow base e sz v n xs) (h' : w.ownsRow base' e' sz' v' n' xs') (hne : e ≠ e') : ∀ k, v.ownBlock = some k → v'.ownBlock ≠ some k := by
  intro k hk hk'
  rcases h.2 with ⟨rfl, _⟩ | ⟨g, cap, cur, rfl, _, h3, _⟩
  · simp [Value.ownBlock] at hk
  · rcases h'.2 with ⟨rfl, _⟩ | ⟨g', cap', cur', rfl, _, h3', _⟩
    · simp [Value.ownBlock] at hk'
    · simp only [Value.ownBlock, Option.some.injEq] at hk hk'
      subst hk
      subst hk'
      rw [h3] at h3'
      simp only [Option.some.injEq, Obj.cells.injEq] at h3'
      exact hne h3'.2.1
theorem own_grown {w w' : World} {base e sz n : Nat} {v : Value} {xs : List Value} {o : Option Nat} (h : w.ownsRow base e sz v n xs) (hg : w.grownBy w' o) (hne : ∀ k, v.ownBlock = some k → o ≠ some k) : w'.ownsRow base e sz v n xs := by
  refine ⟨h.1, ?_⟩
  rcases h.2 with h | ⟨g, cap, cur, rfl, h2, h3, h4⟩
  · exact .inl h
  · refine .inr ⟨g, cap, cur, rfl, h2, ?_, h4⟩
    obtain ⟨_, _, _, _, h5⟩ := hg
    exact (h5 g (Array.getElem?_eq_some_iff.1 h3).1 (fun e => hne g rfl e.symm)).trans h3

/-- Hosts of the call's own: their row, and each one's pairs. -/
structure OwnHosts (w : World) (base hT pT : Nat) (v : Value) (vs : List Value) (hs : List HostT) : Prop where
  same : vs.length = hs.length
  row : w.ownsRow base hT 6 v hs.length (hostCells hs vs)
  tags : ∀ i, i < hs.length → w.ownsRow base pT 2 (vs.getD i nilW) (hs.getD i noHost).tags.length (pairCells (hs.getD i noHost).tags)
theorem ownHosts_nil (w : World) (base hT pT : Nat) : OwnHosts w base hT pT nilW [] [] := ⟨rfl, ⟨rfl, .inl ⟨rfl, rfl⟩⟩, fun i hi => by simp at hi⟩
theorem OwnHosts.below {w w' : World} {base hT pT : Nat} {v : Value} {vs : List Value} {hs : List HostT} (h : OwnHosts w base hT pT v vs hs) (hb : Below w.heap.size w w') : OwnHosts w' base hT pT v vs hs :=
  ⟨h.same, own_on h.row fun g _ hl => hb.block g hl, fun i hi => own_on (h.tags i hi) fun g _ hl => hb.block g hl⟩
/-- One more, behind an append. -/
theorem OwnHosts.snoc {w w' : World} {base hT pT : Nat} {v v' : Value} {vs : List Value} {hs : List HostT} {x : HostT} {u : Value} (h : OwnHosts w base hT pT v vs hs) (hu : w.ownsRow base pT 2 u x.tags.length (pairCells x.tags)) (hne : pT ≠ hT)
    (hrow : w'.ownsRow base hT 6 v' (hs.length + 1) (hostCells hs vs ++ (hcells x u).toList)) (hg : w.grownBy w' v.ownBlock) : OwnHosts w' base hT pT v' (vs ++ [u]) (hs ++ [x]) := by
  refine ⟨by simp [h.same], ?_, fun i hi => ?_⟩
  · rw [hostCells_snoc hs vs h.same, List.length_append]
    exact hrow
  · have key : ∀ {z : Value} {n : Nat} {xs : List Value}, w.ownsRow base pT 2 z n xs → w'.ownsRow base pT 2 z n xs := fun hz => own_grown hz hg fun k hk e => own_ne_own hz h.row hne k hk e
    rcases Nat.lt_or_ge i hs.length with h1 | h1
    · rw [getD_snoc_left vs [u] nilW i (by rw [h.same]; exact h1), getD_snoc_left hs [x] noHost i h1]
      exact key (h.tags i h1)
    · obtain rfl : i = hs.length := by simp at hi; omega
      have e1 : (vs ++ [u]).getD hs.length nilW = u := by rw [← h.same]; simp
      have e2 : (hs ++ [x]).getD hs.length noHost = x := by simp
      rw [e1, e2]
      exact key hu
theorem OwnHosts.isHosts {w : World} {base hT pT : Nat} {v : Value} {vs : List Value} {hs : List HostT} (h : OwnHosts w base hT pT v vs hs) (hok : ∀ i, i < hs.length → okHost (hs.getD i noHost)) (hpk : ∀ i, i < hs.length → ∀ p ∈ (hs.getD i noHost).tags, okPair p) : IsHosts w v vs hs :=
  ⟨h.same, hok, isRow_own h.row, fun i hi => own_pairs (h.tags i hi) rfl (hpk i hi)⟩
theorem OwnHosts.blocks {w : World} {base hT pT : Nat} {v : Value} {vs : List Value} {hs : List HostT} (h : OwnHosts w base hT pT v vs hs) : ∀ k, v.ownBlock = some k → base ≤ k := own_base h.row

end Go.Proofs.Ytcafjjfaamjipaa
