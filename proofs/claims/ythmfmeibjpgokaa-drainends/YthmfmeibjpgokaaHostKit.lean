/-
  How rows of pairs of texts, and hosts, lie in memory. No program stands in it.
-/
import Derived.Test.YthmfmeibjpgokaaLineKit
namespace Go.Proofs.Ythmfmeibjpgokaa
open Go.RowKit Go.ChangeShapes

abbrev PairT := ByteArray × ByteArray
abbrev noP : PairT := (ByteArray.empty, ByteArray.empty)
def pairCells (ps : List PairT) : List Value := ps.flatMap fun p => [.string p.1, .string p.2]
def okPair (p : PairT) : Prop := p.1.size ≤ maxLen ∧ p.2.size ≤ maxLen

/-- A slice value that holds the pairs ps. -/
def IsPairs (w : World) (v : Value) (ps : List PairT) : Prop := (∀ p ∈ ps, okPair p) ∧ IsRow 2 w v ps.length (pairCells ps)

theorem IsPairs.below {w w' : World} {v : Value} {ps : List PairT} (h : IsPairs w v ps) (hb : Below w.heap.size w w') : IsPairs w' v ps := ⟨h.1, h.2.below hb⟩
theorem isPairs_nil (w : World) : IsPairs w nilW [] := ⟨by simp, rfl, ⟨by unfold maxLen; simp, by unfold roomy maxLen; omega⟩, .inl ⟨rfl, _, _, rfl, fun _ => rfl⟩⟩

theorem pairCells_length (ps : List PairT) : (pairCells ps).length = ps.length * 2 := by
  induction ps with
  | nil => rfl
  | cons k r ih => simp [pairCells] at ih ⊢; omega
theorem pairCells_append (a b : List PairT) : pairCells (a ++ b) = pairCells a ++ pairCells b := by simp [pairCells]
theorem pairCells_at (ps : List PairT) (i : Nat) (h : i < ps.length) : (pairCells ps)[i * 2]? = some (.string (ps.getD i noP).1) ∧ (pairCells ps)[i * 2 + 1]? = some (.string (ps.getD i noP).2) := by
  induction ps generalizing i with
  | nil => simp at h
  | cons k r ih =>
    have e : pairCells (k :: r) = .string k.1 :: .string k.2 :: pairCells r := rfl
    cases i with
    | zero => exact ⟨rfl, rfl⟩
    | succ i =>
      have := ih i (by simpa using h)
      rw [e, show (i + 1) * 2 = i * 2 + 2 by omega]
      simpa using this
theorem pairCells_one (ps : List PairT) : ∀ u ∈ pairCells ps, u.oneCell' = true := by
  intro u hu
  simp [pairCells] at hu
  obtain ⟨a, b, _, h | h⟩ := hu <;> subst h <;> rfl

theorem IsPairs.shaped {w : World} {v : Value} {ps : List PairT} (h : IsPairs w v ps) : ∃ ao cap, v = .slice ao ps.length cap := h.2.shaped
theorem IsPairs.len {w : World} {v : Value} {ps : List PairT} (h : IsPairs w v ps) : ps.length ≤ 9223372036854775807 := h.2.2.1.1

/-- The place of pair i of a slice that is given by its parts. -/
theorem IsPairs.at {w : World} {ao : Option Addr} {n cap : Nat} {ps : List PairT} (h : IsPairs w (.slice ao n cap) ps) (i : Nat) (hi : i < ps.length) :
    ∃ b off, ao = some ⟨b, off, none⟩ ∧ b < w.heap.size ∧ w.cell? ⟨b, off + i * 2, none⟩ = some (.string (ps.getD i noP).1) ∧ w.cell? ⟨b, off + i * 2 + 1, none⟩ = some (.string (ps.getD i noP).2) := by
  rcases h.2.2.2 with ⟨h0, _⟩ | ⟨_, b, off, c, e, hlt, hc⟩
  · omega
  · simp only [Value.slice.injEq] at e
    obtain ⟨a1, a2⟩ := pairCells_at ps i hi
    exact ⟨b, off, e.1, hlt, by rw [hc (i * 2) (by omega), a1], by rw [Nat.add_assoc, hc (i * 2 + 1) (by omega), a2]⟩
theorem IsPairs.ok {w : World} {v : Value} {ps : List PairT} (h : IsPairs w v ps) (i : Nat) (hi : i < ps.length) : okPair (ps.getD i noP) := by
  rw [List.getD_eq_getElem?_getD, List.getElem?_eq_getElem hi]
  exact h.1 _ (List.getElem_mem hi)

/-- Pairs, laid down by the call. -/
theorem fresh_pairs (w : World) (ps : List PairT) (t : Nat) (hk : ∀ p ∈ ps, okPair p) (hl : ps.length ≤ 1000000) (h0 : 0 < ps.length) :
    IsPairs (w.alloc (.cells (pairCells ps).toArray t)) (.slice (some ⟨w.heap.size, 0, none⟩) ps.length ps.length) ps :=
  ⟨hk, IsRow.fresh w (pairCells ps) 2 ps.length t ps.length (pairCells_length ps) (Nat.le_refl _) (by unfold maxLen; omega) h0⟩
theorem one_pair (w : World) (p : PairT) (t g : Nat) (hg : g = w.heap.size) (hp : okPair p) : IsPairs (w.alloc (.cells #[.string p.1, .string p.2] t)) (.slice (some ⟨g, 0, none⟩) 1 1) [p] := by
  subst hg
  exact fresh_pairs w [p] t (by simpa using hp) (by simp) (by simp)
/-- Pairs that the call owns. -/
theorem own_pairs {w : World} {base e n : Nat} {v : Value} {ps : List PairT} (h : w.ownsRow base e 2 v n (pairCells ps)) (hn : n = ps.length) (hk : ∀ p ∈ ps, okPair p) : IsPairs w v ps := by
  subst hn; exact ⟨hk, isRow_own h⟩

/-- A host, but for where its Meta lies. -/
structure HostT where
  id : Int
  addr : ByteArray
  prio : Int
  zone : ByteArray
  weight : Int
  tags : List PairT
deriving DecidableEq
abbrev hval (h : HostT) (mv : Value) : Value := .agg #[.int .i64 h.id, .string h.addr, .int .i64 h.prio, .string h.zone, .int .i64 h.weight, mv]
def okHost (h : HostT) : Prop := h.addr.size ≤ maxLen ∧ h.zone.size ≤ maxLen

/-- A box of six cells that holds a host. -/
def HostAt (w : World) (b : Nat) (h : HostT) (mv : Value) : Prop :=
  b < w.heap.size ∧ w.cell? ⟨b, 0, none⟩ = some (.int .i64 h.id) ∧ w.cell? ⟨b, 1, none⟩ = some (.string h.addr) ∧ w.cell? ⟨b, 2, none⟩ = some (.int .i64 h.prio) ∧ w.cell? ⟨b, 3, none⟩ = some (.string h.zone) ∧
  w.cell? ⟨b, 4, none⟩ = some (.int .i64 h.weight) ∧ w.cell? ⟨b, 5, none⟩ = some mv
theorem HostAt.below {w w' : World} {b : Nat} {h : HostT} {mv : Value} (H : HostAt w b h mv) (hb : Below w.heap.size w w') : HostAt w' b h mv := by
  obtain ⟨h0, h1, h2, h3, h4, h5, h6⟩ := H
  refine ⟨Nat.lt_of_lt_of_le h0 hb.size, ?_, ?_, ?_, ?_, ?_, ?_⟩
  · exact (hb.cell (p := ⟨b, 0, none⟩) h0).trans h1
  · exact (hb.cell (p := ⟨b, 1, none⟩) h0).trans h2
  · exact (hb.cell (p := ⟨b, 2, none⟩) h0).trans h3
  · exact (hb.cell (p := ⟨b, 3, none⟩) h0).trans h4
  · exact (hb.cell (p := ⟨b, 4, none⟩) h0).trans h5
  · exact (hb.cell (p := ⟨b, 5, none⟩) h0).trans h6
theorem hostAt_box (w : World) (h : HostT) (mv : Value) (t g : Nat) (hg : g = w.heap.size) : HostAt (w.alloc (.cells #[.int .i64 h.id, .string h.addr, .int .i64 h.prio, .string h.zone, .int .i64 h.weight, mv] t)) g h mv := by
  subst hg
  refine ⟨by simp, ?_, ?_, ?_, ?_, ?_, ?_⟩ <;> rw [World.cell?_alloc_at _ _ _ _ rfl] <;> rfl

/-- What may be. -/
def mayPairs (ps : List PairT) : Bool := decide (ps.length ≤ 6) && ps.all fun p => nameOK p.1 && nameOK p.2
def hasPairs (ps sub : List PairT) : Bool := sub.all fun p => ps.any fun q => decide (p = q)

end Go.Proofs.Ythmfmeibjpgokaa
