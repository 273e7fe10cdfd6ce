/-
  A map from numbers to numbers that the call has made: what it holds at each number; 'm[k]', 'm[k] = c'. No program stands in it.
-/
import Derived.Test.YtcpajkhefhnmeaaSeqKit
import Derived.Maps.Own
import Derived.Maps.Views
namespace Go.Proofs.Ytcpajkhefhnmeaa
open Go.RowKit Go.ChangeShapes Go.WideShapes Go.ChangeMaps Go.MapKept
open Go.Maps (Keyed)

structure IntMapT (P : Program) (T K E : TypeId) : Prop where
  ht : P.underlying T = some (.map K E)
  hk : P.underlying K = some (.int .i64)
  he : P.underlying E = some (.int .i64)
  zero : ∀ w, (zeroValue E).run P w = .ok (.int .i64 0) w

/-- Block b is a map of at most n entries that holds f z at each z. -/
def CountsI (P : Program) (K E : TypeId) (w : World) (b n : Nat) (f : Int → Int) : Prop :=
  ∃ D : DataW Unit, w.ownsMap P K (plainElem P E) b n D ∧ ∀ z, (Lit.int .i64 z).wf = true → D.atKey (.int .i64 z) (.lit (.int .i64 0)) = .lit (.int .i64 (f z))

section
variable {P : Program} {T K E : TypeId} {w : World} {b n : Nat} {f : Int → Int}

theorem countsI_made (w : World) : CountsI P K E (w.alloc (.map #[] 0)) w.heap.size 0 fun _ => 0 :=
  ⟨_, World.ownsMap_made w P K _, fun _ _ => rfl⟩

theorem CountsI.block {w' : World} (h : CountsI P K E w b n f) (e : w'.heap[b]? = w.heap[b]?) : CountsI P K E w' b n f := by
  obtain ⟨D, ⟨es, clock, hb, h1⟩, h2⟩ := h
  exact ⟨D, ⟨es, clock, e.trans hb, h1⟩, h2⟩
theorem CountsI.lt (h : CountsI P K E w b n f) : b < w.heap.size := by
  obtain ⟨D, h1, _⟩ := h
  exact h1.lt
theorem CountsI.congr {g : Int → Int} (h : CountsI P K E w b n f) (e : ∀ k, f k = g k) : CountsI P K E w b n g := by
  obtain ⟨D, h1, h2⟩ := h
  exact ⟨D, h1, fun k a => by rw [← e k]; exact h2 k a⟩

theorem CountsI.lookup (C : IntMapT P T K E) (h : CountsI P K E w b n f) {z : Int} (hz : (Lit.int .i64 z).wf = true) : (Instr.lookup T (.map (some b)) (.int .i64 z) false).run P w = .ok (.int .i64 (f z)) w := by
  obtain ⟨D, h1, h2⟩ := h
  obtain ⟨c, hrun, hat, _⟩ := h1.lookup_int (Maps.int_keyed C.hk) C.ht C.he (C.zero w) (Maps.keyOf_int_mk C.hk hz)
  rw [h2 z hz] at hat
  simp only [DataW.lit.injEq, Lit.int.injEq, true_and] at hat
  rw [hrun, hat]

theorem CountsI.update (C : IntMapT P T K E) (h : CountsI P K E w b n f) (hn : n < maxLen) {z : Int} (hz : (Lit.int .i64 z).wf = true) {c : Int} (hc : (Lit.int .i64 c).wf = true) :
    ∃ w', (Instr.mapUpdate T (.map (some b)) (.int .i64 z) (.int .i64 c)).run P w = .ok () w' ∧ CountsI P K E w' b (n + 1) (fun q => if q = z then c else f q) ∧ w.grownBy w' (some b) := by
  obtain ⟨D, h1, h2⟩ := h
  have hD : Go.Maps.IsMap D := by obtain ⟨es, clock, _, _, _, rfl⟩ := h1; exact ⟨_, rfl⟩
  have hkl := Maps.keyOf_int_mk C.hk hz
  obtain ⟨w', hrun, ho, hg⟩ := h1.update (Maps.int_keyed C.hk) C.ht hn hkl (plainElem_int (H := Unit) C.he hc)
  refine ⟨w', hrun, ⟨_, ho, fun q hq => ?_⟩, hg⟩
  show _ = DataW.lit (Lit.int .i64 (if q = z then c else f q))
  by_cases e : q = z
  · subst e
    rw [if_pos rfl]
    exact Go.Maps.atKey_put_same hD ((Maps.int_keyed C.hk).key hkl) _ _
  · rw [if_neg e, Go.Maps.atKey_put_other (fun e2 => e (by simpa using e2)) _ _]
    exact h2 q hq
end

end Go.Proofs.Ytcpajkhefhnmeaa
