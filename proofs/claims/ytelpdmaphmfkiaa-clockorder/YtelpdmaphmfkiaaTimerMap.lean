/-
  A map from timers to numbers that the call has made: what it holds at each timer; 'm[t]', 'm[t] = c'. No program stands in it.
-/
import Derived.Test.YtelpdmaphmfkiaaTimerKit
import Derived.Maps.Own
import Derived.Maps.Views
import Derived.WideKeyEntry
import Derived.DeepKeys4
namespace Go.Proofs.Ytelpdmaphmfkiaa
open Go.RowKit Go.ChangeShapes Go.WideShapes Go.ChangeMaps Go.MapKept
open Go.WideMaps (KeyLaw)
open Go.Maps (Keyed)

structure TimerMapT (P : Program) (T K E : TypeId) : Prop where
  ht : P.underlying T = some (.map K E)
  he : P.underlying E = some (.int .i64)
  law : KeyLaw P K
  zero : ∀ w, (zeroValue E).run P w = .ok (.int .i64 0) w
  lit : ∀ t, inT t → ∃ kl, keyOf P K (tval t) = some kl

/-- Block b is a map of at most n entries that holds f t at each timer t. -/
def CountsT (P : Program) (K E : TypeId) (w : World) (b n : Nat) (f : TimerT → Int) : Prop :=
  ∃ D : DataW Unit, w.ownsMap P K (plainElem P E) b n D ∧ ∀ t kl, inT t → keyOf P K (tval t) = some kl → D.atKey kl (.lit (.int .i64 0)) = .lit (.int .i64 (f t))

section
variable {P : Program} {T K E : TypeId} {w : World} {b n : Nat} {f : TimerT → Int}

theorem countsT_made (w : World) : CountsT P K E (w.alloc (.map #[] 0)) w.heap.size 0 fun _ => 0 :=
  ⟨_, World.ownsMap_made w P K _, fun _ _ _ _ => rfl⟩
theorem CountsT.block {w' : World} (h : CountsT P K E w b n f) (e : w'.heap[b]? = w.heap[b]?) : CountsT P K E w' b n f := by
  obtain ⟨D, ⟨es, clock, hb, h1⟩, h2⟩ := h
  exact ⟨D, ⟨es, clock, e.trans hb, h1⟩, h2⟩
theorem CountsT.lt (h : CountsT P K E w b n f) : b < w.heap.size := by
  obtain ⟨D, h1, _⟩ := h
  exact h1.lt
theorem CountsT.below {w' : World} (h : CountsT P K E w b n f) (hb : Below w.heap.size w w') : CountsT P K E w' b n f := h.block (hb.block b h.lt)
theorem CountsT.congr {g : TimerT → Int} (h : CountsT P K E w b n f) (e : ∀ t, f t = g t) : CountsT P K E w b n g := by
  obtain ⟨D, h1, h2⟩ := h
  exact ⟨D, h1, fun k kl a c => by rw [← e k]; exact h2 k kl a c⟩
theorem CountsT.lookup (C : TimerMapT P T K E) (h : CountsT P K E w b n f) {t : TimerT} (ht : inT t) : (Instr.lookup T (.map (some b)) (tval t) false).run P w = .ok (.int .i64 (f t)) w := by
  obtain ⟨D, h1, h2⟩ := h
  obtain ⟨kl, hkl⟩ := C.lit t ht
  obtain ⟨c, hrun, hat, _⟩ := h1.lookup_int (Keyed.of_law C.law) C.ht C.he (C.zero w) hkl
  rw [h2 t kl ht hkl] at hat
  simp only [DataW.lit.injEq, Lit.int.injEq, true_and] at hat
  rw [hrun, hat]
theorem CountsT.update (C : TimerMapT P T K E) (h : CountsT P K E w b n f) (hn : n < maxLen) {t : TimerT} (ht : inT t) {c : Int} (hc : (Lit.int .i64 c).wf = true) :
    ∃ w', (Instr.mapUpdate T (.map (some b)) (tval t) (.int .i64 c)).run P w = .ok () w' ∧ CountsT P K E w' b (n + 1) (fun q => if q = t then c else f q) ∧ w.grownBy w' (some b) := by
  obtain ⟨D, h1, h2⟩ := h
  obtain ⟨kl, hkl⟩ := C.lit t ht
  have hD : Go.Maps.IsMap D := by obtain ⟨es, clock, _, _, _, rfl⟩ := h1; exact ⟨_, rfl⟩
  obtain ⟨w', hrun, ho, hg⟩ := h1.update (Keyed.of_law C.law) C.ht hn hkl (plainElem_int (H := Unit) C.he hc)
  refine ⟨w', hrun, ⟨_, ho, fun q ql hq hql => ?_⟩, hg⟩
  show _ = DataW.lit (Lit.int .i64 (if q = t then c else f q))
  by_cases e : q = t
  · subst e
    rw [if_pos rfl]
    obtain rfl := Option.some.inj (hkl.symm.trans hql)
    exact Go.Maps.atKey_put_same hD ((Keyed.of_law C.law).key hkl) _ _
  · rw [if_neg e, Go.Maps.atKey_put_other (fun e2 => e ?_) _ _]
    · exact h2 q ql hq hql
    · subst e2
      have := C.law.inj hql hkl
      simp only [tval, Value.agg.injEq, Array.mk.injEq, List.cons.injEq, Value.int.injEq, true_and, and_true] at this
      obtain ⟨q1, q2, q3⟩ := q
      obtain ⟨t1, t2, t3⟩ := t
      simp only [TimerT.mk.injEq]
      exact this
end

end Go.Proofs.Ytelpdmaphmfkiaa
