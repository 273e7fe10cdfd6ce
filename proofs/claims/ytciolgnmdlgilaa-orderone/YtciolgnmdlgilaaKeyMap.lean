/-
  A map from keys to numbers that the call has made: what it holds at each key; 'm[k]', 'm[k]++'. No program stands in it.
-/
import Derived.Test.YtciolgnmdlgilaaKeyOpen
import Derived.Maps.Own
import Derived.Maps.Views
import Derived.WideKeyEntry
import Derived.DeepKeys4
namespace Go.Proofs.Ytciolgnmdlgilaa
open Go.RowKit Go.ChangeShapes Go.WideShapes Go.ChangeMaps Go.MapKept
open Go.WideMaps (KeyLaw)
open Go.Maps (Keyed)

/-- The types of a map from keys to numbers. -/
structure KeyMapT (P : Program) (T K E : TypeId) : Prop where
  ht : P.underlying T = some (.map K E)
  he : P.underlying E = some (.int .i64)
  law : KeyLaw P K
  zero : ∀ w, (zeroValue E).run P w = .ok (.int .i64 0) w
  lit : ∀ k, inK k → ∃ kl, keyOf P K (kval k) = some kl

/-- Block b is a map of at most n entries that holds f k at each key k. -/
def Counts (P : Program) (K E : TypeId) (w : World) (b n : Nat) (f : Int × Int → Int) : Prop :=
  ∃ D : DataW Unit, w.ownsMap P K (plainElem P E) b n D ∧ ∀ k kl, inK k → keyOf P K (kval k) = some kl → D.atKey kl (.lit (.int .i64 0)) = .lit (.int .i64 (f k))

section
variable {P : Program} {T K E : TypeId} {w : World} {b n : Nat} {f : Int × Int → Int}

theorem counts_made (w : World) : Counts P K E (w.alloc (.map #[] 0)) w.heap.size 0 fun _ => 0 :=
  ⟨_, World.ownsMap_made w P K _, fun _ _ _ _ => rfl⟩

theorem ownsMap_block {H : Type} {w w' : World} {R : Value → Option (DataW H × List MemPlace)} {D : DataW H} (h : w.ownsMap P K R b n D) (e : w'.heap[b]? = w.heap[b]?) : w'.ownsMap P K R b n D := by
  obtain ⟨es, clock, hb, h⟩ := h
  exact ⟨es, clock, e.trans hb, h⟩

theorem Counts.block {w' : World} (h : Counts P K E w b n f) (e : w'.heap[b]? = w.heap[b]?) : Counts P K E w' b n f := by
  obtain ⟨D, h1, h2⟩ := h
  exact ⟨D, ownsMap_block h1 e, h2⟩
theorem Counts.lt (h : Counts P K E w b n f) : b < w.heap.size := by
  obtain ⟨D, h1, _⟩ := h
  exact h1.lt
theorem Counts.mono {m : Nat} (h : Counts P K E w b n f) (hm : n ≤ m) : Counts P K E w b m f := by
  obtain ⟨D, h1, h2⟩ := h
  exact ⟨D, h1.mono hm, h2⟩
theorem Counts.congr {g : Int × Int → Int} (h : Counts P K E w b n f) (e : ∀ k, f k = g k) : Counts P K E w b n g := by
  obtain ⟨D, h1, h2⟩ := h
  exact ⟨D, h1, fun k kl a c => by rw [← e k]; exact h2 k kl a c⟩

theorem Counts.lookup (C : KeyMapT P T K E) (h : Counts P K E w b n f) {k : Int × Int} (hk : inK k) : (Instr.lookup T (.map (some b)) (kval k) false).run P w = .ok (.int .i64 (f k)) w := by
  obtain ⟨D, h1, h2⟩ := h
  obtain ⟨kl, hkl⟩ := C.lit k hk
  obtain ⟨c, hrun, hat, _⟩ := h1.lookup_int (Keyed.of_law C.law) C.ht C.he (C.zero w) hkl
  rw [h2 k kl hk hkl] at hat
  simp only [DataW.lit.injEq, Lit.int.injEq, true_and] at hat
  rw [hrun, hat]

/-- 'm[k] = c', by the elder law. -/
theorem Counts.update (C : KeyMapT P T K E) (h : Counts P K E w b n f) (hn : n < maxLen) {k : Int × Int} (hk : inK k) {c : Int} (hc : (Lit.int .i64 c).wf = true) :
    ∃ w', (Instr.mapUpdate T (.map (some b)) (kval k) (.int .i64 c)).run P w = .ok () w' ∧ Counts P K E w' b (n + 1) (fun q => if q = k then c else f q) ∧ w.grownBy w' (some b) := by
  obtain ⟨D, h1, h2⟩ := h
  obtain ⟨kl, hkl⟩ := C.lit k hk
  have hD : Go.Maps.IsMap D := by obtain ⟨es, clock, _, _, _, rfl⟩ := h1; exact ⟨_, rfl⟩
  obtain ⟨w', hrun, ho, hg⟩ := h1.update (Keyed.of_law C.law) C.ht hn hkl (plainElem_int (H := Unit) C.he hc)
  refine ⟨w', hrun, ⟨_, ho, fun q ql hq hql => ?_⟩, hg⟩
  show _ = DataW.lit (Lit.int .i64 (if q = k then c else f q))
  by_cases e : q = k
  · subst e
    rw [if_pos rfl]
    obtain rfl := Option.some.inj (hkl.symm.trans hql)
    exact Go.Maps.atKey_put_same hD ((Keyed.of_law C.law).key hkl) _ _
  · rw [if_neg e, Go.Maps.atKey_put_other (fun e2 => e ?_) _ _]
    · exact h2 q ql hq hql
    · subst e2
      have := C.law.inj hql hkl
      simp only [kval, Value.agg.injEq, Array.mk.injEq, List.cons.injEq, Value.int.injEq, true_and, and_true] at this
      exact Prod.ext this.1 this.2

theorem grownBy_setBlock {w : World} {b : Nat} {o : Obj} : w.grownBy (setBlock w b o) (some b) :=
  ⟨rfl, rfl, rfl, by simp [setBlock], fun i _ hi => by
    show (w.heap.setIfInBounds b o)[i]? = _
    rw [Array.getElem?_setIfInBounds_ne (fun e => hi (by rw [e]))]⟩

theorem drew_grownBy {w w' : World} {r : Option Nat} (h : w.drew.grownBy w' r) : w.grownBy w' r := ⟨h.1, h.2, h.3, h.4, h.5⟩

/-- 'm[k] op= ..', as the translation has it: an entry is made, then stored into; in between the map holds what it held. -/
theorem Counts.bump (C : KeyMapT P T K E) (h : Counts P K E w b n f) (hn : n < maxLen) {k : Int × Int} (hk : inK k) :
    ∃ v0 st W1, (Instr.mapEntry T (.map (some b)) (kval k)).run P w = .ok (.tuple #[v0, .int .i64 ((st : Nat) : Int)]) W1 ∧ w.grownBy W1 (some b) ∧
      (Instr.lookup T (.map (some b)) (kval k) false).run P W1 = .ok (.int .i64 (f k)) W1 ∧
      ∀ c, (Lit.int .i64 c).wf = true → ∃ W2, (Instr.entryStore T (.map (some b)) (.int .i64 ((st : Nat) : Int)) (.int .i64 c)).run P W1 = .ok () W2 ∧ W1.grownBy W2 (some b) ∧ Counts P K E W2 b (n + 1) (fun q => if q = k then c else f q) := by
  have hC := h
  obtain ⟨D, h1, h2⟩ := h
  obtain ⟨kl, hkl⟩ := C.lit k hk
  obtain ⟨es, clock, hb, F, hs, hD⟩ := h1
  obtain ⟨v0, st, es1, clock1, hE, hv0, hS⟩ := Go.WideElems.entry_then_store C.law C.ht C.zero hb F hkl
  have hb1 := heap_setBlock_same hb (.map es1 clock1)
  refine ⟨v0, st, setBlock w b (.map es1 clock1), hE, grownBy_setBlock, ?_, fun c hc => ?_⟩
  · have hfk := hC.lookup C hk
    rcases C.law.find w hkl es.toList F.keys with ⟨g1, g2⟩ | ⟨j, e0, g1, g2, g3⟩
    · obtain ⟨w', hrun, hc', _⟩ := hC.update C hn hk (c := 0) (by decide)
      have hz : f k = 0 := by
        have := hfk
        simp [Instr.lookup, run_underlying C.ht, MapKept.run_getObj_map hb, C.law.check w es.isEmpty hkl, g1, C.zero, Result.andThen] at this
        exact this.symm
      simp [Instr.mapEntry, run_underlying C.ht, MapKept.run_getObj_map hb, C.law.check w false hkl, g1, C.zero, MapKept.run_setObj_map _ hb, Result.andThen] at hE
      simp [Instr.mapUpdate, run_underlying C.ht, MapKept.run_getObj_map hb, C.law.check w false hkl, g1, MapKept.run_setObj_map _ hb, Result.andThen] at hrun
      rw [← hE.2, hrun, hz]
      have := hc'.lookup C hk
      simpa using this
    · have hj : es[j]? = some e0 := by simpa using g2
      have hsame : es.modify j (fun e => { e with key := kval k }) = es := by
        apply Array.ext'
        rw [Array.toList_modify]
        apply List.ext_getElem?
        intro i
        rw [List.getElem?_modify]
        by_cases e : j = i
        · subst e
          rw [g2]
          simp [← g3]
        · simp [e]
      simp [Instr.mapEntry, run_underlying C.ht, MapKept.run_getObj_map hb, C.law.check w false hkl, g1, hj, g3, C.law.stays w hkl, hsame, MapKept.run_setObj_map _ hb, Result.andThen] at hE
      rw [← hE.2]
      refine (Counts.block (w' := _) hC ?_).lookup C hk
      show (w.heap.setIfInBounds b _)[b]? = _
      rw [hb]
      have hlt : b < w.heap.size := (Array.getElem?_eq_some_iff.1 hb).1
      simp [hlt]
  · obtain ⟨es', clock', r1, r2⟩ := hS (setBlock w b (.map es1 clock1)) (.int .i64 c) hb1
    obtain ⟨w', hrun, hc', _⟩ := hC.update C hn hk hc
    rw [r2] at hrun
    have e : setBlock w b (.map es' clock') = w' := by injection hrun
    refine ⟨_, r1, grownBy_setBlock, hc'.block ?_⟩
    rw [← e, heap_setBlock_same hb, heap_setBlock_same hb1]
end

end Go.Proofs.Ytciolgnmdlgilaa
