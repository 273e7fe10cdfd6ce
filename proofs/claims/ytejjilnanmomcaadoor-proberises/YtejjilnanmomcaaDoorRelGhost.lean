/-
  As RelFlags, where what the first of the two yields (a new box's place) is not known ahead: a ghost is chosen as it runs. No program stands in it.
-/
import Derived.Test.YtejjilnanmomcaaDoorRelFlags
namespace Go.Proofs.YtejjilnanmomcaaDoor
open Go.RowKit

/-- What is asked of operation k, the ghost being g. -/
def StepG {G : Type} (P : Program) (ops : Array Oper) (vals : G → Nat → Value) (i1 i2 : Nat) (S : G → Bool → Bool → World → Prop) (k : Nat) (o : Oper) (g : G) (b1 b2 : Bool) (a : Act) (w : World) : Prop :=
  (Region.wanted o (yielded ops a.tmps) = true ∧ relUpon P (fun v w' => ∃ g', (k ≠ i1 → g' = g) ∧ slotV o v = vals g' k ∧ S g' (b1 || k == i1) (b2 || k == i2) w') ((execOp a.eval o).run P w)) ∨
  (Region.wanted o (yielded ops a.tmps) = false ∧ vals g k = undef ∧ S g (b1 || k == i1) (b2 || k == i2) w)

theorem flagInv_ghost {G : Type} {ops : Array Oper} {a0 : Act} {vals : G → Nat → Value} {i1 i2 : Nat} {S : G → Bool → Bool → World → Prop} {listed : Array Bool} {a : Act} {w : World} {g : G} (g' : G)
    (hv : ∀ g g' k, k ≠ i1 → vals g k = vals g' k) (hS : ∀ g g' b w, S g false b w → S g' false b w) (hl : listed.getD i1 false = false) (hI : FlagInv ops a0 (vals g) i1 i2 (S g) listed a w) : FlagInv ops a0 (vals g') i1 i2 (S g') listed a w :=
  ⟨hI.size, hI.defers, hI.frame, hI.deps, fun i hi => (hI.vals i hi).trans (hv g g' i fun e => by rw [e, hl] at hi; cases hi), by have := hI.world; rw [hl] at this ⊢; exact hS g g' _ _ this⟩

/-- The operations' own obligations, one by one in the text's order. -/
def stepsG {G : Type} (P : Program) (ops : Array Oper) (a0 : Act) (vals : G → Nat → Value) (i1 i2 : Nat) (S : G → Bool → Bool → World → Prop) : Nat → List Oper → Prop
  | _, [] => True
  | k, o :: r => (∀ a w g b1 b2, FrameAt .any ops a0 a k → (∀ e ∈ o.after, Region.binds .any e = true → valOf ops a e.on = vals g e.on) → (k = i1 → b1 = false) → (k = i2 → b2 = false) → (reachB ops 30 k i1 = true → b1 = true) → (reachB ops 30 k i2 = true → b2 = true) → S g b1 b2 w → StepG P ops vals i1 i2 S k o g b1 b2 a w) ∧ stepsG P ops a0 vals i1 i2 S (k + 1) r
theorem stepsG_at {G : Type} {P : Program} {ops : Array Oper} {a0 : Act} {vals : G → Nat → Value} {i1 i2 : Nat} {S : G → Bool → Bool → World → Prop} : ∀ (l : List Oper) (k : Nat), stepsG P ops a0 vals i1 i2 S k l →
    ∀ (i : Nat) (o : Oper), l[i]? = some o → ∀ a w g b1 b2, FrameAt .any ops a0 a (k + i) → (∀ e ∈ o.after, Region.binds .any e = true → valOf ops a e.on = vals g e.on) → (k + i = i1 → b1 = false) → (k + i = i2 → b2 = false) → (reachB ops 30 (k + i) i1 = true → b1 = true) → (reachB ops 30 (k + i) i2 = true → b2 = true) → S g b1 b2 w → StepG P ops vals i1 i2 S (k + i) o g b1 b2 a w
  | [], _, _, i, o, h => by simp at h
  | o' :: r, k, hs, 0, o, h => by simp at h; subst h; exact hs.1
  | o' :: r, k, hs, i + 1, o, h => by
    have := stepsG_at r (k + 1) hs.2 i o (by simpa using h)
    rw [show k + (i + 1) = k + 1 + i by omega]
    exact this

theorem wp_region_ghost {G : Type} [Inhabited G] {P : Program} {id : Nat} {l : List Oper} {Q : Exit → Act → World → Prop} {a0 : Act} {w0 : World} (vals : G → List Value) (i1 i2 : Nat) (S : G → Bool → Bool → World → Prop)
    (hv : ∀ g g' k, k ≠ i1 → (vals g).getD k undef = (vals g').getD k undef) (hSg : ∀ g g' b w, S g false b w → S g' false b w)
    (hm : P.follows .mixedOrders = true) (hB : relB3 a0.tmps.size l = true) (hi1 : i1 < l.length) (hi2 : i2 < l.length) (h0 : ∀ g, S g false false { w0 with drawn := w0.drawn + 1 })
    (hstep : stepsG P l.toArray a0 (fun g i => (vals g).getD i undef) i1 i2 S 0 l)
    (hend : ∀ g w, S g true true w → Q .normal (putsV a0 (dstsV (fun i => (vals g).getD i undef) 0 l)) w) :
    (Code.region id l.toArray true).wp P Q a0 w0 := by
  have hB' := hB
  simp only [relB3, Bool.and_eq_true, List.all_eq_true, decide_eq_true_eq] at hB
  obtain ⟨⟨h1, h2⟩, h3⟩ := hB
  have hget : ∀ (i : Nat) (o : Oper), l.toArray[i]? = some o → l[i]? = some o := fun i o h => by simpa using h
  have hd : ∀ (i : Nat) (o : Oper) (d : Nat), l.toArray[i]? = some o → o.dst = some d → d < a0.tmps.size := fun i o d ho hd => by
    have := h1 o (List.mem_of_getElem? (hget i o ho))
    rw [hd] at this
    simpa using this
  have hne : ∀ (i j : Nat) (oi oj : Oper) (d : Nat), l.toArray[i]? = some oi → l.toArray[j]? = some oj → i ≠ j → oi.dst = some d → oj.dst ≠ some d := fun i j oi oj d hi hj => filterMap_nodup h2 i j oi oj d (hget i oi hi) (hget j oj hj)
  refine wp_region_any hm (wpAny_inv (fun listed a w => ∃ g, FlagInv l.toArray a0 (fun i => (vals g).getD i undef) i1 i2 (S g) listed a w) ?_ ?_ ?_ _ _ _ _ (by simp) (by simp) ?_)
  · intro i o ho e he hb
    have hi' := hget i o ho
    have := h3 (o, i) (by rw [List.mem_zipIdx_iff_getElem?]; exact hi')
    rw [Array.all_eq_true_iff_forall_mem] at this
    have h := this e he
    rw [hb] at h
    simpa using h
  · rintro listed i o a w ho hsz ⟨g, hI⟩ hl hdep
    have hlf := getD_true_false hl
    have hFA : FrameAt .any l.toArray a0 a i := fun t ht => hI.frame t fun j oj hoj hdj => by
      obtain ⟨e, he, hb, hon⟩ := ht j oj hoj hdj
      cases hlj : listed.getD j false with
      | false => rfl
      | true =>
        have := hI.deps j oj hoj hlj e he hb
        rw [hon, hlf] at this
        cases this
    have hst := stepsG_at l 0 hstep i o (hget i o ho) a w g (listed.getD i1 false) (listed.getD i2 false) (by rw [Nat.zero_add]; exact hFA) (fun e he hb => hI.vals e.on (hdep e he hb)) (fun e => by rw [← e, Nat.zero_add]; exact hlf) (fun e => by rw [← e, Nat.zero_add]; exact hlf) (fun e => reach_listed hI.deps 30 i i1 o ho hdep (by rw [Nat.zero_add] at e; exact e)) (fun e => reach_listed hI.deps 30 i i2 o ho hdep (by rw [Nat.zero_add] at e; exact e)) hI.world
    rw [Nat.zero_add] at hst
    have go : ∀ v w', (∃ g', (i ≠ i1 → g' = g) ∧ slotV o v = (vals g').getD i undef ∧ S g' (listed.getD i1 false || i == i1) (listed.getD i2 false || i == i2) w') →
        ∃ g, FlagInv l.toArray a0 (fun i => (vals g).getD i undef) i1 i2 (S g) (listed.setIfInBounds i true) (a.put o.dst v) w' := by
      rintro v w' ⟨g', hg, h1, h2⟩
      refine ⟨g', flagInv_step (w := w) hd hne ?_ ho hl hdep h1 h2⟩
      by_cases hi : i = i1
      · exact flagInv_ghost (vals := fun g i => (vals g).getD i undef) g' hv hSg (by rw [← hi]; exact hlf) hI
      · rw [hg hi]; exact hI
    rcases hst with ⟨hw, hrun⟩ | ⟨hw, hu, hS⟩
    · refine .inl ⟨hw, ?_⟩
      revert hrun
      generalize (execOp a.eval o).run P w = r
      intro hrun
      cases r with
      | ok n w' =>
        cases n <;> simp only [relUpon] at hrun ⊢
        case value u => exact go _ _ hrun
        case skip => exact go _ _ hrun
        case enter f args => exact hrun.mono fun e w'' ⟨v, he, h1⟩ => ⟨v, he, go _ _ h1⟩
      | halt x w' => simp only [relUpon] at hrun
    · refine .inr ⟨hw, g, flagInv_step hd hne hI ho hl hdep ?_ hS⟩
      have : slotV o undef = undef := by unfold slotV; split <;> rfl
      rw [this]; exact hu.symm
  · rintro listed a w hall ⟨g, hI⟩
    have e : a = putsV a0 (dstsV (fun i => (vals g).getD i undef) 0 l) := by
      refine act_puts3 _ _ hI.size hI.defers (fun x hx d hxd => ?_) (fun t ht => hI.frame t fun i o ho hod => ?_)
      · obtain ⟨i, o, ho, rfl⟩ := dstsV_mem hx
        refine ⟨hd i o d (by simpa using ho) hxd, ?_⟩
        have hod : o.dst = some d := hxd
        have hil : i < l.length := (List.getElem?_eq_some_iff.1 ho).1
        have := hI.vals i (hall i (by simpa using hil))
        unfold valOf at this
        rw [show l.toArray[i]? = some o by simpa using ho, Option.bind_some, hod] at this
        rw [Nat.zero_add]
        exact this
      · exact absurd hod (ht _ (dstsV_of (k := 0) (show l[i]? = some o by simpa using hget i o ho)))
    have hW := hI.world
    rw [hall i1 (by simpa using hi1), hall i2 (by simpa using hi2)] at hW
    rw [e]
    exact hend g w hW
  · refine ⟨default, rfl, rfl, fun _ _ => rfl, fun j o _ hlj => ?_, fun i hi => ?_, ?_⟩
    · simp [Array.getD, Array.getElem_replicate] at hlj
    · simp [Array.getD, Array.getElem_replicate] at hi
    · have hz : ∀ k, (Array.replicate l.toArray.size false).getD k false = false := fun k => by
        simp [Array.getD, Array.getElem_replicate]
      rw [hz, hz]; exact h0 _

end Go.Proofs.YtejjilnanmomcaaDoor
