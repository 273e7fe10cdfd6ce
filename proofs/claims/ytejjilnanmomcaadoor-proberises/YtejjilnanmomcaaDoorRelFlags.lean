/-
  A region that draws its order, two of whose operations turn the world for good: each operation's value is known, and what holds of the world hangs on which of the two have run. No program stands in it.
-/
import Derived.Test.YtejjilnanmomcaaDoorRel3
import Derived.Test.YtejjilnanmomcaaDoorRel7
namespace Go.Proofs.YtejjilnanmomcaaDoor
open Go.RowKit

structure FlagInv (ops : Array Oper) (a0 : Act) (vals : Nat → Value) (i1 i2 : Nat) (S : Bool → Bool → World → Prop) (listed : Array Bool) (a : Act) (w : World) : Prop where
  size : a.tmps.size = a0.tmps.size
  defers : a.defers = a0.defers
  frame : ∀ t, (∀ (i : Nat) (o : Oper), ops[i]? = some o → o.dst = some t → listed.getD i false = false) → a.eval (.tmp t) = a0.eval (.tmp t)
  deps : ∀ (j : Nat) (o : Oper), ops[j]? = some o → listed.getD j false = true → ∀ e ∈ o.after, Region.binds .any e = true → listed.getD e.on false = true
  vals : ∀ i, listed.getD i false = true → valOf ops a i = vals i
  world : S (listed.getD i1 false) (listed.getD i2 false) w

/-- What is asked of operation k: run (or passed by) in whatever order, it yields its value, and it alone turns its own flag. -/
def StepF (P : Program) (ops : Array Oper) (vals : Nat → Value) (i1 i2 : Nat) (S : Bool → Bool → World → Prop) (k : Nat) (o : Oper) (b1 b2 : Bool) (a : Act) (w : World) : Prop :=
  (Region.wanted o (yielded ops a.tmps) = true ∧ relUpon P (fun v w' => slotV o v = vals k ∧ S (b1 || k == i1) (b2 || k == i2) w') ((execOp a.eval o).run P w)) ∨
  (Region.wanted o (yielded ops a.tmps) = false ∧ vals k = undef ∧ S (b1 || k == i1) (b2 || k == i2) w)

theorem flagInv_step {ops : Array Oper} {a0 : Act} {vals : Nat → Value} {i1 i2 : Nat} {S : Bool → Bool → World → Prop} {listed : Array Bool} {a : Act} {w w' : World} {i : Nat} {o : Oper} {v : Value}
    (hdst : ∀ (i : Nat) (o : Oper) (d : Nat), ops[i]? = some o → o.dst = some d → d < a0.tmps.size)
    (hne : ∀ (i j : Nat) (oi oj : Oper) (d : Nat), ops[i]? = some oi → ops[j]? = some oj → i ≠ j → oi.dst = some d → oj.dst ≠ some d)
    (hI : FlagInv ops a0 vals i1 i2 S listed a w) (ho : ops[i]? = some o) (hl : listed.getD i true = false) (hdep : ∀ e ∈ o.after, Region.binds .any e = true → listed.getD e.on false = true)
    (hv : slotV o v = vals i) (hS : S (listed.getD i1 false || i == i1) (listed.getD i2 false || i == i2) w') :
    FlagInv ops a0 vals i1 i2 S (listed.setIfInBounds i true) (a.put o.dst v) w' := by
  have hflag : ∀ k, (listed.setIfInBounds i true).getD k false = (listed.getD k false || i == k) := fun k => by
    by_cases hk : k = i
    · subst hk; rw [getD_set_same hl]; simp
    · rw [getD_set_other hk]; simp [Ne.symm hk]
  refine ⟨by rw [Act.size_put]; exact hI.size, by rw [Act.defers_put']; exact hI.defers, ?_, ?_, ?_, by rw [hflag, hflag]; exact hS⟩
  · intro t ht
    have hti : o.dst ≠ some t := fun hd => by
      have := ht i o ho hd
      rw [getD_set_same hl] at this
      cases this
    have e : (a.put o.dst v).eval (.tmp t) = a.eval (.tmp t) := by
      cases hd : o.dst with
      | none => rfl
      | some d => exact Act.eval_put_ne _ _ _ _ (fun e => hti (by rw [hd, e]))
    rw [e]
    refine hI.frame t fun j oj hoj hdj => ?_
    have hji : j ≠ i := fun e => by
      subst e
      rw [ho] at hoj
      cases hoj
      exact hti hdj
    have := ht j oj hoj hdj
    rwa [getD_set_other hji] at this
  · intro j oj hoj hlj e he hb
    by_cases hji : j = i
    · subst hji
      rw [ho] at hoj
      cases hoj
      by_cases hei : e.on = j
      · rw [hei]; exact getD_set_same hl
      · rw [getD_set_other hei]; exact hdep e he hb
    · rw [getD_set_other hji] at hlj
      by_cases hei : e.on = i
      · rw [hei]; exact getD_set_same hl
      · rw [getD_set_other hei]; exact hI.deps j oj hoj hlj e he hb
  · intro k hk
    by_cases hki : k = i
    · subst hki
      have : valOf ops (a.put o.dst v) k = slotV o v := by
        unfold valOf slotV
        cases hd : o.dst with
        | none => simp [ho, hd]
        | some d =>
          simp only [ho, Option.bind_some, hd]
          exact Act.eval_put_same _ _ _ (by rw [hI.size]; exact hdst k o d ho hd)
      rw [this]
      exact hv
    · rw [getD_set_other hki] at hk
      have : valOf ops (a.put o.dst v) k = valOf ops a k := by
        unfold valOf
        cases hok : ops[k]? with
        | none => rfl
        | some ok =>
          cases hdk : ok.dst with
          | none => simp [hdk]
          | some dk =>
            simp only [Option.bind_some, hdk]
            cases hd : o.dst with
            | none => rfl
            | some d => exact Act.eval_put_ne _ _ _ _ (fun e => hne i k o ok d ho hok (Ne.symm hki) hd (by rw [hdk, e]))
      rw [this]
      exact hI.vals k hk

/-- Operation k waits for operation i, at once or by way of others. -/
def reachB (ops : Array Oper) : Nat → Nat → Nat → Bool
  | 0, _, _ => false
  | f + 1, k, i => match ops[k]? with
    | none => false
    | some o => o.after.any fun e => Region.binds .any e && (e.on == i || reachB ops f e.on i)
theorem reach_listed {ops : Array Oper} {listed : Array Bool} (hdeps : ∀ (j : Nat) (o : Oper), ops[j]? = some o → listed.getD j false = true → ∀ e ∈ o.after, Region.binds .any e = true → listed.getD e.on false = true) :
    ∀ (f k i : Nat) (o : Oper), ops[k]? = some o → (∀ e ∈ o.after, Region.binds .any e = true → listed.getD e.on false = true) → reachB ops f k i = true → listed.getD i false = true := by
  intro f
  induction f with
  | zero => intro k i o _ _ h; simp [reachB] at h
  | succ f ih =>
    intro k i o ho hd h
    unfold reachB at h
    rw [ho] at h
    obtain ⟨m, hm, h1⟩ := Array.any_eq_true.1 h
    simp only [Bool.and_eq_true, Bool.or_eq_true, beq_iff_eq] at h1
    obtain ⟨hb, h2⟩ := h1
    have hl := hd _ (Array.getElem_mem hm) hb
    rcases h2 with h2 | h2
    · rw [← h2]; exact hl
    · cases hk : ops[(o.after[m]).on]? with
      | none =>
        cases f with
        | zero => simp [reachB] at h2
        | succ f => unfold reachB at h2; rw [hk] at h2; cases h2
      | some o' => exact ih _ i o' hk (hdeps _ o' hk hl) h2

/-- The operations' own obligations, one by one in the text's order. -/
def stepsF (P : Program) (ops : Array Oper) (a0 : Act) (vals : Nat → Value) (i1 i2 : Nat) (S : Bool → Bool → World → Prop) : Nat → List Oper → Prop
  | _, [] => True
  | k, o :: r => (∀ a w b1 b2, FrameAt .any ops a0 a k → (∀ e ∈ o.after, Region.binds .any e = true → valOf ops a e.on = vals e.on) → (k = i1 → b1 = false) → (k = i2 → b2 = false) → (reachB ops 30 k i1 = true → b1 = true) → (reachB ops 30 k i2 = true → b2 = true) → S b1 b2 w → StepF P ops vals i1 i2 S k o b1 b2 a w) ∧ stepsF P ops a0 vals i1 i2 S (k + 1) r
theorem stepsF_at {P : Program} {ops : Array Oper} {a0 : Act} {vals : Nat → Value} {i1 i2 : Nat} {S : Bool → Bool → World → Prop} : ∀ (l : List Oper) (k : Nat), stepsF P ops a0 vals i1 i2 S k l →
    ∀ (i : Nat) (o : Oper), l[i]? = some o → ∀ a w b1 b2, FrameAt .any ops a0 a (k + i) → (∀ e ∈ o.after, Region.binds .any e = true → valOf ops a e.on = vals e.on) → (k + i = i1 → b1 = false) → (k + i = i2 → b2 = false) → (reachB ops 30 (k + i) i1 = true → b1 = true) → (reachB ops 30 (k + i) i2 = true → b2 = true) → S b1 b2 w → StepF P ops vals i1 i2 S (k + i) o b1 b2 a w
  | [], _, _, i, o, h => by simp at h
  | o' :: r, k, hs, 0, o, h => by simp at h; subst h; exact hs.1
  | o' :: r, k, hs, i + 1, o, h => by
    have := stepsF_at r (k + 1) hs.2 i o (by simpa using h)
    rw [show k + (i + 1) = k + 1 + i by omega]
    exact this

theorem wp_region_flags {P : Program} {id : Nat} {l : List Oper} {Q : Exit → Act → World → Prop} {a0 : Act} {w0 : World} (vals : List Value) (i1 i2 : Nat) (S : Bool → Bool → World → Prop)
    (hm : P.follows .mixedOrders = true) (hB : relB3 a0.tmps.size l = true) (hi1 : i1 < l.length) (hi2 : i2 < l.length) (h0 : S false false { w0 with drawn := w0.drawn + 1 })
    (hstep : stepsF P l.toArray a0 (fun i => vals.getD i undef) i1 i2 S 0 l)
    (hend : ∀ w, S true true w → Q .normal (putsV a0 (dstsV (fun i => vals.getD i undef) 0 l)) w) :
    (Code.region id l.toArray true).wp P Q a0 w0 := by
  have hB' := hB
  simp only [relB3, Bool.and_eq_true, List.all_eq_true, decide_eq_true_eq] at hB
  obtain ⟨⟨h1, h2⟩, h3⟩ := hB
  have hget : ∀ (i : Nat) (o : Oper), l.toArray[i]? = some o → l[i]? = some o := fun i o h => by simpa using h
  have hd : ∀ (i : Nat) (o : Oper) (d : Nat), l.toArray[i]? = some o → o.dst = some d → d < a0.tmps.size := fun i o d ho hd => by
    have := h1 o (List.mem_of_getElem? (hget i o ho))
    rw [hd] at this
    simpa using this
  have hne : ∀ (i j : Nat) (oi oj : Oper) (d : Nat), l.toArray[i]? = some oi → l.toArray[j]? = some oj → i ≠ j → oi.dst = some d → oj.dst ≠ some d := fun i j oi oj d hi hj => filterMap_nodup h2 i j oi oj d (hget i oi hi) (hget j oj hj)
  refine wp_region_any hm (wpAny_inv (FlagInv l.toArray a0 (fun i => vals.getD i undef) i1 i2 S) ?_ ?_ ?_ _ _ _ _ (by simp) (by simp) ?_)
  · intro i o ho e he hb
    have hi' := hget i o ho
    have := h3 (o, i) (by rw [List.mem_zipIdx_iff_getElem?]; exact hi')
    rw [Array.all_eq_true_iff_forall_mem] at this
    have h := this e he
    rw [hb] at h
    simpa using h
  · intro listed i o a w ho hsz hI hl hdep
    have hlf := getD_true_false hl
    have hFA : FrameAt .any l.toArray a0 a i := fun t ht => hI.frame t fun j oj hoj hdj => by
      obtain ⟨e, he, hb, hon⟩ := ht j oj hoj hdj
      cases hlj : listed.getD j false with
      | false => rfl
      | true =>
        have := hI.deps j oj hoj hlj e he hb
        rw [hon, hlf] at this
        cases this
    have hst := stepsF_at l 0 hstep i o (hget i o ho) a w (listed.getD i1 false) (listed.getD i2 false) (by rw [Nat.zero_add]; exact hFA) (fun e he hb => hI.vals e.on (hdep e he hb)) (fun e => by rw [← e, Nat.zero_add]; exact hlf) (fun e => by rw [← e, Nat.zero_add]; exact hlf) (fun e => reach_listed hI.deps 30 i i1 o ho hdep (by rw [Nat.zero_add] at e; exact e)) (fun e => reach_listed hI.deps 30 i i2 o ho hdep (by rw [Nat.zero_add] at e; exact e)) hI.world
    rw [Nat.zero_add] at hst
    rcases hst with ⟨hw, hrun⟩ | ⟨hw, hu, hS⟩
    · refine .inl ⟨hw, ?_⟩
      revert hrun
      generalize (execOp a.eval o).run P w = r
      intro hrun
      cases r with
      | ok n w' =>
        cases n <;> simp only [relUpon] at hrun ⊢
        case value u => exact flagInv_step hd hne hI ho hl hdep hrun.1 hrun.2
        case skip => exact flagInv_step hd hne hI ho hl hdep hrun.1 hrun.2
        case enter f args => exact hrun.mono fun e w'' ⟨v, he, h1, h2⟩ => ⟨v, he, flagInv_step hd hne hI ho hl hdep h1 h2⟩
      | halt x w' => simp only [relUpon] at hrun
    · refine .inr ⟨hw, flagInv_step hd hne hI ho hl hdep ?_ hS⟩
      have : slotV o undef = undef := by unfold slotV; split <;> rfl
      rw [this]; exact hu.symm
  · intro listed a w hall hI
    have e : a = putsV a0 (dstsV (fun i => vals.getD i undef) 0 l) := by
      refine act_puts3 _ _ hI.size hI.defers (fun x hx d hxd => ?_) (fun t ht => hI.frame t fun i o ho hod => ?_)
      · obtain ⟨i, o, ho, rfl⟩ := dstsV_mem hx
        refine ⟨hd i o d (by simpa using ho) hxd, ?_⟩
        have hod : o.dst = some d := hxd
        have hil : i < l.length := (List.getElem?_eq_some_iff.1 ho).1
        have := hI.vals i (hall i (by simpa using hil))
        unfold valOf at this
        rw [show l.toArray[i]? = some o by simpa using ho, Option.bind_some, hod] at this
        rw [Nat.zero_add]
        exact this
      · exact absurd hod (ht _ (dstsV_of (k := 0) (show l[i]? = some o by simpa using hget i o ho)))
    have hW := hI.world
    rw [hall i1 (by simpa using hi1), hall i2 (by simpa using hi2)] at hW
    rw [e]
    exact hend w hW
  · refine ⟨rfl, rfl, fun _ _ => rfl, fun j o _ hlj => ?_, fun i hi => ?_, ?_⟩
    · simp [Array.getD, Array.getElem_replicate] at hlj
    · simp [Array.getD, Array.getElem_replicate] at hi
    · have hz : ∀ k, (Array.replicate l.toArray.size false).getD k false = false := fun k => by
        simp [Array.getD, Array.getElem_replicate]
      rw [hz, hz]; exact h0

end Go.Proofs.YtejjilnanmomcaaDoor
