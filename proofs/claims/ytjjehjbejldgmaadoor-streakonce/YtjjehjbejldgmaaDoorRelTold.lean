/-
  A region that draws its order: some operations' values are known ahead, of the others (rows that calls make, one on top of another) a condition tells, over which operations have run, the values and the world. No program stands in it.
-/
import Derived.Test.YtjjehjbejldgmaaDoorRel3
import Derived.Test.YtjjehjbejldgmaaDoorRel7
namespace Go.Proofs.YtjjehjbejldgmaaDoor
open Go.RowKit

structure ToldInv (ops : Array Oper) (a0 : Act) (vals : Nat → Value) (tells : Nat → Bool) (S : (Nat → Bool) → (Nat → Value) → World → Prop) (listed : Array Bool) (a : Act) (w : World) : Prop where
  size : a.tmps.size = a0.tmps.size
  defers : a.defers = a0.defers
  frame : ∀ t, (∀ (i : Nat) (o : Oper), ops[i]? = some o → o.dst = some t → listed.getD i false = false) → a.eval (.tmp t) = a0.eval (.tmp t)
  deps : ∀ (j : Nat) (o : Oper), ops[j]? = some o → listed.getD j false = true → ∀ e ∈ o.after, Region.binds .any e = true → listed.getD e.on false = true
  vals : ∀ i, listed.getD i false = true → tells i = false → valOf ops a i = vals i
  world : S (fun i => listed.getD i false) (valOf ops a) w

/-- What is asked of operation k: run (or passed by) in whatever order, it yields its value, if that is known, and the condition holds on. -/
def StepT (P : Program) (ops : Array Oper) (vals : Nat → Value) (tells : Nat → Bool) (S : (Nat → Bool) → (Nat → Value) → World → Prop) (k : Nat) (o : Oper) (L : Nat → Bool) (T : Nat → Value) (a : Act) (w : World) : Prop :=
  (Region.wanted o (yielded ops a.tmps) = true ∧ relUpon P (fun v w' => (tells k = false → slotV o v = vals k) ∧ S (fun i => L i || k == i) (fun i => if i = k then slotV o v else T i) w') ((execOp a.eval o).run P w)) ∨
  (Region.wanted o (yielded ops a.tmps) = false ∧ (tells k = false → vals k = undef) ∧ S (fun i => L i || k == i) (fun i => if i = k then undef else T i) w)

theorem toldInv_step {ops : Array Oper} {a0 : Act} {vals : Nat → Value} {tells : Nat → Bool} {S : (Nat → Bool) → (Nat → Value) → World → Prop} {listed : Array Bool} {a : Act} {w w' : World} {i : Nat} {o : Oper} {v : Value}
    (hdst : ∀ (i : Nat) (o : Oper) (d : Nat), ops[i]? = some o → o.dst = some d → d < a0.tmps.size)
    (hne : ∀ (i j : Nat) (oi oj : Oper) (d : Nat), ops[i]? = some oi → ops[j]? = some oj → i ≠ j → oi.dst = some d → oj.dst ≠ some d)
    (hI : ToldInv ops a0 vals tells S listed a w) (ho : ops[i]? = some o) (hl : listed.getD i true = false) (hdep : ∀ e ∈ o.after, Region.binds .any e = true → listed.getD e.on false = true)
    (hv : tells i = false → slotV o v = vals i) (hS : S (fun k => listed.getD k false || i == k) (fun k => if k = i then slotV o v else valOf ops a k) w') :
    ToldInv ops a0 vals tells S (listed.setIfInBounds i true) (a.put o.dst v) w' := by
  have hflag : (fun k => (listed.setIfInBounds i true).getD k false) = (fun k => (listed.getD k false || i == k)) := funext fun k => by
    by_cases hk : k = i
    · subst hk; rw [getD_set_same hl]; simp
    · rw [getD_set_other hk]; simp [Ne.symm hk]
  have hval : valOf ops (a.put o.dst v) = (fun k => if k = i then slotV o v else valOf ops a k) := funext fun k => by
    by_cases hki : k = i
    · subst hki
      rw [if_pos rfl]
      unfold valOf slotV
      cases hd : o.dst with
      | none => simp [ho, hd]
      | some d =>
        simp only [ho, Option.bind_some, hd]
        exact Act.eval_put_same _ _ _ (by rw [hI.size]; exact hdst k o d ho hd)
    · rw [if_neg hki]
      unfold valOf
      cases hok : ops[k]? with
      | none => rfl
      | some ok =>
        cases hdk : ok.dst with
        | none => simp [hdk]
        | some dk =>
          simp only [Option.bind_some, hdk]
          cases hd : o.dst with
          | none => rfl
          | some d => exact Act.eval_put_ne _ _ _ _ (fun e => hne i k o ok d ho hok (Ne.symm hki) hd (by rw [hdk, e]))
  refine ⟨by rw [Act.size_put]; exact hI.size, by rw [Act.defers_put']; exact hI.defers, ?_, ?_, ?_, by rw [hflag, hval]; exact hS⟩
  · intro t ht
    have hti : o.dst ≠ some t := fun hd => by
      have := ht i o ho hd
      rw [getD_set_same hl] at this
      cases this
    have e : (a.put o.dst v).eval (.tmp t) = a.eval (.tmp t) := by
      cases hd : o.dst with
      | none => rfl
      | some d => exact Act.eval_put_ne _ _ _ _ (fun e => hti (by rw [hd, e]))
    rw [e]
    refine hI.frame t fun j oj hoj hdj => ?_
    have hji : j ≠ i := fun e => by
      subst e
      rw [ho] at hoj
      cases hoj
      exact hti hdj
    have := ht j oj hoj hdj
    rwa [getD_set_other hji] at this
  · intro j oj hoj hlj e he hb
    by_cases hji : j = i
    · subst hji
      rw [ho] at hoj
      cases hoj
      by_cases hei : e.on = j
      · rw [hei]; exact getD_set_same hl
      · rw [getD_set_other hei]; exact hdep e he hb
    · rw [getD_set_other hji] at hlj
      by_cases hei : e.on = i
      · rw [hei]; exact getD_set_same hl
      · rw [getD_set_other hei]; exact hI.deps j oj hoj hlj e he hb
  · intro k hk ht
    rw [hval]
    by_cases hki : k = i
    · subst hki
      show (if k = k then _ else _) = _
      rw [if_pos rfl]
      exact hv ht
    · rw [getD_set_other hki] at hk
      show (if k = i then _ else _) = _
      rw [if_neg hki]
      exact hI.vals k hk ht

/-- The operations' own obligations, one by one in the text's order. -/
def stepsT (P : Program) (ops : Array Oper) (a0 : Act) (vals : Nat → Value) (tells : Nat → Bool) (S : (Nat → Bool) → (Nat → Value) → World → Prop) : Nat → List Oper → Prop
  | _, [] => True
  | k, o :: r => (∀ a w L T, FrameAt .any ops a0 a k → (∀ e ∈ o.after, Region.binds .any e = true → tells e.on = false → valOf ops a e.on = vals e.on) → (∀ e ∈ o.after, Region.binds .any e = true → valOf ops a e.on = T e.on) → (∀ e ∈ o.after, Region.binds .any e = true → L e.on = true) → L k = false → S L T w → StepT P ops vals tells S k o L T a w) ∧ stepsT P ops a0 vals tells S (k + 1) r
theorem stepsT_at {P : Program} {ops : Array Oper} {a0 : Act} {vals : Nat → Value} {tells : Nat → Bool} {S : (Nat → Bool) → (Nat → Value) → World → Prop} : ∀ (l : List Oper) (k : Nat), stepsT P ops a0 vals tells S k l →
    ∀ (i : Nat) (o : Oper), l[i]? = some o → ∀ a w L T, FrameAt .any ops a0 a (k + i) → (∀ e ∈ o.after, Region.binds .any e = true → tells e.on = false → valOf ops a e.on = vals e.on) → (∀ e ∈ o.after, Region.binds .any e = true → valOf ops a e.on = T e.on) → (∀ e ∈ o.after, Region.binds .any e = true → L e.on = true) → L (k + i) = false → S L T w → StepT P ops vals tells S (k + i) o L T a w
  | [], _, _, i, o, h => by simp at h
  | o' :: r, k, hs, 0, o, h => by simp at h; subst h; exact hs.1
  | o' :: r, k, hs, i + 1, o, h => by
    have := stepsT_at r (k + 1) hs.2 i o (by simpa using h)
    rw [show k + (i + 1) = k + 1 + i by omega]
    exact this

theorem wp_region_told {P : Program} {id : Nat} {l : List Oper} {Q : Exit → Act → World → Prop} {a0 : Act} {w0 : World} (vals : List Value) (told : List Nat) (S : (Nat → Bool) → (Nat → Value) → World → Prop)
    (hm : P.follows .mixedOrders = true) (hB : relB3 a0.tmps.size l = true) (h0 : ∀ T, S (fun _ => false) T { w0 with drawn := w0.drawn + 1 })
    (hstep : stepsT P l.toArray a0 (fun i => vals.getD i undef) (fun i => told.contains i) S 0 l)
    (hend : ∀ (vs : Nat → Value) (L : Nat → Bool) w, (∀ i, i < l.length → L i = true) → (∀ i, i < l.length → told.contains i = false → vs i = vals.getD i undef) → S L vs w → Q .normal (putsV a0 (dstsV vs 0 l)) w) :
    (Code.region id l.toArray true).wp P Q a0 w0 := by
  have hB' := hB
  simp only [relB3, Bool.and_eq_true, List.all_eq_true, decide_eq_true_eq] at hB
  obtain ⟨⟨h1, h2⟩, h3⟩ := hB
  have hget : ∀ (i : Nat) (o : Oper), l.toArray[i]? = some o → l[i]? = some o := fun i o h => by simpa using h
  have hd : ∀ (i : Nat) (o : Oper) (d : Nat), l.toArray[i]? = some o → o.dst = some d → d < a0.tmps.size := fun i o d ho hd => by
    have := h1 o (List.mem_of_getElem? (hget i o ho))
    rw [hd] at this
    simpa using this
  have hne : ∀ (i j : Nat) (oi oj : Oper) (d : Nat), l.toArray[i]? = some oi → l.toArray[j]? = some oj → i ≠ j → oi.dst = some d → oj.dst ≠ some d := fun i j oi oj d hi hj => filterMap_nodup h2 i j oi oj d (hget i oi hi) (hget j oj hj)
  refine wp_region_any hm (wpAny_inv (ToldInv l.toArray a0 (fun i => vals.getD i undef) (fun i => told.contains i) S) ?_ ?_ ?_ _ _ _ _ (by simp) (by simp) ?_)
  · intro i o ho e he hb
    have hi' := hget i o ho
    have := h3 (o, i) (by rw [List.mem_zipIdx_iff_getElem?]; exact hi')
    rw [Array.all_eq_true_iff_forall_mem] at this
    have h := this e he
    rw [hb] at h
    simpa using h
  · intro listed i o a w ho hsz hI hl hdep
    have hlf := getD_true_false hl
    have hFA : FrameAt .any l.toArray a0 a i := fun t ht => hI.frame t fun j oj hoj hdj => by
      obtain ⟨e, he, hb, hon⟩ := ht j oj hoj hdj
      cases hlj : listed.getD j false with
      | false => rfl
      | true =>
        have := hI.deps j oj hoj hlj e he hb
        rw [hon, hlf] at this
        cases this
    have hst := stepsT_at l 0 hstep i o (hget i o ho) a w (fun i => listed.getD i false) (valOf l.toArray a) (by rw [Nat.zero_add]; exact hFA) (fun e he hb ht => hI.vals e.on (hdep e he hb) ht) (fun _ _ _ => rfl) (fun e he hb => hdep e he hb) (by rw [Nat.zero_add]; exact hlf) hI.world
    rw [Nat.zero_add] at hst
    rcases hst with ⟨hw, hrun⟩ | ⟨hw, hu, hS⟩
    · refine .inl ⟨hw, ?_⟩
      revert hrun
      generalize (execOp a.eval o).run P w = r
      intro hrun
      cases r with
      | ok n w' =>
        cases n <;> simp only [relUpon] at hrun ⊢
        case value u => exact toldInv_step hd hne hI ho hl hdep hrun.1 hrun.2
        case skip => exact toldInv_step hd hne hI ho hl hdep hrun.1 hrun.2
        case enter f args => exact hrun.mono fun e w'' ⟨v, he, h1, h2⟩ => ⟨v, he, toldInv_step hd hne hI ho hl hdep h1 h2⟩
      | halt x w' => simp only [relUpon] at hrun
    · have hz : slotV o undef = undef := by unfold slotV; split <;> rfl
      refine .inr ⟨hw, toldInv_step hd hne hI ho hl hdep (fun ht => ?_) ?_⟩
      · rw [hz]; exact (hu ht).symm
      · rw [hz]; exact hS
  · intro listed a w hall hI
    have e : a = putsV a0 (dstsV (valOf l.toArray a) 0 l) := by
      refine act_puts3 _ _ hI.size hI.defers (fun x hx d hxd => ?_) (fun t ht => hI.frame t fun i o ho hod => ?_)
      · obtain ⟨i, o, ho, rfl⟩ := dstsV_mem hx
        refine ⟨hd i o d (by simpa using ho) hxd, ?_⟩
        have hod : o.dst = some d := hxd
        rw [Nat.zero_add]
        show a.eval (.tmp d) = valOf l.toArray a i
        unfold valOf
        rw [show l.toArray[i]? = some o by simpa using ho, Option.bind_some, hod]
      · exact absurd hod (ht _ (dstsV_of (k := 0) (show l[i]? = some o by simpa using hget i o ho)))
    rw [e]
    exact hend (valOf l.toArray a) _ w (fun i hi => hall i (by simpa using hi)) (fun i hi ht => hI.vals i (hall i (by simpa using hi)) ht) hI.world
  · have hz : ∀ k, (Array.replicate l.toArray.size false).getD k false = false := fun k => by
      simp [Array.getD, Array.getElem_replicate]
    refine ⟨rfl, rfl, fun _ _ => rfl, fun j o _ hlj => ?_, fun i hi => ?_, ?_⟩
    · rw [hz] at hlj; cases hlj
    · rw [hz] at hi; cases hi
    · rw [show (fun i => (Array.replicate l.toArray.size false).getD i false) = (fun _ => false) from funext hz]
      exact h0 _

end Go.Proofs.YtjjehjbejldgmaaDoor
