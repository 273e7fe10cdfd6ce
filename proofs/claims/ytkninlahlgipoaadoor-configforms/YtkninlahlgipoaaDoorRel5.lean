/-
  As Rel3, for regions in which memory is made and then written: besides the relation of worlds, something is told of the world that hangs on which operations have run. No program stands in it.
-/
import Derived.Test.YtkninlahlgipoaaDoorRel3
namespace Go.Proofs.YtkninlahlgipoaaDoor
open Go.RowKit

def StepJ (P : Program) (ops : Array Oper) (E : World → World → Prop) (V : Nat → Value → World → Prop) (J : Array Bool → World → Prop) (listed : Array Bool) (i : Nat) (o : Oper) (a : Act) (w : World) : Prop :=
  (Region.wanted o (yielded ops a.tmps) = true ∧ relUpon P (fun v w' => E w w' ∧ V i (slotV o v) w' ∧ J (listed.setIfInBounds i true) w') ((execOp a.eval o).run P w)) ∨ (Region.wanted o (yielded ops a.tmps) = false ∧ E w w ∧ V i undef w ∧ J (listed.setIfInBounds i true) w)

theorem wpAny_rel5 {P : Program} {md : Region.Mode} {ops : Array Oper} {Q : Exit → Act → World → Prop} (E : World → World → Prop) (V : Nat → Value → World → Prop) (J : Array Bool → World → Prop) (a0 : Act)
    (hstab : ∀ i v w w', V i v w → E w w' → V i v w')
    (hdst : ∀ (i : Nat) (o : Oper) (d : Nat), ops[i]? = some o → o.dst = some d → d < a0.tmps.size)
    (hne : ∀ (i j : Nat) (oi oj : Oper) (d : Nat), ops[i]? = some oi → ops[j]? = some oj → i ≠ j → oi.dst = some d → oj.dst ≠ some d)
    (hord : ∀ (i : Nat) (o : Oper), ops[i]? = some o → ∀ e ∈ o.after, Region.binds md e = true → e.on < i)
    (hstep : ∀ (listed : Array Bool) (i : Nat) (o : Oper) (a : Act) (w : World), ops[i]? = some o → FrameAt md ops a0 a i → listed.size = ops.size → J listed w → listed.getD i true = false → (∀ e ∈ o.after, Region.binds md e = true → listed.getD e.on false = true ∧ V e.on (valOf ops a e.on) w) → StepJ P ops E V J listed i o a w)
    (hend : ∀ listed a w, FrameOf ops a0 a → (∀ i, i < ops.size → listed.getD i false = true) → J listed w → (∀ i, i < ops.size → V i (valOf ops a i) w) → Q .normal a w) :
    ∀ (fuel : Nat) (listed : Array Bool) (a : Act) (w : World), listed.size = ops.size → listed.toList.count false = fuel → a.tmps.size = a0.tmps.size → a.defers = a0.defers →
      (∀ t, (∀ (i : Nat) (o : Oper), ops[i]? = some o → o.dst = some t → listed.getD i false = false) → a.eval (.tmp t) = a0.eval (.tmp t)) →
      (∀ (j : Nat) (o : Oper), ops[j]? = some o → listed.getD j false = true → ∀ e ∈ o.after, Region.binds md e = true → listed.getD e.on false = true) → J listed w →
      (∀ i, listed.getD i false = true → V i (valOf ops a i) w) → wpAny P md ops Q fuel listed a w := by
  have hall : ∀ (listed : Array Bool), listed.size = ops.size → Region.ready md ops listed = [] → ∀ i, i < ops.size → listed.getD i false = true := by
    intro listed hsz hr i
    induction i using Nat.strongRecOn with
    | ind i ih =>
      intro hi
      cases hl : listed.getD i true with
      | true => simpa [Array.getD, hsz, hi] using hl
      | false =>
        have : i ∈ Region.ready md ops listed := mem_ready.2 ⟨hl, ops[i], by simp [hi], fun e he hb => ih e.on (hord i _ (by simp [hi]) e he hb) (Nat.lt_trans (hord i _ (by simp [hi]) e he hb) hi)⟩
        rw [hr] at this
        cases this
  have hfin : ∀ (listed : Array Bool) (a : Act), listed.size = ops.size → a.tmps.size = a0.tmps.size → a.defers = a0.defers →
      (∀ t, (∀ (i : Nat) (o : Oper), ops[i]? = some o → o.dst = some t → listed.getD i false = false) → a.eval (.tmp t) = a0.eval (.tmp t)) → FrameOf ops a0 a := fun listed a _ h1 h2 h3 =>
    ⟨h1, h2, fun t ht => h3 t fun i o ho hd => absurd hd (ht i o ho)⟩
  intro fuel
  induction fuel with
  | zero =>
    intro listed a w hsz hc h1 h2 h3 h4 hE hV
    have hno : Region.ready md ops listed = [] := by
      cases hr : Region.ready md ops listed with
      | nil => rfl
      | cons j r =>
        have hj : j ∈ Region.ready md ops listed := by rw [hr]; simp
        have := (count_set (mem_ready.1 hj).1).1
        omega
    exact ⟨hno, hend listed a w (hfin listed a hsz h1 h2 h3) (hall listed hsz hno) hE fun i hi => hV i (hall listed hsz hno i hi)⟩
  | succ fuel ih =>
    intro listed a w hsz hc h1 h2 h3 h4 hE hV
    refine ⟨fun hno => hend listed a w (hfin listed a hsz h1 h2 h3) (hall listed hsz hno) hE fun i hi => hV i (hall listed hsz hno i hi), fun i hi => ?_⟩
    obtain ⟨hl, o, ho, hdep⟩ := mem_ready.1 hi
    have hlf := getD_true_false hl
    have hFA : FrameAt md ops a0 a i := fun t ht => h3 t fun j oj hoj hdj => by
      obtain ⟨e, he, hb, hon⟩ := ht j oj hoj hdj
      cases hlj : listed.getD j false with
      | false => rfl
      | true =>
        have := h4 j oj hoj hlj e he hb
        rw [hon, hlf] at this
        cases this
    have hst := hstep listed i o a w ho hFA hsz hE hl (fun e he hb => ⟨hdep e he hb, hV e.on (hdep e he hb)⟩)
    have hcs := count_set hl
    have key : ∀ v w', E w w' → V i (slotV o v) w' → J (listed.setIfInBounds i true) w' → wpAny P md ops Q fuel (listed.setIfInBounds i true) (a.put o.dst v) w' := by
      intro v w' hE' hv hJ'
      refine ih _ _ _ (by rw [hcs.2]; exact hsz) (by omega) (by rw [Act.size_put]; exact h1) (by rw [Act.defers_put']; exact h2) ?_ ?_ hJ' ?_
      · intro t ht
        have hti : o.dst ≠ some t := fun hd => by
          have := ht i o ho hd
          rw [getD_set_same hl] at this
          cases this
        have e : (a.put o.dst v).eval (.tmp t) = a.eval (.tmp t) := by
          cases hd : o.dst with
          | none => rfl
          | some d => exact Act.eval_put_ne _ _ _ _ (fun e => hti (by rw [hd, e]))
        rw [e]
        refine h3 t fun j oj hoj hdj => ?_
        have hji : j ≠ i := fun e => by
          subst e
          rw [ho] at hoj
          cases hoj
          exact hti hdj
        have := ht j oj hoj hdj
        rwa [getD_set_other hji] at this
      · intro j oj hoj hlj e he hb
        by_cases hji : j = i
        · subst hji
          rw [ho] at hoj
          cases hoj
          by_cases hei : e.on = j
          · rw [hei]; exact getD_set_same hl
          · rw [getD_set_other hei]; exact hdep e he hb
        · rw [getD_set_other hji] at hlj
          by_cases hei : e.on = i
          · rw [hei]; exact getD_set_same hl
          · rw [getD_set_other hei]; exact h4 j oj hoj hlj e he hb
      · intro k hk
        by_cases hki : k = i
        · subst hki
          have : valOf ops (a.put o.dst v) k = slotV o v := by
            unfold valOf slotV
            cases hd : o.dst with
            | none => simp [ho, hd]
            | some d =>
              simp only [ho, Option.bind_some, hd]
              exact Act.eval_put_same _ _ _ (by rw [h1]; exact hdst k o d ho hd)
          rw [this]
          exact hv
        · rw [getD_set_other hki] at hk
          have : valOf ops (a.put o.dst v) k = valOf ops a k := by
            unfold valOf
            cases hok : ops[k]? with
            | none => rfl
            | some ok =>
              cases hdk : ok.dst with
              | none => simp [hdk]
              | some dk =>
                simp only [Option.bind_some, hdk]
                cases hd : o.dst with
                | none => rfl
                | some d => exact Act.eval_put_ne _ _ _ _ (fun e => hne i k o ok d ho hok (Ne.symm hki) hd (by rw [hdk, e]))
          rw [this]
          exact hstab _ _ _ _ (hV k hk) hE'
    unfold wpOp
    simp only [ho]
    rcases hst with ⟨hw, hrun⟩ | ⟨hw, hE', hv, hJ'⟩
    · simp only [hw, if_true]
      exact .inl (wp_of_relUpon hrun fun v w' ⟨hE', hv, hJ'⟩ => key v w' hE' hv hJ')
    · rw [if_neg (by rw [hw]; simp)]
      refine key undef w hE' ?_ hJ'
      have : slotV o undef = undef := by unfold slotV; split <;> rfl
      rw [this]; exact hv

/-- The operations' own obligations, one by one in the text's order. -/
def stepsJ (P : Program) (ops : Array Oper) (a0 : Act) (E : World → World → Prop) (V : Nat → Value → World → Prop) (J : Array Bool → World → Prop) : Nat → List Oper → Prop
  | _, [] => True
  | k, o :: r => (∀ listed a w, FrameAt .any ops a0 a k → listed.size = ops.size → J listed w → listed.getD k true = false → (∀ e ∈ o.after, Region.binds .any e = true → listed.getD e.on false = true ∧ V e.on (valOf ops a e.on) w) → StepJ P ops E V J listed k o a w) ∧ stepsJ P ops a0 E V J (k + 1) r
theorem stepsJ_at {P : Program} {ops : Array Oper} {a0 : Act} {E : World → World → Prop} {V : Nat → Value → World → Prop} {J : Array Bool → World → Prop} : ∀ (l : List Oper) (k : Nat), stepsJ P ops a0 E V J k l →
    ∀ (i : Nat) (o : Oper), l[i]? = some o → ∀ listed a w, FrameAt .any ops a0 a (k + i) → listed.size = ops.size → J listed w → listed.getD (k + i) true = false → (∀ e ∈ o.after, Region.binds .any e = true → listed.getD e.on false = true ∧ V e.on (valOf ops a e.on) w) → StepJ P ops E V J listed (k + i) o a w
  | [], _, _, i, o, h => by simp at h
  | o' :: r, k, hs, 0, o, h => by simp at h; subst h; exact hs.1
  | o' :: r, k, hs, i + 1, o, h => by
    have := stepsJ_at r (k + 1) hs.2 i o (by simpa using h)
    rw [show k + (i + 1) = k + 1 + i by omega]
    exact this

/-- The whole, what comes behind with the slots laid out. -/
theorem wp_region_rel5 {P : Program} {id : Nat} {l : List Oper} {Q : Exit → Act → World → Prop} {a0 : Act} {w0 : World} (E : World → World → Prop) (V : Nat → Value → World → Prop) (J : Array Bool → World → Prop)
    (hm : P.follows .mixedOrders = true) (hB : relB3 a0.tmps.size l = true) (hJ0 : J (Array.replicate l.toArray.size false) { w0 with drawn := w0.drawn + 1 })
    (hstab : ∀ i v w w', V i v w → E w w' → V i v w') (hstep : stepsJ P l.toArray a0 E V J 0 l)
    (hend : ∀ (listed : Array Bool) (vs : Nat → Value) w, (∀ i, i < l.length → listed.getD i false = true) → J listed w → (∀ i, i < l.length → V i (vs i) w) → Q .normal (putsV a0 (dstsV vs 0 l)) w) :
    (Code.region id l.toArray true).wp P Q a0 w0 := by
  simp only [relB3, Bool.and_eq_true, List.all_eq_true, decide_eq_true_eq] at hB
  obtain ⟨⟨h1, h2⟩, h3⟩ := hB
  have hget : ∀ (i : Nat) (o : Oper), l.toArray[i]? = some o → l[i]? = some o := fun i o h => by simpa using h
  have hd : ∀ (i : Nat) (o : Oper) (d : Nat), l.toArray[i]? = some o → o.dst = some d → d < a0.tmps.size := fun i o d ho hd => by
    have := h1 o (List.mem_of_getElem? (hget i o ho))
    rw [hd] at this
    simpa using this
  refine wp_region_any hm (wpAny_rel5 E V J a0 hstab hd (fun i j oi oj d hi hj => filterMap_nodup h2 i j oi oj d (hget i oi hi) (hget j oj hj)) ?_
    (fun listed i o a w ho => by have := stepsJ_at l 0 hstep i o (hget i o ho) listed a w; simpa using this) (fun listed a w hF hAll hE hV => ?_) _ _ _ _ (by simp) (by simp) rfl rfl (fun _ _ => rfl) (fun j o _ hlj => ?_) hJ0 ?_)
  · intro i o ho e he hb
    have hi' := hget i o ho
    have := h3 (o, i) (by rw [List.mem_zipIdx_iff_getElem?]; exact hi')
    rw [Array.all_eq_true_iff_forall_mem] at this
    have h := this e he
    rw [hb] at h
    simpa using h
  · have e : a = putsV a0 (dstsV (fun i => valOf l.toArray a i) 0 l) := by
      refine act_puts3 _ _ hF.1 hF.2.1 (fun x hx d hxd => ?_) (fun t ht => hF.2.2 t fun i o ho => ?_)
      · obtain ⟨i, o, ho, rfl⟩ := dstsV_mem hx
        refine ⟨hd i o d (by simpa using ho) hxd, ?_⟩
        have hod : o.dst = some d := hxd
        unfold valOf
        rw [Nat.zero_add, show l.toArray[i]? = some o by simpa using ho, Option.bind_some, hod]
      · exact ht _ (dstsV_of (k := 0) (show l[i]? = some o by simpa using ho))
    rw [e]
    exact hend listed _ w (fun i hi => hAll i (by simpa using hi)) hE fun i hi => hV i (by simpa using hi)
  · simp [Array.getD, Array.getElem_replicate] at hlj
  · intro i hi
    simp [Array.getD, Array.getElem_replicate] at hi

end Go.Proofs.YtkninlahlgipoaaDoor
