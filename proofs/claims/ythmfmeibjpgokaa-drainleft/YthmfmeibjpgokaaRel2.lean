/-
  As Rel, for regions some of whose operations are not wanted (behind '&&' and '||'), and whose calls may write what the caller owns: the class of worlds is any relation that goes on. No program stands in it.
-/
import Derived.Test.YthmfmeibjpgokaaRel
namespace Go.Proofs.Ythmfmeibjpgokaa
open Go.RowKit

/-- What is asked of one operation: it is wanted, and its run is as told; or it is not wanted, and its slot is not set. -/
def StepOk (P : Program) (ops : Array Oper) (E : World → World → Prop) (V : Nat → Value → World → Prop) (i : Nat) (o : Oper) (a : Act) (w : World) : Prop :=
  (Region.wanted o (yielded ops a.tmps) = true ∧ relUpon P (fun v w' => E w w' ∧ V i v w') ((execOp a.eval o).run P w)) ∨ (Region.wanted o (yielded ops a.tmps) = false ∧ V i undef w)

theorem wpAny_rel2 {P : Program} {md : Region.Mode} {ops : Array Oper} {Q : Exit → Act → World → Prop} (E : World → World → Prop) (V : Nat → Value → World → Prop) (a0 : Act) (w0 : World)
    (hrf : ∀ w, E w w) (htr : ∀ w w' w'', E w w' → E w' w'' → E w w'') (hstab : ∀ i v w w', V i v w → E w w' → V i v w')
    (hdst : ∀ (i : Nat) (o : Oper), ops[i]? = some o → ∃ d, o.dst = some d ∧ d < a0.tmps.size)
    (hne : ∀ (i j : Nat) (oi oj : Oper), ops[i]? = some oi → ops[j]? = some oj → i ≠ j → oi.dst ≠ oj.dst)
    (hord : ∀ (i : Nat) (o : Oper), ops[i]? = some o → ∀ e ∈ o.after, e.on < i)
    (hstep : ∀ (i : Nat) (o : Oper) (a : Act) (w : World), ops[i]? = some o → FrameOf ops a0 a → E w0 w → (∀ e ∈ o.after, Region.binds md e = true → V e.on (valOf ops a e.on) w) →
      StepOk P ops E V i o a w)
    (hend : ∀ a w, FrameOf ops a0 a → E w0 w → (∀ i, i < ops.size → V i (valOf ops a i) w) → Q .normal a w) :
    ∀ (fuel : Nat) (listed : Array Bool) (a : Act) (w : World), listed.size = ops.size → listed.toList.count false = fuel → FrameOf ops a0 a → E w0 w →
      (∀ i, listed.getD i false = true → V i (valOf ops a i) w) → wpAny P md ops Q fuel listed a w := by
  have hall : ∀ (listed : Array Bool), listed.size = ops.size → Region.ready md ops listed = [] → ∀ i, i < ops.size → listed.getD i false = true := by
    intro listed hsz hr i
    induction i using Nat.strongRecOn with
    | ind i ih =>
      intro hi
      cases hl : listed.getD i true with
      | true => simpa [Array.getD, hsz, hi] using hl
      | false =>
        have : i ∈ Region.ready md ops listed := mem_ready.2 ⟨hl, ops[i], by simp [hi], fun e he _ => ih e.on (hord i _ (by simp [hi]) e he) (Nat.lt_trans (hord i _ (by simp [hi]) e he) hi)⟩
        rw [hr] at this
        cases this
  intro fuel
  induction fuel with
  | zero =>
    intro listed a w hsz hc hF hE hV
    have hno : Region.ready md ops listed = [] := by
      cases hr : Region.ready md ops listed with
      | nil => rfl
      | cons j r =>
        have hj : j ∈ Region.ready md ops listed := by rw [hr]; simp
        have := (count_set (mem_ready.1 hj).1).1
        omega
    exact ⟨hno, hend a w hF hE fun i hi => hV i (hall listed hsz hno i hi)⟩
  | succ fuel ih =>
    intro listed a w hsz hc hF hE hV
    refine ⟨fun hno => hend a w hF hE fun i hi => hV i (hall listed hsz hno i hi), fun i hi => ?_⟩
    obtain ⟨hl, o, ho, hdep⟩ := mem_ready.1 hi
    have hst := hstep i o a w ho hF hE (fun e he hb => hV e.on (hdep e he hb))
    obtain ⟨d, hd, hlt⟩ := hdst i o ho
    have hcs := count_set hl
    have hds : d < a.tmps.size := by rw [hF.1]; exact hlt
    have key : ∀ v w', E w w' → V i v w' → wpAny P md ops Q fuel (listed.setIfInBounds i true) (a.put (some d) v) w' := by
      intro v w' hE' hv
      refine ih _ _ _ (by rw [hcs.2]; exact hsz) (by omega) ⟨?_, ?_, ?_⟩ (htr _ _ _ hE hE') ?_
      · rw [Act.size_put]; exact hF.1
      · rw [Act.defers_put']; exact hF.2.1
      · intro t ht
        rw [Act.eval_put_ne _ _ _ _ (fun e => ht i o ho (by rw [hd, e]))]
        exact hF.2.2 t ht
      · intro k hk
        by_cases hki : k = i
        · subst hki
          have : valOf ops (a.put (some d) v) k = v := by unfold valOf; simp only [ho, Option.bind_some, hd]; exact Act.eval_put_same _ _ _ hds
          rw [this]
          exact hv
        · have hk' : listed.getD k false = true := by
            simp only [Array.getD_eq_getD_getElem?, Array.getElem?_setIfInBounds_ne (Ne.symm hki)] at hk ⊢
            exact hk
          have : valOf ops (a.put (some d) v) k = valOf ops a k := by
            unfold valOf
            cases hok : ops[k]? with
            | none => rfl
            | some ok =>
              cases hdk : ok.dst with
              | none => simp [hdk]
              | some dk =>
                simp only [Option.bind_some, hdk]
                exact Act.eval_put_ne _ _ _ _ (fun e => hne i k o ok ho hok (Ne.symm hki) (by rw [hd, hdk, e]))
          rw [this]
          exact hstab _ _ _ _ (hV k hk') hE'
    unfold wpOp
    simp only [ho]
    rcases hst with ⟨hw, hrun⟩ | ⟨hw, hv⟩
    · simp only [hw, if_true]
      refine .inl (wp_of_relUpon hrun fun v w' ⟨hE', hv⟩ => ?_)
      rw [hd]
      exact key v w' hE' hv
    · rw [if_neg (by rw [hw]; simp), hd]
      exact key undef w (hrf w) hv

theorem wp_region_rel2 {P : Program} {id : Nat} {l : List Oper} {Q : Exit → Act → World → Prop} {a0 : Act} {w0 : World} (E : World → World → Prop) (V : Nat → Value → World → Prop)
    (hm : P.follows .mixedOrders = true) (hB : relB a0.tmps.size l = true)
    (hE0 : E w0 { w0 with drawn := w0.drawn + 1 }) (hrf : ∀ w, E w w) (htr : ∀ w w' w'', E w w' → E w' w'' → E w w'') (hstab : ∀ i v w w', V i v w → E w w' → V i v w')
    (hstep : ∀ (i : Nat) (o : Oper) (a : Act) (w : World), l.toArray[i]? = some o → FrameOf l.toArray a0 a → E w0 w → (∀ e ∈ o.after, Region.binds .any e = true → V e.on (valOf l.toArray a e.on) w) →
      StepOk P l.toArray E V i o a w)
    (hend : ∀ a w, FrameOf l.toArray a0 a → E w0 w → (∀ i, i < l.length → V i (valOf l.toArray a i) w) → Q .normal a w) :
    (Code.region id l.toArray true).wp P Q a0 w0 := by
  simp only [relB, Bool.and_eq_true, List.all_eq_true, decide_eq_true_eq] at hB
  obtain ⟨⟨h1, h2⟩, h3⟩ := hB
  have hget : ∀ (i : Nat) (o : Oper), l.toArray[i]? = some o → l[i]? = some o := fun i o h => by simpa using h
  refine wp_region_any hm (wpAny_rel2 E V a0 w0 hrf htr hstab ?_ ?_ ?_ hstep (by simpa using hend) _ _ _ _ (by simp) (by simp) ⟨rfl, rfl, fun _ _ => rfl⟩ hE0 ?_)
  · intro i o ho
    have := h1 o (List.mem_of_getElem? (hget i o ho))
    cases hd : o.dst with
    | none => rw [hd] at this; cases this
    | some d => rw [hd] at this; exact ⟨d, rfl, by simpa using this⟩
  · intro i j oi oj hi hj hij he
    have hi' := hget i oi hi
    have hj' := hget j oj hj
    have li : i < (l.map (·.dst)).length := by rw [List.length_map]; exact (List.getElem?_eq_some_iff.1 hi').1
    have lj : j < (l.map (·.dst)).length := by rw [List.length_map]; exact (List.getElem?_eq_some_iff.1 hj').1
    refine hij ((List.getElem_inj (h₀ := li) (h₁ := lj) h2).1 ?_)
    rw [List.getElem_map, List.getElem_map, (List.getElem?_eq_some_iff.1 hi').2, (List.getElem?_eq_some_iff.1 hj').2, he]
  · intro i o ho e he
    have hi' := hget i o ho
    have := h3 (o, i) (by rw [List.mem_zipIdx_iff_getElem?]; exact hi')
    rw [Array.all_eq_true_iff_forall_mem] at this
    simpa using this e he
  · intro i hi
    simp [Array.getD, Array.getElem_replicate] at hi

/-- The operations' own obligations, one by one in the text's order. -/
def stepsAll2 (P : Program) (ops : Array Oper) (a0 : Act) (w0 : World) (E : World → World → Prop) (V : Nat → Value → World → Prop) : Nat → List Oper → Prop
  | _, [] => True
  | k, o :: r => (∀ a w, FrameOf ops a0 a → E w0 w → (∀ e ∈ o.after, Region.binds .any e = true → V e.on (valOf ops a e.on) w) →
      StepOk P ops E V k o a w) ∧ stepsAll2 P ops a0 w0 E V (k + 1) r

theorem stepsAll2_at {P : Program} {ops : Array Oper} {a0 : Act} {w0 : World} {E : World → World → Prop} {V : Nat → Value → World → Prop} : ∀ (l : List Oper) (k : Nat), stepsAll2 P ops a0 w0 E V k l →
    ∀ (i : Nat) (o : Oper), l[i]? = some o → ∀ a w, FrameOf ops a0 a → E w0 w → (∀ e ∈ o.after, Region.binds .any e = true → V e.on (valOf ops a e.on) w) →
      StepOk P ops E V (k + i) o a w
  | [], _, _, i, o, h => by simp at h
  | o' :: r, k, hs, 0, o, h => by simp at h; subst h; exact hs.1
  | o' :: r, k, hs, i + 1, o, h => by
    have := stepsAll2_at r (k + 1) hs.2 i o (by simpa using h)
    rw [show k + (i + 1) = k + 1 + i by omega]
    exact this

/-- The whole, the operations' obligations one by one. -/
theorem wp_region_any2 {P : Program} {id : Nat} {l : List Oper} {Q : Exit → Act → World → Prop} {a0 : Act} {w0 : World} (E : World → World → Prop) (V : Nat → Value → World → Prop)
    (hm : P.follows .mixedOrders = true) (hB : relB a0.tmps.size l = true) (hE0 : E w0 { w0 with drawn := w0.drawn + 1 }) (hrf : ∀ w, E w w) (htr : ∀ w w' w'', E w w' → E w' w'' → E w w'')
    (hstab : ∀ i v w w', V i v w → E w w' → V i v w') (hstep : stepsAll2 P l.toArray a0 w0 E V 0 l)
    (hend : ∀ a w, FrameOf l.toArray a0 a → E w0 w → (∀ i, i < l.length → V i (valOf l.toArray a i) w) → Q .normal a w) :
    (Code.region id l.toArray true).wp P Q a0 w0 :=
  wp_region_rel2 E V hm hB hE0 hrf htr hstab (fun i o a w ho => by have := stepsAll2_at l 0 hstep i o (by simpa using ho) a w; simpa using this) hend

/-- Slots set, one behind the other. -/
def putsV (a : Act) (ds : List (Option Nat × Value)) : Act := ds.foldl (fun b x => b.put x.1 x.2) a
theorem act_ext {a b : Act} (hs : a.tmps.size = b.tmps.size) (hd : a.defers = b.defers) (h : ∀ t, a.eval (.tmp t) = b.eval (.tmp t)) : a = b := by
  obtain ⟨ta, da⟩ := a
  obtain ⟨tb, db⟩ := b
  simp only at hs hd
  subst hd
  congr 1
  apply Array.ext hs
  intro i h1 h2
  have := h i
  simpa [Act.eval, h1, h2] using this
theorem act_puts {a : Act} : ∀ (ds : List (Option Nat × Value)) (a0 : Act), a.tmps.size = a0.tmps.size → a.defers = a0.defers → (∀ x ∈ ds, ∃ d, x.1 = some d ∧ d < a0.tmps.size ∧ a.eval (.tmp d) = x.2) →
    (∀ t, (∀ x ∈ ds, x.1 ≠ some t) → a.eval (.tmp t) = a0.eval (.tmp t)) → a = putsV a0 ds
  | [], a0, hs, hd, _, h2 => act_ext hs hd fun t => h2 t (fun x hx => by cases hx)
  | x :: r, a0, hs, hd, h1, h2 => by
    obtain ⟨d, hxd, hlt, hv⟩ := h1 x (by simp)
    show a = putsV (a0.put x.1 x.2) r
    refine act_puts r (a0.put x.1 x.2) ?_ ?_ (fun y hy => ?_) (fun t ht => ?_)
    · rw [hxd, Act.size_put]; exact hs
    · rw [hxd, Act.defers_put']; exact hd
    · obtain ⟨e, h3, h4, h5⟩ := h1 y (by simp [hy])
      exact ⟨e, h3, by rw [hxd, Act.size_put]; exact h4, h5⟩
    · by_cases e : t = d
      · subst e
        rw [hxd, Act.eval_put_same _ _ _ hlt]; exact hv
      · rw [hxd, Act.eval_put_ne _ _ _ _ (fun h => e h.symm)]
        exact h2 t fun y hy => by
          rcases List.mem_cons.1 hy with rfl | hy
          · rw [hxd]; intro h; exact e (Option.some.inj h).symm
          · exact ht y hy

/-- The slots of a region's operations, and their values. -/
def dstsV (vs : Nat → Value) : Nat → List Oper → List (Option Nat × Value)
  | _, [] => []
  | k, o :: r => (o.dst, vs k) :: dstsV vs (k + 1) r
theorem dstsV_mem {vs : Nat → Value} : ∀ {l : List Oper} {k : Nat} {x : Option Nat × Value}, x ∈ dstsV vs k l → ∃ i o, l[i]? = some o ∧ x = (o.dst, vs (k + i))
  | [], _, _, h => by cases h
  | o :: r, k, x, h => by
    rcases List.mem_cons.1 h with rfl | h
    · exact ⟨0, o, rfl, rfl⟩
    · obtain ⟨i, o', h1, rfl⟩ := dstsV_mem h
      exact ⟨i + 1, o', by simpa using h1, by rw [show k + 1 + i = k + (i + 1) by omega]⟩
theorem dstsV_of {vs : Nat → Value} : ∀ {l : List Oper} {k i : Nat} {o : Oper}, l[i]? = some o → (o.dst, vs (k + i)) ∈ dstsV vs k l
  | [], _, i, o, h => by simp at h
  | o' :: r, k, 0, o, h => by simp at h; subst h; simp [dstsV]
  | o' :: r, k, i + 1, o, h => by
    have := dstsV_of (vs := vs) (l := r) (k := k + 1) (i := i) (o := o) (by simpa using h)
    rw [show k + (i + 1) = k + 1 + i by omega]
    exact List.mem_cons_of_mem _ this

/-- The whole, what comes behind with the slots laid out. -/
theorem wp_region_any3 {P : Program} {id : Nat} {l : List Oper} {Q : Exit → Act → World → Prop} {a0 : Act} {w0 : World} (E : World → World → Prop) (V : Nat → Value → World → Prop)
    (hm : P.follows .mixedOrders = true) (hB : relB a0.tmps.size l = true) (hE0 : E w0 { w0 with drawn := w0.drawn + 1 }) (hrf : ∀ w, E w w) (htr : ∀ w w' w'', E w w' → E w' w'' → E w w'')
    (hstab : ∀ i v w w', V i v w → E w w' → V i v w') (hstep : stepsAll2 P l.toArray a0 w0 E V 0 l)
    (hend : ∀ (vs : Nat → Value) w, E w0 w → (∀ i, i < l.length → V i (vs i) w) → Q .normal (putsV a0 (dstsV vs 0 l)) w) :
    (Code.region id l.toArray true).wp P Q a0 w0 := by
  refine wp_region_any2 E V hm hB hE0 hrf htr hstab hstep fun a w hF hE hV => ?_
  simp only [relB, Bool.and_eq_true, List.all_eq_true, decide_eq_true_eq] at hB
  obtain ⟨⟨h1, _⟩, _⟩ := hB
  have e : a = putsV a0 (dstsV (fun i => valOf l.toArray a i) 0 l) := by
    refine act_puts _ _ hF.1 hF.2.1 (fun x hx => ?_) (fun t ht => hF.2.2 t fun i o ho => ?_)
    · obtain ⟨i, o, ho, rfl⟩ := dstsV_mem hx
      have := h1 o (List.mem_of_getElem? ho)
      cases hd : o.dst with
      | none => rw [hd] at this; cases this
      | some d =>
        rw [hd] at this
        refine ⟨d, rfl, by simpa using this, ?_⟩
        unfold valOf
        rw [Nat.zero_add, show l.toArray[i]? = some o by simpa using ho, Option.bind_some, hd]
    · exact ht _ (dstsV_of (k := 0) (show l[i]? = some o by simpa using ho))
  rw [e]
  exact hend _ w hE hV

end Go.Proofs.Ythmfmeibjpgokaa
