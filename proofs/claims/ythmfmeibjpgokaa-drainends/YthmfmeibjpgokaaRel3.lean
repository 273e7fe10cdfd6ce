/-
  As Rel2, for regions whose operations also write slots that earlier ones read, or have no slot (stores). No program stands in it.
-/
import Derived.Test.YthmfmeibjpgokaaRel2
namespace Go.Proofs.Ythmfmeibjpgokaa
open Go.RowKit

/-- What an operation leaves in its slot; one without a slot leaves nothing. -/
def slotV (o : Oper) (v : Value) : Value := match o.dst with | some _ => v | none => undef
def StepAt (P : Program) (ops : Array Oper) (E : World → World → Prop) (V : Nat → Value → World → Prop) (i : Nat) (o : Oper) (a : Act) (w : World) : Prop :=
  (Region.wanted o (yielded ops a.tmps) = true ∧ relUpon P (fun v w' => E w w' ∧ V i (slotV o v) w') ((execOp a.eval o).run P w)) ∨ (Region.wanted o (yielded ops a.tmps) = false ∧ V i undef w)
/-- Slots that are as they were when operation i comes: whoever writes them waits for it. -/
def FrameAt (md : Region.Mode) (ops : Array Oper) (a0 a : Act) (i : Nat) : Prop :=
  ∀ t, (∀ (j : Nat) (o : Oper), ops[j]? = some o → o.dst = some t → ∃ e ∈ o.after, Region.binds md e = true ∧ e.on = i) → a.eval (.tmp t) = a0.eval (.tmp t)

theorem getD_set_same {l : Array Bool} {i : Nat} (h : l.getD i true = false) : (l.setIfInBounds i true).getD i false = true := by
  have hi : i < l.size := by
    rcases Nat.lt_or_ge i l.size with h' | h'
    · exact h'
    · simp [Array.getD, Nat.not_lt.2 h'] at h
  simp [hi]
theorem getD_set_other {l : Array Bool} {i k : Nat} (h : k ≠ i) : (l.setIfInBounds i true).getD k false = l.getD k false := by
  simp only [Array.getD_eq_getD_getElem?, Array.getElem?_setIfInBounds_ne (Ne.symm h)]
theorem getD_true_false {l : Array Bool} {i : Nat} (h : l.getD i true = false) : l.getD i false = false := by
  have hi : i < l.size := by
    rcases Nat.lt_or_ge i l.size with h' | h'
    · exact h'
    · simp [Array.getD, Nat.not_lt.2 h'] at h
  simpa [Array.getD, hi] using h

theorem wpAny_rel3 {P : Program} {md : Region.Mode} {ops : Array Oper} {Q : Exit → Act → World → Prop} (E : World → World → Prop) (V : Nat → Value → World → Prop) (a0 : Act) (w0 : World)
    (hrf : ∀ w, E w w) (htr : ∀ w w' w'', E w w' → E w' w'' → E w w'') (hstab : ∀ i v w w', V i v w → E w w' → V i v w')
    (hdst : ∀ (i : Nat) (o : Oper) (d : Nat), ops[i]? = some o → o.dst = some d → d < a0.tmps.size)
    (hne : ∀ (i j : Nat) (oi oj : Oper) (d : Nat), ops[i]? = some oi → ops[j]? = some oj → i ≠ j → oi.dst = some d → oj.dst ≠ some d)
    (hord : ∀ (i : Nat) (o : Oper), ops[i]? = some o → ∀ e ∈ o.after, Region.binds md e = true → e.on < i)
    (hstep : ∀ (i : Nat) (o : Oper) (a : Act) (w : World), ops[i]? = some o → FrameAt md ops a0 a i → E w0 w → (∀ e ∈ o.after, Region.binds md e = true → V e.on (valOf ops a e.on) w) → StepAt P ops E V i o a w)
    (hend : ∀ a w, FrameOf ops a0 a → E w0 w → (∀ i, i < ops.size → V i (valOf ops a i) w) → Q .normal a w) :
    ∀ (fuel : Nat) (listed : Array Bool) (a : Act) (w : World), listed.size = ops.size → listed.toList.count false = fuel → a.tmps.size = a0.tmps.size → a.defers = a0.defers →
      (∀ t, (∀ (i : Nat) (o : Oper), ops[i]? = some o → o.dst = some t → listed.getD i false = false) → a.eval (.tmp t) = a0.eval (.tmp t)) →
      (∀ (j : Nat) (o : Oper), ops[j]? = some o → listed.getD j false = true → ∀ e ∈ o.after, Region.binds md e = true → listed.getD e.on false = true) → E w0 w →
      (∀ i, listed.getD i false = true → V i (valOf ops a i) w) → wpAny P md ops Q fuel listed a w := by
  have hall : ∀ (listed : Array Bool), listed.size = ops.size → Region.ready md ops listed = [] → ∀ i, i < ops.size → listed.getD i false = true := by
    intro listed hsz hr i
    induction i using Nat.strongRecOn with
    | ind i ih =>
      intro hi
      cases hl : listed.getD i true with
      | true => simpa [Array.getD, hsz, hi] using hl
      | false =>
        have : i ∈ Region.ready md ops listed := mem_ready.2 ⟨hl, ops[i], by simp [hi], fun e he hb => ih e.on (hord i _ (by simp [hi]) e he hb) (Nat.lt_trans (hord i _ (by simp [hi]) e he hb) hi)⟩
        rw [hr] at this
        cases this
  have hfin : ∀ (listed : Array Bool) (a : Act), listed.size = ops.size → a.tmps.size = a0.tmps.size → a.defers = a0.defers →
      (∀ t, (∀ (i : Nat) (o : Oper), ops[i]? = some o → o.dst = some t → listed.getD i false = false) → a.eval (.tmp t) = a0.eval (.tmp t)) → FrameOf ops a0 a := fun listed a _ h1 h2 h3 =>
    ⟨h1, h2, fun t ht => h3 t fun i o ho hd => absurd hd (ht i o ho)⟩
  intro fuel
  induction fuel with
  | zero =>
    intro listed a w hsz hc h1 h2 h3 h4 hE hV
    have hno : Region.ready md ops listed = [] := by
      cases hr : Region.ready md ops listed with
      | nil => rfl
      | cons j r =>
        have hj : j ∈ Region.ready md ops listed := by rw [hr]; simp
        have := (count_set (mem_ready.1 hj).1).1
        omega
    exact ⟨hno, hend a w (hfin listed a hsz h1 h2 h3) hE fun i hi => hV i (hall listed hsz hno i hi)⟩
  | succ fuel ih =>
    intro listed a w hsz hc h1 h2 h3 h4 hE hV
    refine ⟨fun hno => hend a w (hfin listed a hsz h1 h2 h3) hE fun i hi => hV i (hall listed hsz hno i hi), fun i hi => ?_⟩
    obtain ⟨hl, o, ho, hdep⟩ := mem_ready.1 hi
    have hlf := getD_true_false hl
    have hFA : FrameAt md ops a0 a i := fun t ht => h3 t fun j oj hoj hdj => by
      obtain ⟨e, he, hb, hon⟩ := ht j oj hoj hdj
      cases hlj : listed.getD j false with
      | false => rfl
      | true =>
        have := h4 j oj hoj hlj e he hb
        rw [hon, hlf] at this
        cases this
    have hst := hstep i o a w ho hFA hE (fun e he hb => hV e.on (hdep e he hb))
    have hcs := count_set hl
    have key : ∀ v w', E w w' → V i (slotV o v) w' → wpAny P md ops Q fuel (listed.setIfInBounds i true) (a.put o.dst v) w' := by
      intro v w' hE' hv
      refine ih _ _ _ (by rw [hcs.2]; exact hsz) (by omega) (by rw [Act.size_put]; exact h1) (by rw [Act.defers_put']; exact h2) ?_ ?_ (htr _ _ _ hE hE') ?_
      · intro t ht
        have hti : o.dst ≠ some t := fun hd => by
          have := ht i o ho hd
          rw [getD_set_same hl] at this
          cases this
        have e : (a.put o.dst v).eval (.tmp t) = a.eval (.tmp t) := by
          cases hd : o.dst with
          | none => rfl
          | some d => exact Act.eval_put_ne _ _ _ _ (fun e => hti (by rw [hd, e]))
        rw [e]
        refine h3 t fun j oj hoj hdj => ?_
        have hji : j ≠ i := fun e => by
          subst e
          rw [ho] at hoj
          cases hoj
          exact hti hdj
        have := ht j oj hoj hdj
        rwa [getD_set_other hji] at this
      · intro j oj hoj hlj e he hb
        by_cases hji : j = i
        · subst hji
          rw [ho] at hoj
          cases hoj
          by_cases hei : e.on = j
          · rw [hei]; exact getD_set_same hl
          · rw [getD_set_other hei]; exact hdep e he hb
        · rw [getD_set_other hji] at hlj
          by_cases hei : e.on = i
          · rw [hei]; exact getD_set_same hl
          · rw [getD_set_other hei]; exact h4 j oj hoj hlj e he hb
      · intro k hk
        by_cases hki : k = i
        · subst hki
          have : valOf ops (a.put o.dst v) k = slotV o v := by
            unfold valOf slotV
            cases hd : o.dst with
            | none => simp [ho, hd]
            | some d =>
              simp only [ho, Option.bind_some, hd]
              exact Act.eval_put_same _ _ _ (by rw [h1]; exact hdst k o d ho hd)
          rw [this]
          exact hv
        · rw [getD_set_other hki] at hk
          have : valOf ops (a.put o.dst v) k = valOf ops a k := by
            unfold valOf
            cases hok : ops[k]? with
            | none => rfl
            | some ok =>
              cases hdk : ok.dst with
              | none => simp [hdk]
              | some dk =>
                simp only [Option.bind_some, hdk]
                cases hd : o.dst with
                | none => rfl
                | some d => exact Act.eval_put_ne _ _ _ _ (fun e => hne i k o ok d ho hok (Ne.symm hki) hd (by rw [hdk, e]))
          rw [this]
          exact hstab _ _ _ _ (hV k hk) hE'
    unfold wpOp
    simp only [ho]
    rcases hst with ⟨hw, hrun⟩ | ⟨hw, hv⟩
    · simp only [hw, if_true]
      exact .inl (wp_of_relUpon hrun fun v w' ⟨hE', hv⟩ => key v w' hE' hv)
    · rw [if_neg (by rw [hw]; simp)]
      refine key undef w (hrf w) ?_
      have : slotV o undef = undef := by unfold slotV; split <;> rfl
      rw [this]; exact hv

/-- What is asked of a region's text. -/
def relB3 (n : Nat) (ops : List Oper) : Bool :=
  ops.all (fun o => match o.dst with | some d => decide (d < n) | none => true) && decide (ops.filterMap (·.dst)).Nodup && (ops.zipIdx.all fun x => x.1.after.all fun e => !Region.binds .any e || decide (e.on < x.2))

theorem filterMap_nodup {l : List Oper} (h : (l.filterMap (·.dst)).Nodup) : ∀ (i j : Nat) (oi oj : Oper) (d : Nat), l[i]? = some oi → l[j]? = some oj → i ≠ j → oi.dst = some d → oj.dst ≠ some d := by
  induction l with
  | nil => intro i j oi oj d hi; simp at hi
  | cons o r ih =>
    have hr : (r.filterMap (·.dst)).Nodup := by
      rw [List.filterMap_cons] at h
      split at h
      · exact h
      · exact (List.nodup_cons.1 h).2
    intro i j oi oj d hi hj hij hd hdj
    have mem : ∀ (k : Nat) (ok : Oper), r[k]? = some ok → ok.dst = some d → d ∈ r.filterMap (·.dst) := fun k ok hk hkd => List.mem_filterMap.2 ⟨ok, List.mem_of_getElem? hk, hkd⟩
    match i, j with
    | 0, 0 => exact hij rfl
    | 0, j + 1 =>
      simp only [List.getElem?_cons_zero, Option.some.injEq] at hi
      subst hi
      rw [List.filterMap_cons, hd] at h
      exact (List.nodup_cons.1 h).1 (mem j oj (by simpa using hj) hdj)
    | i + 1, 0 =>
      simp only [List.getElem?_cons_zero, Option.some.injEq] at hj
      subst hj
      rw [List.filterMap_cons, hdj] at h
      exact (List.nodup_cons.1 h).1 (mem i oi (by simpa using hi) hd)
    | i + 1, j + 1 => exact ih hr i j oi oj d (by simpa using hi) (by simpa using hj) (by omega) hd hdj

/-- The operations' own obligations, one by one in the text's order. -/
def stepsAll3 (P : Program) (ops : Array Oper) (a0 : Act) (w0 : World) (E : World → World → Prop) (V : Nat → Value → World → Prop) : Nat → List Oper → Prop
  | _, [] => True
  | k, o :: r => (∀ a w, FrameAt .any ops a0 a k → E w0 w → (∀ e ∈ o.after, Region.binds .any e = true → V e.on (valOf ops a e.on) w) → StepAt P ops E V k o a w) ∧ stepsAll3 P ops a0 w0 E V (k + 1) r
theorem stepsAll3_at {P : Program} {ops : Array Oper} {a0 : Act} {w0 : World} {E : World → World → Prop} {V : Nat → Value → World → Prop} : ∀ (l : List Oper) (k : Nat), stepsAll3 P ops a0 w0 E V k l →
    ∀ (i : Nat) (o : Oper), l[i]? = some o → ∀ a w, FrameAt .any ops a0 a (k + i) → E w0 w → (∀ e ∈ o.after, Region.binds .any e = true → V e.on (valOf ops a e.on) w) → StepAt P ops E V (k + i) o a w
  | [], _, _, i, o, h => by simp at h
  | o' :: r, k, hs, 0, o, h => by simp at h; subst h; exact hs.1
  | o' :: r, k, hs, i + 1, o, h => by
    have := stepsAll3_at r (k + 1) hs.2 i o (by simpa using h)
    rw [show k + (i + 1) = k + 1 + i by omega]
    exact this

theorem act_puts3 {a : Act} : ∀ (ds : List (Option Nat × Value)) (a0 : Act), a.tmps.size = a0.tmps.size → a.defers = a0.defers → (∀ x ∈ ds, ∀ d, x.1 = some d → d < a0.tmps.size ∧ a.eval (.tmp d) = x.2) →
    (∀ t, (∀ x ∈ ds, x.1 ≠ some t) → a.eval (.tmp t) = a0.eval (.tmp t)) → a = putsV a0 ds
  | [], a0, hs, hd, _, h2 => act_ext hs hd fun t => h2 t (fun x hx => by cases hx)
  | x :: r, a0, hs, hd, h1, h2 => by
    show a = putsV (a0.put x.1 x.2) r
    refine act_puts3 r (a0.put x.1 x.2) ?_ ?_ (fun y hy e h3 => ?_) (fun t ht => ?_)
    · rw [Act.size_put]; exact hs
    · rw [Act.defers_put']; exact hd
    · rw [Act.size_put]; exact h1 y (by simp [hy]) e h3
    · by_cases e : x.1 = some t
      · obtain ⟨hlt, hv⟩ := h1 x (by simp) t e
        rw [e, Act.eval_put_same _ _ _ hlt]; exact hv
      · have e2 : (a0.put x.1 x.2).eval (.tmp t) = a0.eval (.tmp t) := by
          cases hd : x.1 with
          | none => rfl
          | some d => exact Act.eval_put_ne _ _ _ _ (fun h => e (by rw [hd, h]))
        rw [e2]
        exact h2 t fun y hy => by
          rcases List.mem_cons.1 hy with rfl | hy
          · exact e
          · exact ht y hy

/-- The whole, what comes behind with the slots laid out. -/
theorem wp_region_rel4 {P : Program} {id : Nat} {l : List Oper} {Q : Exit → Act → World → Prop} {a0 : Act} {w0 : World} (E : World → World → Prop) (V : Nat → Value → World → Prop)
    (hm : P.follows .mixedOrders = true) (hB : relB3 a0.tmps.size l = true) (hE0 : E w0 { w0 with drawn := w0.drawn + 1 }) (hrf : ∀ w, E w w) (htr : ∀ w w' w'', E w w' → E w' w'' → E w w'')
    (hstab : ∀ i v w w', V i v w → E w w' → V i v w') (hstep : stepsAll3 P l.toArray a0 w0 E V 0 l)
    (hend : ∀ (vs : Nat → Value) w, E w0 w → (∀ i, i < l.length → V i (vs i) w) → Q .normal (putsV a0 (dstsV vs 0 l)) w) :
    (Code.region id l.toArray true).wp P Q a0 w0 := by
  simp only [relB3, Bool.and_eq_true, List.all_eq_true, decide_eq_true_eq] at hB
  obtain ⟨⟨h1, h2⟩, h3⟩ := hB
  have hget : ∀ (i : Nat) (o : Oper), l.toArray[i]? = some o → l[i]? = some o := fun i o h => by simpa using h
  have hd : ∀ (i : Nat) (o : Oper) (d : Nat), l.toArray[i]? = some o → o.dst = some d → d < a0.tmps.size := fun i o d ho hd => by
    have := h1 o (List.mem_of_getElem? (hget i o ho))
    rw [hd] at this
    simpa using this
  refine wp_region_any hm (wpAny_rel3 E V a0 w0 hrf htr hstab hd (fun i j oi oj d hi hj => filterMap_nodup h2 i j oi oj d (hget i oi hi) (hget j oj hj)) ?_
    (fun i o a w ho => by have := stepsAll3_at l 0 hstep i o (hget i o ho) a w; simpa using this) (fun a w hF hE hV => ?_) _ _ _ _ (by simp) (by simp) rfl rfl (fun _ _ => rfl) (fun j o _ hlj => ?_) hE0 ?_)
  · intro i o ho e he hb
    have hi' := hget i o ho
    have := h3 (o, i) (by rw [List.mem_zipIdx_iff_getElem?]; exact hi')
    rw [Array.all_eq_true_iff_forall_mem] at this
    have h := this e he
    rw [hb] at h
    simpa using h
  · have e : a = putsV a0 (dstsV (fun i => valOf l.toArray a i) 0 l) := by
      refine act_puts3 _ _ hF.1 hF.2.1 (fun x hx d hxd => ?_) (fun t ht => hF.2.2 t fun i o ho => ?_)
      · obtain ⟨i, o, ho, rfl⟩ := dstsV_mem hx
        refine ⟨hd i o d (by simpa using ho) hxd, ?_⟩
        have hod : o.dst = some d := hxd
        unfold valOf
        rw [Nat.zero_add, show l.toArray[i]? = some o by simpa using ho, Option.bind_some, hod]
      · exact ht _ (dstsV_of (k := 0) (show l[i]? = some o by simpa using ho))
    rw [e]
    exact hend _ w hE fun i hi => hV i (by simpa using hi)
  · simp [Array.getD, Array.getElem_replicate] at hlj
  · intro i hi
    simp [Array.getD, Array.getElem_replicate] at hi

/-- A slot that is as it was when operation i comes. -/
theorem FrameAt.at {l : List Oper} {a0 a : Act} {i : Nat} (h : FrameAt .any l.toArray a0 a i) (t : Nat) (hB : (l.all fun o => o.dst != some t || o.after.any fun e => Region.binds .any e && e.on == i) = true) : a.eval (.tmp t) = a0.eval (.tmp t) := by
  refine h t fun j o ho hd => ?_
  have := List.all_eq_true.1 hB o (List.mem_of_getElem? (show l[j]? = some o by simpa using ho))
  rw [hd] at this
  simp only [bne_self_eq_false, Bool.false_or] at this
  obtain ⟨k, hk, h1⟩ := Array.any_eq_true.1 this
  rw [Bool.and_eq_true, beq_iff_eq] at h1
  exact ⟨_, Array.getElem_mem hk, h1.1, h1.2⟩

end Go.Proofs.Ythmfmeibjpgokaa
