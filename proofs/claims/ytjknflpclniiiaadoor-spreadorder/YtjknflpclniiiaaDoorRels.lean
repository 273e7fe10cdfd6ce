/-
  Rel, Rel2, Rel3, Rel6, Rel7, RelTold.
-/
import Derived.OrdersHeld
import Derived.Great.Frames
import Derived.WalkKit

/-
  A region that draws its order and makes memory: an operation's value is told by a relation (a value, a world), which later worlds keep. Each operation is looked at once, whatever came before it but for what it waits for. No program stands in it.
-/
namespace Go.Proofs.YtjknflpclniiiaaDoor
open Go.RowKit

/-- What is asked of an operation's run. -/
def relUpon (P : Program) (post : Value → World → Prop) : Result Next → Prop
  | .ok (.value u) w' => post u w'
  | .ok .skip w' => post undef w'
  | .ok (.enter f args) w' => Calls P f args w' fun e w'' => ∃ v, e = .returned v ∧ post v w''
  | _ => False

theorem wp_of_relUpon {P : Program} {o : Oper} {a : Act} {w : World} {post : Value → World → Prop} {K : Act → World → Prop} {Q : Exit → Act → World → Prop}
    (h : relUpon P post ((execOp a.eval o).run P w)) (hK : ∀ v w', post v w' → K (a.put o.dst v) w') : o.wp P a w K Q := by
  unfold Oper.wp
  generalize (execOp a.eval o).run P w = r at *
  cases r with
  | ok n w' =>
    cases n <;> simp only [relUpon] at h <;> simp only [Oper.upon]
    case value u => exact hK _ _ h
    case skip => exact hK _ _ h
    case enter f args => exact h.mono fun e w'' ⟨v, he, hp⟩ => by subst he; exact hK _ _ hp
  | halt x w' => simp only [relUpon] at h

/-- The slots that the region's operations don't write are as they were. -/
def FrameOf (ops : Array Oper) (a0 a : Act) : Prop :=
  a.tmps.size = a0.tmps.size ∧ a.defers = a0.defers ∧ ∀ t, (∀ (i : Nat) (o : Oper), ops[i]? = some o → o.dst ≠ some t) → a.eval (.tmp t) = a0.eval (.tmp t)

/-- The value of operation i. -/
def valOf (ops : Array Oper) (a : Act) (i : Nat) : Value := match (ops[i]?).bind (·.dst) with | some d => a.eval (.tmp d) | none => undef

theorem count_set {l : Array Bool} {i : Nat} (h : l.getD i true = false) : (l.setIfInBounds i true).toList.count false + 1 = l.toList.count false ∧ (l.setIfInBounds i true).size = l.size := by
  have hi : i < l.size := by
    rcases Nat.lt_or_ge i l.size with h' | h'
    · exact h'
    · simp [Array.getD, Nat.not_lt.2 h'] at h
  have hv : l[i] = false := by simpa [Array.getD, hi] using h
  refine ⟨?_, by simp⟩
  rw [Array.toList_setIfInBounds, List.count_set (by simpa using hi)]
  have hp : 0 < l.toList.count false := List.count_pos_iff.2 (by rw [← hv]; simp)
  have hg : l.toList[i] = false := by simpa using hv
  rw [hg]
  have e1 : (if (false == false) = true then 1 else 0) = 1 := rfl
  have e2 : (if (true == false) = true then 1 else 0) = 0 := rfl
  rw [e1, e2]
  omega

theorem wpAny_rel {P : Program} {md : Region.Mode} {ops : Array Oper} {Q : Exit → Act → World → Prop} (E : World → World → Prop) (V : Nat → Value → World → Prop) (a0 : Act) (w0 : World)
    (htr : ∀ w w' w'', E w w' → E w' w'' → E w w'') (hstab : ∀ i v w w', V i v w → E w w' → V i v w')
    (hdst : ∀ (i : Nat) (o : Oper), ops[i]? = some o → ∃ d, o.dst = some d ∧ d < a0.tmps.size)
    (hne : ∀ (i j : Nat) (oi oj : Oper), ops[i]? = some oi → ops[j]? = some oj → i ≠ j → oi.dst ≠ oj.dst)
    (hord : ∀ (i : Nat) (o : Oper), ops[i]? = some o → ∀ e ∈ o.after, e.on < i)
    (hstep : ∀ (i : Nat) (o : Oper) (a : Act) (w : World), ops[i]? = some o → FrameOf ops a0 a → E w0 w → (∀ e ∈ o.after, Region.binds md e = true → V e.on (valOf ops a e.on) w) →
      Region.wanted o (yielded ops a.tmps) = true ∧ relUpon P (fun v w' => E w w' ∧ V i v w') ((execOp a.eval o).run P w))
    (hend : ∀ a w, FrameOf ops a0 a → E w0 w → (∀ i, i < ops.size → V i (valOf ops a i) w) → Q .normal a w) :
    ∀ (fuel : Nat) (listed : Array Bool) (a : Act) (w : World), listed.size = ops.size → listed.toList.count false = fuel → FrameOf ops a0 a → E w0 w →
      (∀ i, listed.getD i false = true → V i (valOf ops a i) w) → wpAny P md ops Q fuel listed a w := by
  have hall : ∀ (listed : Array Bool), listed.size = ops.size → Region.ready md ops listed = [] → ∀ i, i < ops.size → listed.getD i false = true := by
    intro listed hsz hr i
    induction i using Nat.strongRecOn with
    | ind i ih =>
      intro hi
      cases hl : listed.getD i true with
      | true => simpa [Array.getD, hsz, hi] using hl
      | false =>
        have : i ∈ Region.ready md ops listed := mem_ready.2 ⟨hl, ops[i], by simp [hi], fun e he _ => ih e.on (hord i _ (by simp [hi]) e he) (Nat.lt_trans (hord i _ (by simp [hi]) e he) hi)⟩
        rw [hr] at this
        cases this
  intro fuel
  induction fuel with
  | zero =>
    intro listed a w hsz hc hF hE hV
    have hno : Region.ready md ops listed = [] := by
      cases hr : Region.ready md ops listed with
      | nil => rfl
      | cons j r =>
        have hj : j ∈ Region.ready md ops listed := by rw [hr]; simp
        have := (count_set (mem_ready.1 hj).1).1
        omega
    exact ⟨hno, hend a w hF hE fun i hi => hV i (hall listed hsz hno i hi)⟩
  | succ fuel ih =>
    intro listed a w hsz hc hF hE hV
    refine ⟨fun hno => hend a w hF hE fun i hi => hV i (hall listed hsz hno i hi), fun i hi => ?_⟩
    obtain ⟨hl, o, ho, hdep⟩ := mem_ready.1 hi
    obtain ⟨hw, hrun⟩ := hstep i o a w ho hF hE (fun e he hb => hV e.on (hdep e he hb))
    obtain ⟨d, hd, hlt⟩ := hdst i o ho
    unfold wpOp
    simp only [ho, hw, if_true]
    refine .inl (wp_of_relUpon hrun fun v w' ⟨hE', hv⟩ => ?_)
    have hcs := count_set hl
    have hds : d < a.tmps.size := by rw [hF.1]; exact hlt
    rw [hd]
    refine ih _ _ _ (by rw [hcs.2]; exact hsz) (by omega) ⟨?_, ?_, ?_⟩ (htr _ _ _ hE hE') ?_
    · rw [Act.size_put]; exact hF.1
    · rw [Act.defers_put']; exact hF.2.1
    · intro t ht
      rw [Act.eval_put_ne _ _ _ _ (fun e => ht i o ho (by rw [hd, e]))]
      exact hF.2.2 t ht
    · intro k hk
      by_cases hki : k = i
      · subst hki
        have : valOf ops (a.put (some d) v) k = v := by unfold valOf; simp only [ho, Option.bind_some, hd]; exact Act.eval_put_same _ _ _ hds
        rw [this]
        exact hv
      · have hk' : listed.getD k false = true := by
          simp only [Array.getD_eq_getD_getElem?, Array.getElem?_setIfInBounds_ne (Ne.symm hki)] at hk ⊢
          exact hk
        have : valOf ops (a.put (some d) v) k = valOf ops a k := by
          unfold valOf
          cases hok : ops[k]? with
          | none => rfl
          | some ok =>
            cases hdk : ok.dst with
            | none => simp [hdk]
            | some dk =>
              simp only [Option.bind_some, hdk]
              exact Act.eval_put_ne _ _ _ _ (fun e => hne i k o ok ho hok (Ne.symm hki) (by rw [hd, hdk, e]))
        rw [this]
        exact hstab _ _ _ _ (hV k hk') hE'

/-- What is asked of a region's text: each operation has a slot of its own, and waits for earlier ones alone. -/
def relB (n : Nat) (ops : List Oper) : Bool :=
  ops.all (fun o => match o.dst with | some d => decide (d < n) | none => false) && decide (ops.map (·.dst)).Nodup && (ops.zipIdx.all fun x => x.1.after.all fun e => decide (e.on < x.2))

theorem wp_region_rel {P : Program} {id : Nat} {l : List Oper} {Q : Exit → Act → World → Prop} {a0 : Act} {w0 : World} (E : World → World → Prop) (V : Nat → Value → World → Prop)
    (hm : P.follows .mixedOrders = true) (hB : relB a0.tmps.size l = true)
    (hE0 : E w0 { w0 with drawn := w0.drawn + 1 }) (htr : ∀ w w' w'', E w w' → E w' w'' → E w w'') (hstab : ∀ i v w w', V i v w → E w w' → V i v w')
    (hstep : ∀ (i : Nat) (o : Oper) (a : Act) (w : World), l.toArray[i]? = some o → FrameOf l.toArray a0 a → E w0 w → (∀ e ∈ o.after, Region.binds .any e = true → V e.on (valOf l.toArray a e.on) w) →
      Region.wanted o (yielded l.toArray a.tmps) = true ∧ relUpon P (fun v w' => E w w' ∧ V i v w') ((execOp a.eval o).run P w))
    (hend : ∀ a w, FrameOf l.toArray a0 a → E w0 w → (∀ i, i < l.length → V i (valOf l.toArray a i) w) → Q .normal a w) :
    (Code.region id l.toArray true).wp P Q a0 w0 := by
  simp only [relB, Bool.and_eq_true, List.all_eq_true, decide_eq_true_eq] at hB
  obtain ⟨⟨h1, h2⟩, h3⟩ := hB
  have hget : ∀ (i : Nat) (o : Oper), l.toArray[i]? = some o → l[i]? = some o := fun i o h => by simpa using h
  refine wp_region_any hm (wpAny_rel E V a0 w0 htr hstab ?_ ?_ ?_ hstep (by simpa using hend) _ _ _ _ (by simp) (by simp) ⟨rfl, rfl, fun _ _ => rfl⟩ hE0 ?_)
  · intro i o ho
    have := h1 o (List.mem_of_getElem? (hget i o ho))
    cases hd : o.dst with
    | none => rw [hd] at this; cases this
    | some d => rw [hd] at this; exact ⟨d, rfl, by simpa using this⟩
  · intro i j oi oj hi hj hij he
    have hi' := hget i oi hi
    have hj' := hget j oj hj
    have li : i < (l.map (·.dst)).length := by rw [List.length_map]; exact (List.getElem?_eq_some_iff.1 hi').1
    have lj : j < (l.map (·.dst)).length := by rw [List.length_map]; exact (List.getElem?_eq_some_iff.1 hj').1
    refine hij ((List.getElem_inj (h₀ := li) (h₁ := lj) h2).1 ?_)
    rw [List.getElem_map, List.getElem_map, (List.getElem?_eq_some_iff.1 hi').2, (List.getElem?_eq_some_iff.1 hj').2, he]
  · intro i o ho e he
    have hi' := hget i o ho
    have := h3 (o, i) (by rw [List.mem_zipIdx_iff_getElem?]; exact hi')
    rw [Array.all_eq_true_iff_forall_mem] at this
    simpa using this e he
  · intro i hi
    simp [Array.getD, Array.getElem_replicate] at hi

/-- The operations' own obligations, one by one in the text's order. -/
def stepsAll (P : Program) (ops : Array Oper) (a0 : Act) (w0 : World) (E : World → World → Prop) (V : Nat → Value → World → Prop) : Nat → List Oper → Prop
  | _, [] => True
  | k, o :: r => (∀ a w, FrameOf ops a0 a → E w0 w → (∀ e ∈ o.after, Region.binds .any e = true → V e.on (valOf ops a e.on) w) →
      Region.wanted o (yielded ops a.tmps) = true ∧ relUpon P (fun v w' => E w w' ∧ V k v w') ((execOp a.eval o).run P w)) ∧ stepsAll P ops a0 w0 E V (k + 1) r

theorem stepsAll_at {P : Program} {ops : Array Oper} {a0 : Act} {w0 : World} {E : World → World → Prop} {V : Nat → Value → World → Prop} : ∀ (l : List Oper) (k : Nat), stepsAll P ops a0 w0 E V k l →
    ∀ (i : Nat) (o : Oper), l[i]? = some o → ∀ a w, FrameOf ops a0 a → E w0 w → (∀ e ∈ o.after, Region.binds .any e = true → V e.on (valOf ops a e.on) w) →
      Region.wanted o (yielded ops a.tmps) = true ∧ relUpon P (fun v w' => E w w' ∧ V (k + i) v w') ((execOp a.eval o).run P w)
  | [], _, _, i, o, h => by simp at h
  | o' :: r, k, hs, 0, o, h => by simp at h; subst h; exact hs.1
  | o' :: r, k, hs, i + 1, o, h => by
    have := stepsAll_at r (k + 1) hs.2 i o (by simpa using h)
    rw [show k + (i + 1) = k + 1 + i by omega]
    exact this

/-- At the class 'what was there stands'. -/
theorem wp_region_new {P : Program} {id : Nat} {l : List Oper} {Q : Exit → Act → World → Prop} {a0 : Act} {w0 : World} (V : Nat → Value → World → Prop)
    (hm : P.follows .mixedOrders = true) (hB : relB a0.tmps.size l = true) (hstab : ∀ i v w w', V i v w → Below w.heap.size w w' → V i v w')
    (hstep : stepsAll P l.toArray a0 w0 (fun w w' => Below w.heap.size w w') V 0 l)
    (hend : ∀ a w, FrameOf l.toArray a0 a → Below w0.heap.size w0 w → (∀ i, i < l.length → V i (valOf l.toArray a i) w) → Q .normal a w) :
    (Code.region id l.toArray true).wp P Q a0 w0 :=
  wp_region_rel (fun w w' => Below w.heap.size w w') V hm hB ((Below.refl _ _).drew) (fun _ _ _ h1 h2 => h1.trans (h2.mono h1.size)) hstab
    (fun i o a w ho => by have := stepsAll_at l 0 hstep i o (by simpa using ho) a w; simpa using this) hend

/-- A slot that no operation of the region writes. -/
theorem FrameOf.at {l : List Oper} {a0 a : Act} (h : FrameOf l.toArray a0 a) (t : Nat) (hB : (l.all fun o => o.dst != some t) = true) : a.eval (.tmp t) = a0.eval (.tmp t) := by
  refine h.2.2 t fun i o ho => ?_
  have := List.all_eq_true.1 hB o (List.mem_of_getElem? (show l[i]? = some o by simpa using ho))
  simpa using this

theorem yielded_of {ops : Array Oper} {a : Act} {j d : Nat} {b : Bool} (hd : (ops[j]?).bind (·.dst) = some d) (h : a.eval (.tmp d) = .bool b) : yielded ops a.tmps j = some b := by
  unfold yielded
  rw [hd, Option.bind_some]
  simp only [Act.eval, Array.getD_eq_getD_getElem?] at h
  cases ht : a.tmps[d]? with
  | none => rw [ht] at h; simp [undef] at h
  | some v => rw [ht] at h; simp at h; subst h; rfl

end Go.Proofs.YtjknflpclniiiaaDoor

/-
  As Rel, for regions some of whose operations are not wanted (behind '&&' and '||'), and whose calls may write what the caller owns: the class of worlds is any relation that goes on. No program stands in it.
-/
namespace Go.Proofs.YtjknflpclniiiaaDoor
open Go.RowKit

/-- What is asked of one operation: it is wanted, and its run is as told; or it is not wanted, and its slot is not set. -/
def StepOk (P : Program) (ops : Array Oper) (E : World → World → Prop) (V : Nat → Value → World → Prop) (i : Nat) (o : Oper) (a : Act) (w : World) : Prop :=
  (Region.wanted o (yielded ops a.tmps) = true ∧ relUpon P (fun v w' => E w w' ∧ V i v w') ((execOp a.eval o).run P w)) ∨ (Region.wanted o (yielded ops a.tmps) = false ∧ V i undef w)

theorem wpAny_rel2 {P : Program} {md : Region.Mode} {ops : Array Oper} {Q : Exit → Act → World → Prop} (E : World → World → Prop) (V : Nat → Value → World → Prop) (a0 : Act) (w0 : World)
    (hrf : ∀ w, E w w) (htr : ∀ w w' w'', E w w' → E w' w'' → E w w'') (hstab : ∀ i v w w', V i v w → E w w' → V i v w')
    (hdst : ∀ (i : Nat) (o : Oper), ops[i]? = some o → ∃ d, o.dst = some d ∧ d < a0.tmps.size)
    (hne : ∀ (i j : Nat) (oi oj : Oper), ops[i]? = some oi → ops[j]? = some oj → i ≠ j → oi.dst ≠ oj.dst)
    (hord : ∀ (i : Nat) (o : Oper), ops[i]? = some o → ∀ e ∈ o.after, e.on < i)
    (hstep : ∀ (i : Nat) (o : Oper) (a : Act) (w : World), ops[i]? = some o → FrameOf ops a0 a → E w0 w → (∀ e ∈ o.after, Region.binds md e = true → V e.on (valOf ops a e.on) w) →
      StepOk P ops E V i o a w)
    (hend : ∀ a w, FrameOf ops a0 a → E w0 w → (∀ i, i < ops.size → V i (valOf ops a i) w) → Q .normal a w) :
    ∀ (fuel : Nat) (listed : Array Bool) (a : Act) (w : World), listed.size = ops.size → listed.toList.count false = fuel → FrameOf ops a0 a → E w0 w →
      (∀ i, listed.getD i false = true → V i (valOf ops a i) w) → wpAny P md ops Q fuel listed a w := by
  have hall : ∀ (listed : Array Bool), listed.size = ops.size → Region.ready md ops listed = [] → ∀ i, i < ops.size → listed.getD i false = true := by
    intro listed hsz hr i
    induction i using Nat.strongRecOn with
    | ind i ih =>
      intro hi
      cases hl : listed.getD i true with
      | true => simpa [Array.getD, hsz, hi] using hl
      | false =>
        have : i ∈ Region.ready md ops listed := mem_ready.2 ⟨hl, ops[i], by simp [hi], fun e he _ => ih e.on (hord i _ (by simp [hi]) e he) (Nat.lt_trans (hord i _ (by simp [hi]) e he) hi)⟩
        rw [hr] at this
        cases this
  intro fuel
  induction fuel with
  | zero =>
    intro listed a w hsz hc hF hE hV
    have hno : Region.ready md ops listed = [] := by
      cases hr : Region.ready md ops listed with
      | nil => rfl
      | cons j r =>
        have hj : j ∈ Region.ready md ops listed := by rw [hr]; simp
        have := (count_set (mem_ready.1 hj).1).1
        omega
    exact ⟨hno, hend a w hF hE fun i hi => hV i (hall listed hsz hno i hi)⟩
  | succ fuel ih =>
    intro listed a w hsz hc hF hE hV
    refine ⟨fun hno => hend a w hF hE fun i hi => hV i (hall listed hsz hno i hi), fun i hi => ?_⟩
    obtain ⟨hl, o, ho, hdep⟩ := mem_ready.1 hi
    have hst := hstep i o a w ho hF hE (fun e he hb => hV e.on (hdep e he hb))
    obtain ⟨d, hd, hlt⟩ := hdst i o ho
    have hcs := count_set hl
    have hds : d < a.tmps.size := by rw [hF.1]; exact hlt
    have key : ∀ v w', E w w' → V i v w' → wpAny P md ops Q fuel (listed.setIfInBounds i true) (a.put (some d) v) w' := by
      intro v w' hE' hv
      refine ih _ _ _ (by rw [hcs.2]; exact hsz) (by omega) ⟨?_, ?_, ?_⟩ (htr _ _ _ hE hE') ?_
      · rw [Act.size_put]; exact hF.1
      · rw [Act.defers_put']; exact hF.2.1
      · intro t ht
        rw [Act.eval_put_ne _ _ _ _ (fun e => ht i o ho (by rw [hd, e]))]
        exact hF.2.2 t ht
      · intro k hk
        by_cases hki : k = i
        · subst hki
          have : valOf ops (a.put (some d) v) k = v := by unfold valOf; simp only [ho, Option.bind_some, hd]; exact Act.eval_put_same _ _ _ hds
          rw [this]
          exact hv
        · have hk' : listed.getD k false = true := by
            simp only [Array.getD_eq_getD_getElem?, Array.getElem?_setIfInBounds_ne (Ne.symm hki)] at hk ⊢
            exact hk
          have : valOf ops (a.put (some d) v) k = valOf ops a k := by
            unfold valOf
            cases hok : ops[k]? with
            | none => rfl
            | some ok =>
              cases hdk : ok.dst with
              | none => simp [hdk]
              | some dk =>
                simp only [Option.bind_some, hdk]
                exact Act.eval_put_ne _ _ _ _ (fun e => hne i k o ok ho hok (Ne.symm hki) (by rw [hd, hdk, e]))
          rw [this]
          exact hstab _ _ _ _ (hV k hk') hE'
    unfold wpOp
    simp only [ho]
    rcases hst with ⟨hw, hrun⟩ | ⟨hw, hv⟩
    · simp only [hw, if_true]
      refine .inl (wp_of_relUpon hrun fun v w' ⟨hE', hv⟩ => ?_)
      rw [hd]
      exact key v w' hE' hv
    · rw [if_neg (by rw [hw]; simp), hd]
      exact key undef w (hrf w) hv

theorem wp_region_rel2 {P : Program} {id : Nat} {l : List Oper} {Q : Exit → Act → World → Prop} {a0 : Act} {w0 : World} (E : World → World → Prop) (V : Nat → Value → World → Prop)
    (hm : P.follows .mixedOrders = true) (hB : relB a0.tmps.size l = true)
    (hE0 : E w0 { w0 with drawn := w0.drawn + 1 }) (hrf : ∀ w, E w w) (htr : ∀ w w' w'', E w w' → E w' w'' → E w w'') (hstab : ∀ i v w w', V i v w → E w w' → V i v w')
    (hstep : ∀ (i : Nat) (o : Oper) (a : Act) (w : World), l.toArray[i]? = some o → FrameOf l.toArray a0 a → E w0 w → (∀ e ∈ o.after, Region.binds .any e = true → V e.on (valOf l.toArray a e.on) w) →
      StepOk P l.toArray E V i o a w)
    (hend : ∀ a w, FrameOf l.toArray a0 a → E w0 w → (∀ i, i < l.length → V i (valOf l.toArray a i) w) → Q .normal a w) :
    (Code.region id l.toArray true).wp P Q a0 w0 := by
  simp only [relB, Bool.and_eq_true, List.all_eq_true, decide_eq_true_eq] at hB
  obtain ⟨⟨h1, h2⟩, h3⟩ := hB
  have hget : ∀ (i : Nat) (o : Oper), l.toArray[i]? = some o → l[i]? = some o := fun i o h => by simpa using h
  refine wp_region_any hm (wpAny_rel2 E V a0 w0 hrf htr hstab ?_ ?_ ?_ hstep (by simpa using hend) _ _ _ _ (by simp) (by simp) ⟨rfl, rfl, fun _ _ => rfl⟩ hE0 ?_)
  · intro i o ho
    have := h1 o (List.mem_of_getElem? (hget i o ho))
    cases hd : o.dst with
    | none => rw [hd] at this; cases this
    | some d => rw [hd] at this; exact ⟨d, rfl, by simpa using this⟩
  · intro i j oi oj hi hj hij he
    have hi' := hget i oi hi
    have hj' := hget j oj hj
    have li : i < (l.map (·.dst)).length := by rw [List.length_map]; exact (List.getElem?_eq_some_iff.1 hi').1
    have lj : j < (l.map (·.dst)).length := by rw [List.length_map]; exact (List.getElem?_eq_some_iff.1 hj').1
    refine hij ((List.getElem_inj (h₀ := li) (h₁ := lj) h2).1 ?_)
    rw [List.getElem_map, List.getElem_map, (List.getElem?_eq_some_iff.1 hi').2, (List.getElem?_eq_some_iff.1 hj').2, he]
  · intro i o ho e he
    have hi' := hget i o ho
    have := h3 (o, i) (by rw [List.mem_zipIdx_iff_getElem?]; exact hi')
    rw [Array.all_eq_true_iff_forall_mem] at this
    simpa using this e he
  · intro i hi
    simp [Array.getD, Array.getElem_replicate] at hi

/-- The operations' own obligations, one by one in the text's order. -/
def stepsAll2 (P : Program) (ops : Array Oper) (a0 : Act) (w0 : World) (E : World → World → Prop) (V : Nat → Value → World → Prop) : Nat → List Oper → Prop
  | _, [] => True
  | k, o :: r => (∀ a w, FrameOf ops a0 a → E w0 w → (∀ e ∈ o.after, Region.binds .any e = true → V e.on (valOf ops a e.on) w) →
      StepOk P ops E V k o a w) ∧ stepsAll2 P ops a0 w0 E V (k + 1) r

theorem stepsAll2_at {P : Program} {ops : Array Oper} {a0 : Act} {w0 : World} {E : World → World → Prop} {V : Nat → Value → World → Prop} : ∀ (l : List Oper) (k : Nat), stepsAll2 P ops a0 w0 E V k l →
    ∀ (i : Nat) (o : Oper), l[i]? = some o → ∀ a w, FrameOf ops a0 a → E w0 w → (∀ e ∈ o.after, Region.binds .any e = true → V e.on (valOf ops a e.on) w) →
      StepOk P ops E V (k + i) o a w
  | [], _, _, i, o, h => by simp at h
  | o' :: r, k, hs, 0, o, h => by simp at h; subst h; exact hs.1
  | o' :: r, k, hs, i + 1, o, h => by
    have := stepsAll2_at r (k + 1) hs.2 i o (by simpa using h)
    rw [show k + (i + 1) = k + 1 + i by omega]
    exact this

/-- The whole, the operations' obligations one by one. -/
theorem wp_region_any2 {P : Program} {id : Nat} {l : List Oper} {Q : Exit → Act → World → Prop} {a0 : Act} {w0 : World} (E : World → World → Prop) (V : Nat → Value → World → Prop)
    (hm : P.follows .mixedOrders = true) (hB : relB a0.tmps.size l = true) (hE0 : E w0 { w0 with drawn := w0.drawn + 1 }) (hrf : ∀ w, E w w) (htr : ∀ w w' w'', E w w' → E w' w'' → E w w'')
    (hstab : ∀ i v w w', V i v w → E w w' → V i v w') (hstep : stepsAll2 P l.toArray a0 w0 E V 0 l)
    (hend : ∀ a w, FrameOf l.toArray a0 a → E w0 w → (∀ i, i < l.length → V i (valOf l.toArray a i) w) → Q .normal a w) :
    (Code.region id l.toArray true).wp P Q a0 w0 :=
  wp_region_rel2 E V hm hB hE0 hrf htr hstab (fun i o a w ho => by have := stepsAll2_at l 0 hstep i o (by simpa using ho) a w; simpa using this) hend

/-- Slots set, one behind the other. -/
def putsV (a : Act) (ds : List (Option Nat × Value)) : Act := ds.foldl (fun b x => b.put x.1 x.2) a
theorem act_ext {a b : Act} (hs : a.tmps.size = b.tmps.size) (hd : a.defers = b.defers) (h : ∀ t, a.eval (.tmp t) = b.eval (.tmp t)) : a = b := by
  obtain ⟨ta, da⟩ := a
  obtain ⟨tb, db⟩ := b
  simp only at hs hd
  subst hd
  congr 1
  apply Array.ext hs
  intro i h1 h2
  have := h i
  simpa [Act.eval, h1, h2] using this
theorem act_puts {a : Act} : ∀ (ds : List (Option Nat × Value)) (a0 : Act), a.tmps.size = a0.tmps.size → a.defers = a0.defers → (∀ x ∈ ds, ∃ d, x.1 = some d ∧ d < a0.tmps.size ∧ a.eval (.tmp d) = x.2) →
    (∀ t, (∀ x ∈ ds, x.1 ≠ some t) → a.eval (.tmp t) = a0.eval (.tmp t)) → a = putsV a0 ds
  | [], a0, hs, hd, _, h2 => act_ext hs hd fun t => h2 t (fun x hx => by cases hx)
  | x :: r, a0, hs, hd, h1, h2 => by
    obtain ⟨d, hxd, hlt, hv⟩ := h1 x (by simp)
    show a = putsV (a0.put x.1 x.2) r
    refine act_puts r (a0.put x.1 x.2) ?_ ?_ (fun y hy => ?_) (fun t ht => ?_)
    · rw [hxd, Act.size_put]; exact hs
    · rw [hxd, Act.defers_put']; exact hd
    · obtain ⟨e, h3, h4, h5⟩ := h1 y (by simp [hy])
      exact ⟨e, h3, by rw [hxd, Act.size_put]; exact h4, h5⟩
    · by_cases e : t = d
      · subst e
        rw [hxd, Act.eval_put_same _ _ _ hlt]; exact hv
      · rw [hxd, Act.eval_put_ne _ _ _ _ (fun h => e h.symm)]
        exact h2 t fun y hy => by
          rcases List.mem_cons.1 hy with rfl | hy
          · rw [hxd]; intro h; exact e (Option.some.inj h).symm
          · exact ht y hy

/-- The slots of a region's operations, and their values. -/
def dstsV (vs : Nat → Value) : Nat → List Oper → List (Option Nat × Value)
  | _, [] => []
  | k, o :: r => (o.dst, vs k) :: dstsV vs (k + 1) r
theorem dstsV_mem {vs : Nat → Value} : ∀ {l : List Oper} {k : Nat} {x : Option Nat × Value}, x ∈ dstsV vs k l → ∃ i o, l[i]? = some o ∧ x = (o.dst, vs (k + i))
  | [], _, _, h => by cases h
  | o :: r, k, x, h => by
    rcases List.mem_cons.1 h with rfl | h
    · exact ⟨0, o, rfl, rfl⟩
    · obtain ⟨i, o', h1, rfl⟩ := dstsV_mem h
      exact ⟨i + 1, o', by simpa using h1, by rw [show k + 1 + i = k + (i + 1) by omega]⟩
theorem dstsV_of {vs : Nat → Value} : ∀ {l : List Oper} {k i : Nat} {o : Oper}, l[i]? = some o → (o.dst, vs (k + i)) ∈ dstsV vs k l
  | [], _, i, o, h => by simp at h
  | o' :: r, k, 0, o, h => by simp at h; subst h; simp [dstsV]
  | o' :: r, k, i + 1, o, h => by
    have := dstsV_of (vs := vs) (l := r) (k := k + 1) (i := i) (o := o) (by simpa using h)
    rw [show k + (i + 1) = k + 1 + i by omega]
    exact List.mem_cons_of_mem _ this

/-- The whole, what comes behind with the slots laid out. -/
theorem wp_region_any3 {P : Program} {id : Nat} {l : List Oper} {Q : Exit → Act → World → Prop} {a0 : Act} {w0 : World} (E : World → World → Prop) (V : Nat → Value → World → Prop)
    (hm : P.follows .mixedOrders = true) (hB : relB a0.tmps.size l = true) (hE0 : E w0 { w0 with drawn := w0.drawn + 1 }) (hrf : ∀ w, E w w) (htr : ∀ w w' w'', E w w' → E w' w'' → E w w'')
    (hstab : ∀ i v w w', V i v w → E w w' → V i v w') (hstep : stepsAll2 P l.toArray a0 w0 E V 0 l)
    (hend : ∀ (vs : Nat → Value) w, E w0 w → (∀ i, i < l.length → V i (vs i) w) → Q .normal (putsV a0 (dstsV vs 0 l)) w) :
    (Code.region id l.toArray true).wp P Q a0 w0 := by
  refine wp_region_any2 E V hm hB hE0 hrf htr hstab hstep fun a w hF hE hV => ?_
  simp only [relB, Bool.and_eq_true, List.all_eq_true, decide_eq_true_eq] at hB
  obtain ⟨⟨h1, _⟩, _⟩ := hB
  have e : a = putsV a0 (dstsV (fun i => valOf l.toArray a i) 0 l) := by
    refine act_puts _ _ hF.1 hF.2.1 (fun x hx => ?_) (fun t ht => hF.2.2 t fun i o ho => ?_)
    · obtain ⟨i, o, ho, rfl⟩ := dstsV_mem hx
      have := h1 o (List.mem_of_getElem? ho)
      cases hd : o.dst with
      | none => rw [hd] at this; cases this
      | some d =>
        rw [hd] at this
        refine ⟨d, rfl, by simpa using this, ?_⟩
        unfold valOf
        rw [Nat.zero_add, show l.toArray[i]? = some o by simpa using ho, Option.bind_some, hd]
    · exact ht _ (dstsV_of (k := 0) (show l[i]? = some o by simpa using ho))
  rw [e]
  exact hend _ w hE hV

end Go.Proofs.YtjknflpclniiiaaDoor

/-
  As Rel2, for regions whose operations also write slots that earlier ones read, or have no slot (stores). No program stands in it.
-/
namespace Go.Proofs.YtjknflpclniiiaaDoor
open Go.RowKit

/-- What an operation leaves in its slot; one without a slot leaves nothing. -/
def slotV (o : Oper) (v : Value) : Value := match o.dst with | some _ => v | none => undef
def StepAt (P : Program) (ops : Array Oper) (E : World → World → Prop) (V : Nat → Value → World → Prop) (i : Nat) (o : Oper) (a : Act) (w : World) : Prop :=
  (Region.wanted o (yielded ops a.tmps) = true ∧ relUpon P (fun v w' => E w w' ∧ V i (slotV o v) w') ((execOp a.eval o).run P w)) ∨ (Region.wanted o (yielded ops a.tmps) = false ∧ V i undef w)
/-- Slots that are as they were when operation i comes: whoever writes them waits for it. -/
def FrameAt (md : Region.Mode) (ops : Array Oper) (a0 a : Act) (i : Nat) : Prop :=
  ∀ t, (∀ (j : Nat) (o : Oper), ops[j]? = some o → o.dst = some t → ∃ e ∈ o.after, Region.binds md e = true ∧ e.on = i) → a.eval (.tmp t) = a0.eval (.tmp t)

theorem getD_set_same {l : Array Bool} {i : Nat} (h : l.getD i true = false) : (l.setIfInBounds i true).getD i false = true := by
  have hi : i < l.size := by
    rcases Nat.lt_or_ge i l.size with h' | h'
    · exact h'
    · simp [Array.getD, Nat.not_lt.2 h'] at h
  simp [hi]
theorem getD_set_other {l : Array Bool} {i k : Nat} (h : k ≠ i) : (l.setIfInBounds i true).getD k false = l.getD k false := by
  simp only [Array.getD_eq_getD_getElem?, Array.getElem?_setIfInBounds_ne (Ne.symm h)]
theorem getD_true_false {l : Array Bool} {i : Nat} (h : l.getD i true = false) : l.getD i false = false := by
  have hi : i < l.size := by
    rcases Nat.lt_or_ge i l.size with h' | h'
    · exact h'
    · simp [Array.getD, Nat.not_lt.2 h'] at h
  simpa [Array.getD, hi] using h

theorem wpAny_rel3 {P : Program} {md : Region.Mode} {ops : Array Oper} {Q : Exit → Act → World → Prop} (E : World → World → Prop) (V : Nat → Value → World → Prop) (a0 : Act) (w0 : World)
    (hrf : ∀ w, E w w) (htr : ∀ w w' w'', E w w' → E w' w'' → E w w'') (hstab : ∀ i v w w', V i v w → E w w' → V i v w')
    (hdst : ∀ (i : Nat) (o : Oper) (d : Nat), ops[i]? = some o → o.dst = some d → d < a0.tmps.size)
    (hne : ∀ (i j : Nat) (oi oj : Oper) (d : Nat), ops[i]? = some oi → ops[j]? = some oj → i ≠ j → oi.dst = some d → oj.dst ≠ some d)
    (hord : ∀ (i : Nat) (o : Oper), ops[i]? = some o → ∀ e ∈ o.after, Region.binds md e = true → e.on < i)
    (hstep : ∀ (i : Nat) (o : Oper) (a : Act) (w : World), ops[i]? = some o → FrameAt md ops a0 a i → E w0 w → (∀ e ∈ o.after, Region.binds md e = true → V e.on (valOf ops a e.on) w) → StepAt P ops E V i o a w)
    (hend : ∀ a w, FrameOf ops a0 a → E w0 w → (∀ i, i < ops.size → V i (valOf ops a i) w) → Q .normal a w) :
    ∀ (fuel : Nat) (listed : Array Bool) (a : Act) (w : World), listed.size = ops.size → listed.toList.count false = fuel → a.tmps.size = a0.tmps.size → a.defers = a0.defers →
      (∀ t, (∀ (i : Nat) (o : Oper), ops[i]? = some o → o.dst = some t → listed.getD i false = false) → a.eval (.tmp t) = a0.eval (.tmp t)) →
      (∀ (j : Nat) (o : Oper), ops[j]? = some o → listed.getD j false = true → ∀ e ∈ o.after, Region.binds md e = true → listed.getD e.on false = true) → E w0 w →
      (∀ i, listed.getD i false = true → V i (valOf ops a i) w) → wpAny P md ops Q fuel listed a w := by
  have hall : ∀ (listed : Array Bool), listed.size = ops.size → Region.ready md ops listed = [] → ∀ i, i < ops.size → listed.getD i false = true := by
    intro listed hsz hr i
    induction i using Nat.strongRecOn with
    | ind i ih =>
      intro hi
      cases hl : listed.getD i true with
      | true => simpa [Array.getD, hsz, hi] using hl
      | false =>
        have : i ∈ Region.ready md ops listed := mem_ready.2 ⟨hl, ops[i], by simp [hi], fun e he hb => ih e.on (hord i _ (by simp [hi]) e he hb) (Nat.lt_trans (hord i _ (by simp [hi]) e he hb) hi)⟩
        rw [hr] at this
        cases this
  have hfin : ∀ (listed : Array Bool) (a : Act), listed.size = ops.size → a.tmps.size = a0.tmps.size → a.defers = a0.defers →
      (∀ t, (∀ (i : Nat) (o : Oper), ops[i]? = some o → o.dst = some t → listed.getD i false = false) → a.eval (.tmp t) = a0.eval (.tmp t)) → FrameOf ops a0 a := fun listed a _ h1 h2 h3 =>
    ⟨h1, h2, fun t ht => h3 t fun i o ho hd => absurd hd (ht i o ho)⟩
  intro fuel
  induction fuel with
  | zero =>
    intro listed a w hsz hc h1 h2 h3 h4 hE hV
    have hno : Region.ready md ops listed = [] := by
      cases hr : Region.ready md ops listed with
      | nil => rfl
      | cons j r =>
        have hj : j ∈ Region.ready md ops listed := by rw [hr]; simp
        have := (count_set (mem_ready.1 hj).1).1
        omega
    exact ⟨hno, hend a w (hfin listed a hsz h1 h2 h3) hE fun i hi => hV i (hall listed hsz hno i hi)⟩
  | succ fuel ih =>
    intro listed a w hsz hc h1 h2 h3 h4 hE hV
    refine ⟨fun hno => hend a w (hfin listed a hsz h1 h2 h3) hE fun i hi => hV i (hall listed hsz hno i hi), fun i hi => ?_⟩
    obtain ⟨hl, o, ho, hdep⟩ := mem_ready.1 hi
    have hlf := getD_true_false hl
    have hFA : FrameAt md ops a0 a i := fun t ht => h3 t fun j oj hoj hdj => by
      obtain ⟨e, he, hb, hon⟩ := ht j oj hoj hdj
      cases hlj : listed.getD j false with
      | false => rfl
      | true =>
        have := h4 j oj hoj hlj e he hb
        rw [hon, hlf] at this
        cases this
    have hst := hstep i o a w ho hFA hE (fun e he hb => hV e.on (hdep e he hb))
    have hcs := count_set hl
    have key : ∀ v w', E w w' → V i (slotV o v) w' → wpAny P md ops Q fuel (listed.setIfInBounds i true) (a.put o.dst v) w' := by
      intro v w' hE' hv
      refine ih _ _ _ (by rw [hcs.2]; exact hsz) (by omega) (by rw [Act.size_put]; exact h1) (by rw [Act.defers_put']; exact h2) ?_ ?_ (htr _ _ _ hE hE') ?_
      · intro t ht
        have hti : o.dst ≠ some t := fun hd => by
          have := ht i o ho hd
          rw [getD_set_same hl] at this
          cases this
        have e : (a.put o.dst v).eval (.tmp t) = a.eval (.tmp t) := by
          cases hd : o.dst with
          | none => rfl
          | some d => exact Act.eval_put_ne _ _ _ _ (fun e => hti (by rw [hd, e]))
        rw [e]
        refine h3 t fun j oj hoj hdj => ?_
        have hji : j ≠ i := fun e => by
          subst e
          rw [ho] at hoj
          cases hoj
          exact hti hdj
        have := ht j oj hoj hdj
        rwa [getD_set_other hji] at this
      · intro j oj hoj hlj e he hb
        by_cases hji : j = i
        · subst hji
          rw [ho] at hoj
          cases hoj
          by_cases hei : e.on = j
          · rw [hei]; exact getD_set_same hl
          · rw [getD_set_other hei]; exact hdep e he hb
        · rw [getD_set_other hji] at hlj
          by_cases hei : e.on = i
          · rw [hei]; exact getD_set_same hl
          · rw [getD_set_other hei]; exact h4 j oj hoj hlj e he hb
      · intro k hk
        by_cases hki : k = i
        · subst hki
          have : valOf ops (a.put o.dst v) k = slotV o v := by
            unfold valOf slotV
            cases hd : o.dst with
            | none => simp [ho, hd]
            | some d =>
              simp only [ho, Option.bind_some, hd]
              exact Act.eval_put_same _ _ _ (by rw [h1]; exact hdst k o d ho hd)
          rw [this]
          exact hv
        · rw [getD_set_other hki] at hk
          have : valOf ops (a.put o.dst v) k = valOf ops a k := by
            unfold valOf
            cases hok : ops[k]? with
            | none => rfl
            | some ok =>
              cases hdk : ok.dst with
              | none => simp [hdk]
              | some dk =>
                simp only [Option.bind_some, hdk]
                cases hd : o.dst with
                | none => rfl
                | some d => exact Act.eval_put_ne _ _ _ _ (fun e => hne i k o ok d ho hok (Ne.symm hki) hd (by rw [hdk, e]))
          rw [this]
          exact hstab _ _ _ _ (hV k hk) hE'
    unfold wpOp
    simp only [ho]
    rcases hst with ⟨hw, hrun⟩ | ⟨hw, hv⟩
    · simp only [hw, if_true]
      exact .inl (wp_of_relUpon hrun fun v w' ⟨hE', hv⟩ => key v w' hE' hv)
    · rw [if_neg (by rw [hw]; simp)]
      refine key undef w (hrf w) ?_
      have : slotV o undef = undef := by unfold slotV; split <;> rfl
      rw [this]; exact hv

/-- What is asked of a region's text. -/
def relB3 (n : Nat) (ops : List Oper) : Bool :=
  ops.all (fun o => match o.dst with | some d => decide (d < n) | none => true) && decide (ops.filterMap (·.dst)).Nodup && (ops.zipIdx.all fun x => x.1.after.all fun e => !Region.binds .any e || decide (e.on < x.2))

theorem filterMap_nodup {l : List Oper} (h : (l.filterMap (·.dst)).Nodup) : ∀ (i j : Nat) (oi oj : Oper) (d : Nat), l[i]? = some oi → l[j]? = some oj → i ≠ j → oi.dst = some d → oj.dst ≠ some d := by
  induction l with
  | nil => intro i j oi oj d hi; simp at hi
  | cons o r ih =>
    have hr : (r.filterMap (·.dst)).Nodup := by
      rw [List.filterMap_cons] at h
      split at h
      · exact h
      · exact (List.nodup_cons.1 h).2
    intro i j oi oj d hi hj hij hd hdj
    have mem : ∀ (k : Nat) (ok : Oper), r[k]? = some ok → ok.dst = some d → d ∈ r.filterMap (·.dst) := fun k ok hk hkd => List.mem_filterMap.2 ⟨ok, List.mem_of_getElem? hk, hkd⟩
    match i, j with
    | 0, 0 => exact hij rfl
    | 0, j + 1 =>
      simp only [List.getElem?_cons_zero, Option.some.injEq] at hi
      subst hi
      rw [List.filterMap_cons, hd] at h
      exact (List.nodup_cons.1 h).1 (mem j oj (by simpa using hj) hdj)
    | i + 1, 0 =>
      simp only [List.getElem?_cons_zero, Option.some.injEq] at hj
      subst hj
      rw [List.filterMap_cons, hdj] at h
      exact (List.nodup_cons.1 h).1 (mem i oi (by simpa using hi) hd)
    | i + 1, j + 1 => exact ih hr i j oi oj d (by simpa using hi) (by simpa using hj) (by omega) hd hdj

/-- The operations' own obligations, one by one in the text's order. -/
def stepsAll3 (P : Program) (ops : Array Oper) (a0 : Act) (w0 : World) (E : World → World → Prop) (V : Nat → Value → World → Prop) : Nat → List Oper → Prop
  | _, [] => True
  | k, o :: r => (∀ a w, FrameAt .any ops a0 a k → E w0 w → (∀ e ∈ o.after, Region.binds .any e = true → V e.on (valOf ops a e.on) w) → StepAt P ops E V k o a w) ∧ stepsAll3 P ops a0 w0 E V (k + 1) r
theorem stepsAll3_at {P : Program} {ops : Array Oper} {a0 : Act} {w0 : World} {E : World → World → Prop} {V : Nat → Value → World → Prop} : ∀ (l : List Oper) (k : Nat), stepsAll3 P ops a0 w0 E V k l →
    ∀ (i : Nat) (o : Oper), l[i]? = some o → ∀ a w, FrameAt .any ops a0 a (k + i) → E w0 w → (∀ e ∈ o.after, Region.binds .any e = true → V e.on (valOf ops a e.on) w) → StepAt P ops E V (k + i) o a w
  | [], _, _, i, o, h => by simp at h
  | o' :: r, k, hs, 0, o, h => by simp at h; subst h; exact hs.1
  | o' :: r, k, hs, i + 1, o, h => by
    have := stepsAll3_at r (k + 1) hs.2 i o (by simpa using h)
    rw [show k + (i + 1) = k + 1 + i by omega]
    exact this

theorem act_puts3 {a : Act} : ∀ (ds : List (Option Nat × Value)) (a0 : Act), a.tmps.size = a0.tmps.size → a.defers = a0.defers → (∀ x ∈ ds, ∀ d, x.1 = some d → d < a0.tmps.size ∧ a.eval (.tmp d) = x.2) →
    (∀ t, (∀ x ∈ ds, x.1 ≠ some t) → a.eval (.tmp t) = a0.eval (.tmp t)) → a = putsV a0 ds
  | [], a0, hs, hd, _, h2 => act_ext hs hd fun t => h2 t (fun x hx => by cases hx)
  | x :: r, a0, hs, hd, h1, h2 => by
    show a = putsV (a0.put x.1 x.2) r
    refine act_puts3 r (a0.put x.1 x.2) ?_ ?_ (fun y hy e h3 => ?_) (fun t ht => ?_)
    · rw [Act.size_put]; exact hs
    · rw [Act.defers_put']; exact hd
    · rw [Act.size_put]; exact h1 y (by simp [hy]) e h3
    · by_cases e : x.1 = some t
      · obtain ⟨hlt, hv⟩ := h1 x (by simp) t e
        rw [e, Act.eval_put_same _ _ _ hlt]; exact hv
      · have e2 : (a0.put x.1 x.2).eval (.tmp t) = a0.eval (.tmp t) := by
          cases hd : x.1 with
          | none => rfl
          | some d => exact Act.eval_put_ne _ _ _ _ (fun h => e (by rw [hd, h]))
        rw [e2]
        exact h2 t fun y hy => by
          rcases List.mem_cons.1 hy with rfl | hy
          · exact e
          · exact ht y hy

/-- The whole, what comes behind with the slots laid out. -/
theorem wp_region_rel4 {P : Program} {id : Nat} {l : List Oper} {Q : Exit → Act → World → Prop} {a0 : Act} {w0 : World} (E : World → World → Prop) (V : Nat → Value → World → Prop)
    (hm : P.follows .mixedOrders = true) (hB : relB3 a0.tmps.size l = true) (hE0 : E w0 { w0 with drawn := w0.drawn + 1 }) (hrf : ∀ w, E w w) (htr : ∀ w w' w'', E w w' → E w' w'' → E w w'')
    (hstab : ∀ i v w w', V i v w → E w w' → V i v w') (hstep : stepsAll3 P l.toArray a0 w0 E V 0 l)
    (hend : ∀ (vs : Nat → Value) w, E w0 w → (∀ i, i < l.length → V i (vs i) w) → Q .normal (putsV a0 (dstsV vs 0 l)) w) :
    (Code.region id l.toArray true).wp P Q a0 w0 := by
  simp only [relB3, Bool.and_eq_true, List.all_eq_true, decide_eq_true_eq] at hB
  obtain ⟨⟨h1, h2⟩, h3⟩ := hB
  have hget : ∀ (i : Nat) (o : Oper), l.toArray[i]? = some o → l[i]? = some o := fun i o h => by simpa using h
  have hd : ∀ (i : Nat) (o : Oper) (d : Nat), l.toArray[i]? = some o → o.dst = some d → d < a0.tmps.size := fun i o d ho hd => by
    have := h1 o (List.mem_of_getElem? (hget i o ho))
    rw [hd] at this
    simpa using this
  refine wp_region_any hm (wpAny_rel3 E V a0 w0 hrf htr hstab hd (fun i j oi oj d hi hj => filterMap_nodup h2 i j oi oj d (hget i oi hi) (hget j oj hj)) ?_
    (fun i o a w ho => by have := stepsAll3_at l 0 hstep i o (hget i o ho) a w; simpa using this) (fun a w hF hE hV => ?_) _ _ _ _ (by simp) (by simp) rfl rfl (fun _ _ => rfl) (fun j o _ hlj => ?_) hE0 ?_)
  · intro i o ho e he hb
    have hi' := hget i o ho
    have := h3 (o, i) (by rw [List.mem_zipIdx_iff_getElem?]; exact hi')
    rw [Array.all_eq_true_iff_forall_mem] at this
    have h := this e he
    rw [hb] at h
    simpa using h
  · have e : a = putsV a0 (dstsV (fun i => valOf l.toArray a i) 0 l) := by
      refine act_puts3 _ _ hF.1 hF.2.1 (fun x hx d hxd => ?_) (fun t ht => hF.2.2 t fun i o ho => ?_)
      · obtain ⟨i, o, ho, rfl⟩ := dstsV_mem hx
        refine ⟨hd i o d (by simpa using ho) hxd, ?_⟩
        have hod : o.dst = some d := hxd
        unfold valOf
        rw [Nat.zero_add, show l.toArray[i]? = some o by simpa using ho, Option.bind_some, hod]
      · exact ht _ (dstsV_of (k := 0) (show l[i]? = some o by simpa using ho))
    rw [e]
    exact hend _ w hE fun i hi => hV i (by simpa using hi)
  · simp [Array.getD, Array.getElem_replicate] at hlj
  · intro i hi
    simp [Array.getD, Array.getElem_replicate] at hi

/-- A slot that is as it was when operation i comes. -/
theorem FrameAt.at {l : List Oper} {a0 a : Act} {i : Nat} (h : FrameAt .any l.toArray a0 a i) (t : Nat) (hB : (l.all fun o => o.dst != some t || o.after.any fun e => Region.binds .any e && e.on == i) = true) : a.eval (.tmp t) = a0.eval (.tmp t) := by
  refine h t fun j o ho hd => ?_
  have := List.all_eq_true.1 hB o (List.mem_of_getElem? (show l[j]? = some o by simpa using ho))
  rw [hd] at this
  simp only [bne_self_eq_false, Bool.false_or] at this
  obtain ⟨k, hk, h1⟩ := Array.any_eq_true.1 this
  rw [Bool.and_eq_true, beq_iff_eq] at h1
  exact ⟨_, Array.getElem_mem hk, h1.1, h1.2⟩

end Go.Proofs.YtjknflpclniiiaaDoor

/-
  A region that draws its order: each operation's value told by a word that later worlds keep.
-/
namespace Go.Proofs.YtjknflpclniiiaaDoor
open Go.RowKit

/-- What is said of a value and a world, and stays said while what was there stands. -/
structure MP where
  p : Value → World → Prop
  on : ∀ {v : Value} {w w' : World}, p v w → Below w.heap.size w w' → p v w'
def eqP (x : Value) : MP := ⟨fun v _ => v = x, fun h _ => h⟩
def anyP : MP := ⟨fun _ _ => True, fun _ _ => trivial⟩

theorem wp_region_mp {P : Program} {id : Nat} {l : List Oper} {Q : Exit → Act → World → Prop} {a0 : Act} {w0 : World} (L : List MP)
    (hm : P.follows .mixedOrders = true) (hB : relB3 a0.tmps.size l = true) (hstep : stepsAll3 P l.toArray a0 w0 (fun W W' => Below W.heap.size W W') (fun j => (L.getD j anyP).p) 0 l)
    (hend : ∀ (vs : Nat → Value) w, Below w0.heap.size w0 w → (∀ i, i < l.length → (L.getD i anyP).p (vs i) w) → Q .normal (putsV a0 (dstsV vs 0 l)) w) :
    (Code.region id l.toArray true).wp P Q a0 w0 :=
  wp_region_rel4 (fun W W' => Below W.heap.size W W') (fun j => (L.getD j anyP).p) hm hB (Below.refl _ _).drew (fun _ => Below.refl _ _) (fun _ _ _ h1 h2 => h1.trans (h2.mono h1.size)) (fun _ _ _ _ h hb => MP.on _ h hb) hstep hend

theorem yielded_undef {ops : Array Oper} {a : Act} {j d : Nat} (hd : (ops[j]?).bind (·.dst) = some d) (h : a.eval (.tmp d) = undef) : yielded ops a.tmps j = none := by
  unfold yielded
  rw [hd, Option.bind_some]
  simp only [Act.eval, Array.getD_eq_getD_getElem?] at h
  cases ht : a.tmps[d]? with
  | none => rfl
  | some v => rw [ht] at h; simp at h; subst h; rfl

end Go.Proofs.YtjknflpclniiiaaDoor

/-
  A region that draws its order, by an invariant of which operations have run, the slots and the world. No program stands in it.
-/
namespace Go.Proofs.YtjknflpclniiiaaDoor
open Go.RowKit

theorem wpAny_inv {P : Program} {md : Region.Mode} {ops : Array Oper} {Q : Exit → Act → World → Prop} (I : Array Bool → Act → World → Prop)
    (hord : ∀ (i : Nat) (o : Oper), ops[i]? = some o → ∀ e ∈ o.after, Region.binds md e = true → e.on < i)
    (hstep : ∀ (listed : Array Bool) (i : Nat) (o : Oper) (a : Act) (w : World), ops[i]? = some o → listed.size = ops.size → I listed a w → listed.getD i true = false → (∀ e ∈ o.after, Region.binds md e = true → listed.getD e.on false = true) →
      (Region.wanted o (yielded ops a.tmps) = true ∧ relUpon P (fun v w' => I (listed.setIfInBounds i true) (a.put o.dst v) w') ((execOp a.eval o).run P w)) ∨ (Region.wanted o (yielded ops a.tmps) = false ∧ I (listed.setIfInBounds i true) (a.put o.dst undef) w))
    (hend : ∀ (listed : Array Bool) a w, (∀ i, i < ops.size → listed.getD i false = true) → I listed a w → Q .normal a w) :
    ∀ (fuel : Nat) (listed : Array Bool) (a : Act) (w : World), listed.size = ops.size → listed.toList.count false = fuel → I listed a w → wpAny P md ops Q fuel listed a w := by
  have hall : ∀ (listed : Array Bool), listed.size = ops.size → Region.ready md ops listed = [] → ∀ i, i < ops.size → listed.getD i false = true := by
    intro listed hsz hr i
    induction i using Nat.strongRecOn with
    | ind i ih =>
      intro hi
      cases hl : listed.getD i true with
      | true => simpa [Array.getD, hsz, hi] using hl
      | false =>
        have : i ∈ Region.ready md ops listed := mem_ready.2 ⟨hl, ops[i], by simp [hi], fun e he hb => ih e.on (hord i _ (by simp [hi]) e he hb) (Nat.lt_trans (hord i _ (by simp [hi]) e he hb) hi)⟩
        rw [hr] at this
        cases this
  intro fuel
  induction fuel with
  | zero =>
    intro listed a w hsz hc hI
    have hno : Region.ready md ops listed = [] := by
      cases hr : Region.ready md ops listed with
      | nil => rfl
      | cons j r =>
        have hj : j ∈ Region.ready md ops listed := by rw [hr]; simp
        have := (count_set (mem_ready.1 hj).1).1
        omega
    exact ⟨hno, hend listed a w (hall listed hsz hno) hI⟩
  | succ fuel ih =>
    intro listed a w hsz hc hI
    refine ⟨fun hno => hend listed a w (hall listed hsz hno) hI, fun i hi => ?_⟩
    obtain ⟨hl, o, ho, hdep⟩ := mem_ready.1 hi
    have hst := hstep listed i o a w ho hsz hI hl hdep
    have hcs := count_set hl
    unfold wpOp
    simp only [ho]
    rcases hst with ⟨hw, hrun⟩ | ⟨hw, hI'⟩
    · simp only [hw, if_true]
      exact .inl (wp_of_relUpon hrun fun v w' hI' => ih _ _ _ (by rw [hcs.2]; exact hsz) (by omega) hI')
    · rw [if_neg (by rw [hw]; simp)]
      exact ih _ _ _ (by rw [hcs.2]; exact hsz) (by omega) hI'

/-- Each operation waits for earlier ones alone. -/
def ordB (ops : List Oper) : Bool := ops.zipIdx.all fun x => x.1.after.all fun e => !Region.binds .any e || decide (e.on < x.2)

def stepsI (P : Program) (ops : Array Oper) (I : Array Bool → Act → World → Prop) : Nat → List Oper → Prop
  | _, [] => True
  | k, o :: r => (∀ (listed : Array Bool) a w, listed.size = ops.size → I listed a w → listed.getD k true = false → (∀ e ∈ o.after, Region.binds .any e = true → listed.getD e.on false = true) →
      (Region.wanted o (yielded ops a.tmps) = true ∧ relUpon P (fun v w' => I (listed.setIfInBounds k true) (a.put o.dst v) w') ((execOp a.eval o).run P w)) ∨ (Region.wanted o (yielded ops a.tmps) = false ∧ I (listed.setIfInBounds k true) (a.put o.dst undef) w)) ∧ stepsI P ops I (k + 1) r
theorem stepsI_at {P : Program} {ops : Array Oper} {I : Array Bool → Act → World → Prop} : ∀ (l : List Oper) (k : Nat), stepsI P ops I k l →
    ∀ (i : Nat) (o : Oper), l[i]? = some o → ∀ (listed : Array Bool) a w, listed.size = ops.size → I listed a w → listed.getD (k + i) true = false → (∀ e ∈ o.after, Region.binds .any e = true → listed.getD e.on false = true) →
      (Region.wanted o (yielded ops a.tmps) = true ∧ relUpon P (fun v w' => I (listed.setIfInBounds (k + i) true) (a.put o.dst v) w') ((execOp a.eval o).run P w)) ∨ (Region.wanted o (yielded ops a.tmps) = false ∧ I (listed.setIfInBounds (k + i) true) (a.put o.dst undef) w)
  | [], _, _, i, o, h => by simp at h
  | o' :: r, k, hs, 0, o, h => by simp at h; subst h; exact hs.1
  | o' :: r, k, hs, i + 1, o, h => by
    have := stepsI_at r (k + 1) hs.2 i o (by simpa using h)
    rw [show k + (i + 1) = k + 1 + i by omega]
    exact this

theorem wp_region_inv {P : Program} {id : Nat} {l : List Oper} {Q : Exit → Act → World → Prop} {a0 : Act} {w0 : World} (I : Array Bool → Act → World → Prop)
    (hm : P.follows .mixedOrders = true) (hB : ordB l = true) (h0 : I (Array.replicate l.toArray.size false) a0 { w0 with drawn := w0.drawn + 1 })
    (hstep : stepsI P l.toArray I 0 l)
    (hend : ∀ (listed : Array Bool) a w, (∀ i, i < l.length → listed.getD i false = true) → I listed a w → Q .normal a w) :
    (Code.region id l.toArray true).wp P Q a0 w0 := by
  unfold ordB at hB
  rw [List.all_eq_true] at hB
  have hget : ∀ (i : Nat) (o : Oper), l.toArray[i]? = some o → l[i]? = some o := fun i o h => by simpa using h
  refine wp_region_any hm (wpAny_inv I ?_ (fun listed i o a w ho => by have := stepsI_at l 0 hstep i o (hget i o ho) listed a w; simpa using this) (fun listed a w hA hI => hend listed a w (fun i hi => hA i (by simpa using hi)) hI) _ _ _ _ (by simp) (by simp) h0)
  intro i o ho e he hb
  have hi' := hget i o ho
  have := hB (o, i) (by rw [List.mem_zipIdx_iff_getElem?]; exact hi')
  rw [Array.all_eq_true_iff_forall_mem] at this
  have h := this e he
  rw [hb] at h
  simpa using h

end Go.Proofs.YtjknflpclniiiaaDoor

/-
  A region that draws its order: some operations' values are known ahead, of the others (rows that calls make, one on top of another) a condition tells, over which operations have run, the values and the world. No program stands in it.
-/
namespace Go.Proofs.YtjknflpclniiiaaDoor
open Go.RowKit

structure ToldInv (ops : Array Oper) (a0 : Act) (vals : Nat → Value) (tells : Nat → Bool) (S : (Nat → Bool) → (Nat → Value) → World → Prop) (listed : Array Bool) (a : Act) (w : World) : Prop where
  size : a.tmps.size = a0.tmps.size
  defers : a.defers = a0.defers
  frame : ∀ t, (∀ (i : Nat) (o : Oper), ops[i]? = some o → o.dst = some t → listed.getD i false = false) → a.eval (.tmp t) = a0.eval (.tmp t)
  deps : ∀ (j : Nat) (o : Oper), ops[j]? = some o → listed.getD j false = true → ∀ e ∈ o.after, Region.binds .any e = true → listed.getD e.on false = true
  vals : ∀ i, listed.getD i false = true → tells i = false → valOf ops a i = vals i
  world : S (fun i => listed.getD i false) (valOf ops a) w

/-- What is asked of operation k: run (or passed by) in whatever order, it yields its value, if that is known, and the condition holds on. -/
def StepT (P : Program) (ops : Array Oper) (vals : Nat → Value) (tells : Nat → Bool) (S : (Nat → Bool) → (Nat → Value) → World → Prop) (k : Nat) (o : Oper) (L : Nat → Bool) (T : Nat → Value) (a : Act) (w : World) : Prop :=
  (Region.wanted o (yielded ops a.tmps) = true ∧ relUpon P (fun v w' => (tells k = false → slotV o v = vals k) ∧ S (fun i => L i || k == i) (fun i => if i = k then slotV o v else T i) w') ((execOp a.eval o).run P w)) ∨
  (Region.wanted o (yielded ops a.tmps) = false ∧ (tells k = false → vals k = undef) ∧ S (fun i => L i || k == i) (fun i => if i = k then undef else T i) w)

theorem toldInv_step {ops : Array Oper} {a0 : Act} {vals : Nat → Value} {tells : Nat → Bool} {S : (Nat → Bool) → (Nat → Value) → World → Prop} {listed : Array Bool} {a : Act} {w w' : World} {i : Nat} {o : Oper} {v : Value}
    (hdst : ∀ (i : Nat) (o : Oper) (d : Nat), ops[i]? = some o → o.dst = some d → d < a0.tmps.size)
    (hne : ∀ (i j : Nat) (oi oj : Oper) (d : Nat), ops[i]? = some oi → ops[j]? = some oj → i ≠ j → oi.dst = some d → oj.dst ≠ some d)
    (hI : ToldInv ops a0 vals tells S listed a w) (ho : ops[i]? = some o) (hl : listed.getD i true = false) (hdep : ∀ e ∈ o.after, Region.binds .any e = true → listed.getD e.on false = true)
    (hv : tells i = false → slotV o v = vals i) (hS : S (fun k => listed.getD k false || i == k) (fun k => if k = i then slotV o v else valOf ops a k) w') :
    ToldInv ops a0 vals tells S (listed.setIfInBounds i true) (a.put o.dst v) w' := by
  have hflag : (fun k => (listed.setIfInBounds i true).getD k false) = (fun k => (listed.getD k false || i == k)) := funext fun k => by
    by_cases hk : k = i
    · subst hk; rw [getD_set_same hl]; simp
    · rw [getD_set_other hk]; simp [Ne.symm hk]
  have hval : valOf ops (a.put o.dst v) = (fun k => if k = i then slotV o v else valOf ops a k) := funext fun k => by
    by_cases hki : k = i
    · subst hki
      rw [if_pos rfl]
      unfold valOf slotV
      cases hd : o.dst with
      | none => simp [ho, hd]
      | some d =>
        simp only [ho, Option.bind_some, hd]
        exact Act.eval_put_same _ _ _ (by rw [hI.size]; exact hdst k o d ho hd)
    · rw [if_neg hki]
      unfold valOf
      cases hok : ops[k]? with
      | none => rfl
      | some ok =>
        cases hdk : ok.dst with
        | none => simp [hdk]
        | some dk =>
          simp only [Option.bind_some, hdk]
          cases hd : o.dst with
          | none => rfl
          | some d => exact Act.eval_put_ne _ _ _ _ (fun e => hne i k o ok d ho hok (Ne.symm hki) hd (by rw [hdk, e]))
  refine ⟨by rw [Act.size_put]; exact hI.size, by rw [Act.defers_put']; exact hI.defers, ?_, ?_, ?_, by rw [hflag, hval]; exact hS⟩
  · intro t ht
    have hti : o.dst ≠ some t := fun hd => by
      have := ht i o ho hd
      rw [getD_set_same hl] at this
      cases this
    have e : (a.put o.dst v).eval (.tmp t) = a.eval (.tmp t) := by
      cases hd : o.dst with
      | none => rfl
      | some d => exact Act.eval_put_ne _ _ _ _ (fun e => hti (by rw [hd, e]))
    rw [e]
    refine hI.frame t fun j oj hoj hdj => ?_
    have hji : j ≠ i := fun e => by
      subst e
      rw [ho] at hoj
      cases hoj
      exact hti hdj
    have := ht j oj hoj hdj
    rwa [getD_set_other hji] at this
  · intro j oj hoj hlj e he hb
    by_cases hji : j = i
    · subst hji
      rw [ho] at hoj
      cases hoj
      by_cases hei : e.on = j
      · rw [hei]; exact getD_set_same hl
      · rw [getD_set_other hei]; exact hdep e he hb
    · rw [getD_set_other hji] at hlj
      by_cases hei : e.on = i
      · rw [hei]; exact getD_set_same hl
      · rw [getD_set_other hei]; exact hI.deps j oj hoj hlj e he hb
  · intro k hk ht
    rw [hval]
    by_cases hki : k = i
    · subst hki
      show (if k = k then _ else _) = _
      rw [if_pos rfl]
      exact hv ht
    · rw [getD_set_other hki] at hk
      show (if k = i then _ else _) = _
      rw [if_neg hki]
      exact hI.vals k hk ht

/-- The operations' own obligations, one by one in the text's order. -/
def stepsT (P : Program) (ops : Array Oper) (a0 : Act) (vals : Nat → Value) (tells : Nat → Bool) (S : (Nat → Bool) → (Nat → Value) → World → Prop) : Nat → List Oper → Prop
  | _, [] => True
  | k, o :: r => (∀ a w L T, FrameAt .any ops a0 a k → (∀ e ∈ o.after, Region.binds .any e = true → tells e.on = false → valOf ops a e.on = vals e.on) → (∀ e ∈ o.after, Region.binds .any e = true → valOf ops a e.on = T e.on) → (∀ e ∈ o.after, Region.binds .any e = true → L e.on = true) → L k = false → S L T w → StepT P ops vals tells S k o L T a w) ∧ stepsT P ops a0 vals tells S (k + 1) r
theorem stepsT_at {P : Program} {ops : Array Oper} {a0 : Act} {vals : Nat → Value} {tells : Nat → Bool} {S : (Nat → Bool) → (Nat → Value) → World → Prop} : ∀ (l : List Oper) (k : Nat), stepsT P ops a0 vals tells S k l →
    ∀ (i : Nat) (o : Oper), l[i]? = some o → ∀ a w L T, FrameAt .any ops a0 a (k + i) → (∀ e ∈ o.after, Region.binds .any e = true → tells e.on = false → valOf ops a e.on = vals e.on) → (∀ e ∈ o.after, Region.binds .any e = true → valOf ops a e.on = T e.on) → (∀ e ∈ o.after, Region.binds .any e = true → L e.on = true) → L (k + i) = false → S L T w → StepT P ops vals tells S (k + i) o L T a w
  | [], _, _, i, o, h => by simp at h
  | o' :: r, k, hs, 0, o, h => by simp at h; subst h; exact hs.1
  | o' :: r, k, hs, i + 1, o, h => by
    have := stepsT_at r (k + 1) hs.2 i o (by simpa using h)
    rw [show k + (i + 1) = k + 1 + i by omega]
    exact this

theorem wp_region_told {P : Program} {id : Nat} {l : List Oper} {Q : Exit → Act → World → Prop} {a0 : Act} {w0 : World} (vals : List Value) (told : List Nat) (S : (Nat → Bool) → (Nat → Value) → World → Prop)
    (hm : P.follows .mixedOrders = true) (hB : relB3 a0.tmps.size l = true) (h0 : ∀ T, S (fun _ => false) T { w0 with drawn := w0.drawn + 1 })
    (hstep : stepsT P l.toArray a0 (fun i => vals.getD i undef) (fun i => told.contains i) S 0 l)
    (hend : ∀ (vs : Nat → Value) (L : Nat → Bool) w, (∀ i, i < l.length → L i = true) → (∀ i, i < l.length → told.contains i = false → vs i = vals.getD i undef) → S L vs w → Q .normal (putsV a0 (dstsV vs 0 l)) w) :
    (Code.region id l.toArray true).wp P Q a0 w0 := by
  have hB' := hB
  simp only [relB3, Bool.and_eq_true, List.all_eq_true, decide_eq_true_eq] at hB
  obtain ⟨⟨h1, h2⟩, h3⟩ := hB
  have hget : ∀ (i : Nat) (o : Oper), l.toArray[i]? = some o → l[i]? = some o := fun i o h => by simpa using h
  have hd : ∀ (i : Nat) (o : Oper) (d : Nat), l.toArray[i]? = some o → o.dst = some d → d < a0.tmps.size := fun i o d ho hd => by
    have := h1 o (List.mem_of_getElem? (hget i o ho))
    rw [hd] at this
    simpa using this
  have hne : ∀ (i j : Nat) (oi oj : Oper) (d : Nat), l.toArray[i]? = some oi → l.toArray[j]? = some oj → i ≠ j → oi.dst = some d → oj.dst ≠ some d := fun i j oi oj d hi hj => filterMap_nodup h2 i j oi oj d (hget i oi hi) (hget j oj hj)
  refine wp_region_any hm (wpAny_inv (ToldInv l.toArray a0 (fun i => vals.getD i undef) (fun i => told.contains i) S) ?_ ?_ ?_ _ _ _ _ (by simp) (by simp) ?_)
  · intro i o ho e he hb
    have hi' := hget i o ho
    have := h3 (o, i) (by rw [List.mem_zipIdx_iff_getElem?]; exact hi')
    rw [Array.all_eq_true_iff_forall_mem] at this
    have h := this e he
    rw [hb] at h
    simpa using h
  · intro listed i o a w ho hsz hI hl hdep
    have hlf := getD_true_false hl
    have hFA : FrameAt .any l.toArray a0 a i := fun t ht => hI.frame t fun j oj hoj hdj => by
      obtain ⟨e, he, hb, hon⟩ := ht j oj hoj hdj
      cases hlj : listed.getD j false with
      | false => rfl
      | true =>
        have := hI.deps j oj hoj hlj e he hb
        rw [hon, hlf] at this
        cases this
    have hst := stepsT_at l 0 hstep i o (hget i o ho) a w (fun i => listed.getD i false) (valOf l.toArray a) (by rw [Nat.zero_add]; exact hFA) (fun e he hb ht => hI.vals e.on (hdep e he hb) ht) (fun _ _ _ => rfl) (fun e he hb => hdep e he hb) (by rw [Nat.zero_add]; exact hlf) hI.world
    rw [Nat.zero_add] at hst
    rcases hst with ⟨hw, hrun⟩ | ⟨hw, hu, hS⟩
    · refine .inl ⟨hw, ?_⟩
      revert hrun
      generalize (execOp a.eval o).run P w = r
      intro hrun
      cases r with
      | ok n w' =>
        cases n <;> simp only [relUpon] at hrun ⊢
        case value u => exact toldInv_step hd hne hI ho hl hdep hrun.1 hrun.2
        case skip => exact toldInv_step hd hne hI ho hl hdep hrun.1 hrun.2
        case enter f args => exact hrun.mono fun e w'' ⟨v, he, h1, h2⟩ => ⟨v, he, toldInv_step hd hne hI ho hl hdep h1 h2⟩
      | halt x w' => simp only [relUpon] at hrun
    · have hz : slotV o undef = undef := by unfold slotV; split <;> rfl
      refine .inr ⟨hw, toldInv_step hd hne hI ho hl hdep (fun ht => ?_) ?_⟩
      · rw [hz]; exact (hu ht).symm
      · rw [hz]; exact hS
  · intro listed a w hall hI
    have e : a = putsV a0 (dstsV (valOf l.toArray a) 0 l) := by
      refine act_puts3 _ _ hI.size hI.defers (fun x hx d hxd => ?_) (fun t ht => hI.frame t fun i o ho hod => ?_)
      · obtain ⟨i, o, ho, rfl⟩ := dstsV_mem hx
        refine ⟨hd i o d (by simpa using ho) hxd, ?_⟩
        have hod : o.dst = some d := hxd
        rw [Nat.zero_add]
        show a.eval (.tmp d) = valOf l.toArray a i
        unfold valOf
        rw [show l.toArray[i]? = some o by simpa using ho, Option.bind_some, hod]
      · exact absurd hod (ht _ (dstsV_of (k := 0) (show l[i]? = some o by simpa using hget i o ho)))
    rw [e]
    exact hend (valOf l.toArray a) _ w (fun i hi => hall i (by simpa using hi)) (fun i hi ht => hI.vals i (hall i (by simpa using hi)) ht) hI.world
  · have hz : ∀ k, (Array.replicate l.toArray.size false).getD k false = false := fun k => by
      simp [Array.getD, Array.getElem_replicate]
    refine ⟨rfl, rfl, fun _ _ => rfl, fun j o _ hlj => ?_, fun i hi => ?_, ?_⟩
    · rw [hz] at hlj; cases hlj
    · rw [hz] at hi; cases hi
    · rw [show (fun i => (Array.replicate l.toArray.size false).getD i false) = (fun _ => false) from funext hz]
      exact h0 _

end Go.Proofs.YtjknflpclniiiaaDoor
