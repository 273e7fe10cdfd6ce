/-
  Rel, Rel2, Rel3, Rel4, Rel6, Rel7, RelFlags, RelGhost.
-/
import Derived.OrdersHeld
import Derived.Great.Frames
import Derived.WalkKit
import Derived.StillTail

/-
  A region that draws its order and makes memory: an operation's value is told by a relation (a value, a world), which later worlds keep. Each operation is looked at once, whatever came before it but for what it waits for. No program stands in it.
-/
namespace Go.Proofs.YtomhmndpjkfppaaDoor
open Go.RowKit

/-- What is asked of an operation's run. -/
def relUpon (P : Program) (post : Value → World → Prop) : Result Next → Prop
  | .ok (.value u) w' => post u w'
  | .ok .skip w' => post undef w'
  | .ok (.enter f args) w' => Calls P f args w' fun e w'' => ∃ v, e = .returned v ∧ post v w''
  | _ => False

theorem wp_of_relUpon {P : Program} {o : Oper} {a : Act} {w : World} {post : Value → World → Prop} {K : Act → World → Prop} {Q : Exit → Act → World → Prop}
    (h : relUpon P post ((execOp a.eval o).run P w)) (hK : ∀ v w', post v w' → K (a.put o.dst v) w') : o.wp P a w K Q := by
  unfold Oper.wp
  generalize (execOp a.eval o).run P w = r at *
  cases r with
  | ok n w' =>
    cases n <;> simp only [relUpon] at h <;> simp only [Oper.upon]
    case value u => exact hK _ _ h
    case skip => exact hK _ _ h
    case enter f args => exact h.mono fun e w'' ⟨v, he, hp⟩ => by subst he; exact hK _ _ hp
  | halt x w' => simp only [relUpon] at h

/-- The slots that the region's operations don't write are as they were. -/
def FrameOf (ops : Array Oper) (a0 a : Act) : Prop :=
  a.tmps.size = a0.tmps.size ∧ a.defers = a0.defers ∧ ∀ t, (∀ (i : Nat) (o : Oper), ops[i]? = some o → o.dst ≠ some t) → a.eval (.tmp t) = a0.eval (.tmp t)

/-- The value of operation i. -/
def valOf (ops : Array Oper) (a : Act) (i : Nat) : Value := match (ops[i]?).bind (·.dst) with | some d => a.eval (.tmp d) | none => undef

theorem count_set {l : Array Bool} {i : Nat} (h : l.getD i true = false) : (l.setIfInBounds i true).toList.count false + 1 = l.toList.count false ∧ (l.setIfInBounds i true).size = l.size := by
  have hi : i < l.size := by
    rcases Nat.lt_or_ge i l.size with h' | h'
    · exact h'
    · simp [Array.getD, Nat.not_lt.2 h'] at h
  have hv : l[i] = false := by simpa [Array.getD, hi] using h
  refine ⟨?_, by simp⟩
  rw [Array.toList_setIfInBounds, List.count_set (by simpa using hi)]
  have hp : 0 < l.toList.count false := List.count_pos_iff.2 (by rw [← hv]; simp)
  have hg : l.toList[i] = false := by simpa using hv
  rw [hg]
  have e1 : (if (false == false) = true then 1 else 0) = 1 := rfl
  have e2 : (if (true == false) = true then 1 else 0) = 0 := rfl
  rw [e1, e2]
  omega

theorem wpAny_rel {P : Program} {md : Region.Mode} {ops : Array Oper} {Q : Exit → Act → World → Prop} (E : World → World → Prop) (V : Nat → Value → World → Prop) (a0 : Act) (w0 : World)
    (htr : ∀ w w' w'', E w w' → E w' w'' → E w w'') (hstab : ∀ i v w w', V i v w → E w w' → V i v w')
    (hdst : ∀ (i : Nat) (o : Oper), ops[i]? = some o → ∃ d, o.dst = some d ∧ d < a0.tmps.size)
    (hne : ∀ (i j : Nat) (oi oj : Oper), ops[i]? = some oi → ops[j]? = some oj → i ≠ j → oi.dst ≠ oj.dst)
    (hord : ∀ (i : Nat) (o : Oper), ops[i]? = some o → ∀ e ∈ o.after, e.on < i)
    (hstep : ∀ (i : Nat) (o : Oper) (a : Act) (w : World), ops[i]? = some o → FrameOf ops a0 a → E w0 w → (∀ e ∈ o.after, Region.binds md e = true → V e.on (valOf ops a e.on) w) →
      Region.wanted o (yielded ops a.tmps) = true ∧ relUpon P (fun v w' => E w w' ∧ V i v w') ((execOp a.eval o).run P w))
    (hend : ∀ a w, FrameOf ops a0 a → E w0 w → (∀ i, i < ops.size → V i (valOf ops a i) w) → Q .normal a w) :
    ∀ (fuel : Nat) (listed : Array Bool) (a : Act) (w : World), listed.size = ops.size → listed.toList.count false = fuel → FrameOf ops a0 a → E w0 w →
      (∀ i, listed.getD i false = true → V i (valOf ops a i) w) → wpAny P md ops Q fuel listed a w := by
  have hall : ∀ (listed : Array Bool), listed.size = ops.size → Region.ready md ops listed = [] → ∀ i, i < ops.size → listed.getD i false = true := by
    intro listed hsz hr i
    induction i using Nat.strongRecOn with
    | ind i ih =>
      intro hi
      cases hl : listed.getD i true with
      | true => simpa [Array.getD, hsz, hi] using hl
      | false =>
        have : i ∈ Region.ready md ops listed := mem_ready.2 ⟨hl, ops[i], by simp [hi], fun e he _ => ih e.on (hord i _ (by simp [hi]) e he) (Nat.lt_trans (hord i _ (by simp [hi]) e he) hi)⟩
        rw [hr] at this
        cases this
  intro fuel
  induction fuel with
  | zero =>
    intro listed a w hsz hc hF hE hV
    have hno : Region.ready md ops listed = [] := by
      cases hr : Region.ready md ops listed with
      | nil => rfl
      | cons j r =>
        have hj : j ∈ Region.ready md ops listed := by rw [hr]; simp
        have := (count_set (mem_ready.1 hj).1).1
        omega
    exact ⟨hno, hend a w hF hE fun i hi => hV i (hall listed hsz hno i hi)⟩
  | succ fuel ih =>
    intro listed a w hsz hc hF hE hV
    refine ⟨fun hno => hend a w hF hE fun i hi => hV i (hall listed hsz hno i hi), fun i hi => ?_⟩
    obtain ⟨hl, o, ho, hdep⟩ := mem_ready.1 hi
    obtain ⟨hw, hrun⟩ := hstep i o a w ho hF hE (fun e he hb => hV e.on (hdep e he hb))
    obtain ⟨d, hd, hlt⟩ := hdst i o ho
    unfold wpOp
    simp only [ho, hw, if_true]
    refine .inl (wp_of_relUpon hrun fun v w' ⟨hE', hv⟩ => ?_)
    have hcs := count_set hl
    have hds : d < a.tmps.size := by rw [hF.1]; exact hlt
    rw [hd]
    refine ih _ _ _ (by rw [hcs.2]; exact hsz) (by omega) ⟨?_, ?_, ?_⟩ (htr _ _ _ hE hE') ?_
    · rw [Act.size_put]; exact hF.1
    · rw [Act.defers_put']; exact hF.2.1
    · intro t ht
      rw [Act.eval_put_ne _ _ _ _ (fun e => ht i o ho (by rw [hd, e]))]
      exact hF.2.2 t ht
    · intro k hk
      by_cases hki : k = i
      · subst hki
        have : valOf ops (a.put (some d) v) k = v := by unfold valOf; simp only [ho, Option.bind_some, hd]; exact Act.eval_put_same _ _ _ hds
        rw [this]
        exact hv
      · have hk' : listed.getD k false = true := by
          simp only [Array.getD_eq_getD_getElem?, Array.getElem?_setIfInBounds_ne (Ne.symm hki)] at hk ⊢
          exact hk
        have : valOf ops (a.put (some d) v) k = valOf ops a k := by
          unfold valOf
          cases hok : ops[k]? with
          | none => rfl
          | some ok =>
            cases hdk : ok.dst with
            | none => simp [hdk]
            | some dk =>
              simp only [Option.bind_some, hdk]
              exact Act.eval_put_ne _ _ _ _ (fun e => hne i k o ok ho hok (Ne.symm hki) (by rw [hd, hdk, e]))
        rw [this]
        exact hstab _ _ _ _ (hV k hk') hE'

/-- What is asked of a region's text: each operation has a slot of its own, and waits for earlier ones alone. -/
def relB (n : Nat) (ops : List Oper) : Bool :=
  ops.all (fun o => match o.dst with | some d => decide (d < n) | none => false) && decide (ops.map (·.dst)).Nodup && (ops.zipIdx.all fun x => x.1.after.all fun e => decide (e.on < x.2))

theorem wp_region_rel {P : Program} {id : Nat} {l : List Oper} {Q : Exit → Act → World → Prop} {a0 : Act} {w0 : World} (E : World → World → Prop) (V : Nat → Value → World → Prop)
    (hm : P.follows .mixedOrders = true) (hB : relB a0.tmps.size l = true)
    (hE0 : E w0 { w0 with drawn := w0.drawn + 1 }) (htr : ∀ w w' w'', E w w' → E w' w'' → E w w'') (hstab : ∀ i v w w', V i v w → E w w' → V i v w')
    (hstep : ∀ (i : Nat) (o : Oper) (a : Act) (w : World), l.toArray[i]? = some o → FrameOf l.toArray a0 a → E w0 w → (∀ e ∈ o.after, Region.binds .any e = true → V e.on (valOf l.toArray a e.on) w) →
      Region.wanted o (yielded l.toArray a.tmps) = true ∧ relUpon P (fun v w' => E w w' ∧ V i v w') ((execOp a.eval o).run P w))
    (hend : ∀ a w, FrameOf l.toArray a0 a → E w0 w → (∀ i, i < l.length → V i (valOf l.toArray a i) w) → Q .normal a w) :
    (Code.region id l.toArray true).wp P Q a0 w0 := by
  simp only [relB, Bool.and_eq_true, List.all_eq_true, decide_eq_true_eq] at hB
  obtain ⟨⟨h1, h2⟩, h3⟩ := hB
  have hget : ∀ (i : Nat) (o : Oper), l.toArray[i]? = some o → l[i]? = some o := fun i o h => by simpa using h
  refine wp_region_any hm (wpAny_rel E V a0 w0 htr hstab ?_ ?_ ?_ hstep (by simpa using hend) _ _ _ _ (by simp) (by simp) ⟨rfl, rfl, fun _ _ => rfl⟩ hE0 ?_)
  · intro i o ho
    have := h1 o (List.mem_of_getElem? (hget i o ho))
    cases hd : o.dst with
    | none => rw [hd] at this; cases this
    | some d => rw [hd] at this; exact ⟨d, rfl, by simpa using this⟩
  · intro i j oi oj hi hj hij he
    have hi' := hget i oi hi
    have hj' := hget j oj hj
    have li : i < (l.map (·.dst)).length := by rw [List.length_map]; exact (List.getElem?_eq_some_iff.1 hi').1
    have lj : j < (l.map (·.dst)).length := by rw [List.length_map]; exact (List.getElem?_eq_some_iff.1 hj').1
    refine hij ((List.getElem_inj (h₀ := li) (h₁ := lj) h2).1 ?_)
    rw [List.getElem_map, List.getElem_map, (List.getElem?_eq_some_iff.1 hi').2, (List.getElem?_eq_some_iff.1 hj').2, he]
  · intro i o ho e he
    have hi' := hget i o ho
    have := h3 (o, i) (by rw [List.mem_zipIdx_iff_getElem?]; exact hi')
    rw [Array.all_eq_true_iff_forall_mem] at this
    simpa using this e he
  · intro i hi
    simp [Array.getD, Array.getElem_replicate] at hi

/-- The operations' own obligations, one by one in the text's order. -/
def stepsAll (P : Program) (ops : Array Oper) (a0 : Act) (w0 : World) (E : World → World → Prop) (V : Nat → Value → World → Prop) : Nat → List Oper → Prop
  | _, [] => True
  | k, o :: r => (∀ a w, FrameOf ops a0 a → E w0 w → (∀ e ∈ o.after, Region.binds .any e = true → V e.on (valOf ops a e.on) w) →
      Region.wanted o (yielded ops a.tmps) = true ∧ relUpon P (fun v w' => E w w' ∧ V k v w') ((execOp a.eval o).run P w)) ∧ stepsAll P ops a0 w0 E V (k + 1) r

theorem stepsAll_at {P : Program} {ops : Array Oper} {a0 : Act} {w0 : World} {E : World → World → Prop} {V : Nat → Value → World → Prop} : ∀ (l : List Oper) (k : Nat), stepsAll P ops a0 w0 E V k l →
    ∀ (i : Nat) (o : Oper), l[i]? = some o → ∀ a w, FrameOf ops a0 a → E w0 w → (∀ e ∈ o.after, Region.binds .any e = true → V e.on (valOf ops a e.on) w) →
      Region.wanted o (yielded ops a.tmps) = true ∧ relUpon P (fun v w' => E w w' ∧ V (k + i) v w') ((execOp a.eval o).run P w)
  | [], _, _, i, o, h => by simp at h
  | o' :: r, k, hs, 0, o, h => by simp at h; subst h; exact hs.1
  | o' :: r, k, hs, i + 1, o, h => by
    have := stepsAll_at r (k + 1) hs.2 i o (by simpa using h)
    rw [show k + (i + 1) = k + 1 + i by omega]
    exact this

/-- At the class 'what was there stands'. -/
theorem wp_region_new {P : Program} {id : Nat} {l : List Oper} {Q : Exit → Act → World → Prop} {a0 : Act} {w0 : World} (V : Nat → Value → World → Prop)
    (hm : P.follows .mixedOrders = true) (hB : relB a0.tmps.size l = true) (hstab : ∀ i v w w', V i v w → Below w.heap.size w w' → V i v w')
    (hstep : stepsAll P l.toArray a0 w0 (fun w w' => Below w.heap.size w w') V 0 l)
    (hend : ∀ a w, FrameOf l.toArray a0 a → Below w0.heap.size w0 w → (∀ i, i < l.length → V i (valOf l.toArray a i) w) → Q .normal a w) :
    (Code.region id l.toArray true).wp P Q a0 w0 :=
  wp_region_rel (fun w w' => Below w.heap.size w w') V hm hB ((Below.refl _ _).drew) (fun _ _ _ h1 h2 => h1.trans (h2.mono h1.size)) hstab
    (fun i o a w ho => by have := stepsAll_at l 0 hstep i o (by simpa using ho) a w; simpa using this) hend

/-- A slot that no operation of the region writes. -/
theorem FrameOf.at {l : List Oper} {a0 a : Act} (h : FrameOf l.toArray a0 a) (t : Nat) (hB : (l.all fun o => o.dst != some t) = true) : a.eval (.tmp t) = a0.eval (.tmp t) := by
  refine h.2.2 t fun i o ho => ?_
  have := List.all_eq_true.1 hB o (List.mem_of_getElem? (show l[i]? = some o by simpa using ho))
  simpa using this

theorem yielded_of {ops : Array Oper} {a : Act} {j d : Nat} {b : Bool} (hd : (ops[j]?).bind (·.dst) = some d) (h : a.eval (.tmp d) = .bool b) : yielded ops a.tmps j = some b := by
  unfold yielded
  rw [hd, Option.bind_some]
  simp only [Act.eval, Array.getD_eq_getD_getElem?] at h
  cases ht : a.tmps[d]? with
  | none => rw [ht] at h; simp [undef] at h
  | some v => rw [ht] at h; simp at h; subst h; rfl

end Go.Proofs.YtomhmndpjkfppaaDoor

/-
  As Rel, for regions some of whose operations are not wanted (behind '&&' and '||'), and whose calls may write what the caller owns: the class of worlds is any relation that goes on. No program stands in it.
-/
namespace Go.Proofs.YtomhmndpjkfppaaDoor
open Go.RowKit

/-- What is asked of one operation: it is wanted, and its run is as told; or it is not wanted, and its slot is not set. -/
def StepOk (P : Program) (ops : Array Oper) (E : World → World → Prop) (V : Nat → Value → World → Prop) (i : Nat) (o : Oper) (a : Act) (w : World) : Prop :=
  (Region.wanted o (yielded ops a.tmps) = true ∧ relUpon P (fun v w' => E w w' ∧ V i v w') ((execOp a.eval o).run P w)) ∨ (Region.wanted o (yielded ops a.tmps) = false ∧ V i undef w)

theorem wpAny_rel2 {P : Program} {md : Region.Mode} {ops : Array Oper} {Q : Exit → Act → World → Prop} (E : World → World → Prop) (V : Nat → Value → World → Prop) (a0 : Act) (w0 : World)
    (hrf : ∀ w, E w w) (htr : ∀ w w' w'', E w w' → E w' w'' → E w w'') (hstab : ∀ i v w w', V i v w → E w w' → V i v w')
    (hdst : ∀ (i : Nat) (o : Oper), ops[i]? = some o → ∃ d, o.dst = some d ∧ d < a0.tmps.size)
    (hne : ∀ (i j : Nat) (oi oj : Oper), ops[i]? = some oi → ops[j]? = some oj → i ≠ j → oi.dst ≠ oj.dst)
    (hord : ∀ (i : Nat) (o : Oper), ops[i]? = some o → ∀ e ∈ o.after, e.on < i)
    (hstep : ∀ (i : Nat) (o : Oper) (a : Act) (w : World), ops[i]? = some o → FrameOf ops a0 a → E w0 w → (∀ e ∈ o.after, Region.binds md e = true → V e.on (valOf ops a e.on) w) →
      StepOk P ops E V i o a w)
    (hend : ∀ a w, FrameOf ops a0 a → E w0 w → (∀ i, i < ops.size → V i (valOf ops a i) w) → Q .normal a w) :
    ∀ (fuel : Nat) (listed : Array Bool) (a : Act) (w : World), listed.size = ops.size → listed.toList.count false = fuel → FrameOf ops a0 a → E w0 w →
      (∀ i, listed.getD i false = true → V i (valOf ops a i) w) → wpAny P md ops Q fuel listed a w := by
  have hall : ∀ (listed : Array Bool), listed.size = ops.size → Region.ready md ops listed = [] → ∀ i, i < ops.size → listed.getD i false = true := by
    intro listed hsz hr i
    induction i using Nat.strongRecOn with
    | ind i ih =>
      intro hi
      cases hl : listed.getD i true with
      | true => simpa [Array.getD, hsz, hi] using hl
      | false =>
        have : i ∈ Region.ready md ops listed := mem_ready.2 ⟨hl, ops[i], by simp [hi], fun e he _ => ih e.on (hord i _ (by simp [hi]) e he) (Nat.lt_trans (hord i _ (by simp [hi]) e he) hi)⟩
        rw [hr] at this
        cases this
  intro fuel
  induction fuel with
  | zero =>
    intro listed a w hsz hc hF hE hV
    have hno : Region.ready md ops listed = [] := by
      cases hr : Region.ready md ops listed with
      | nil => rfl
      | cons j r =>
        have hj : j ∈ Region.ready md ops listed := by rw [hr]; simp
        have := (count_set (mem_ready.1 hj).1).1
        omega
    exact ⟨hno, hend a w hF hE fun i hi => hV i (hall listed hsz hno i hi)⟩
  | succ fuel ih =>
    intro listed a w hsz hc hF hE hV
    refine ⟨fun hno => hend a w hF hE fun i hi => hV i (hall listed hsz hno i hi), fun i hi => ?_⟩
    obtain ⟨hl, o, ho, hdep⟩ := mem_ready.1 hi
    have hst := hstep i o a w ho hF hE (fun e he hb => hV e.on (hdep e he hb))
    obtain ⟨d, hd, hlt⟩ := hdst i o ho
    have hcs := count_set hl
    have hds : d < a.tmps.size := by rw [hF.1]; exact hlt
    have key : ∀ v w', E w w' → V i v w' → wpAny P md ops Q fuel (listed.setIfInBounds i true) (a.put (some d) v) w' := by
      intro v w' hE' hv
      refine ih _ _ _ (by rw [hcs.2]; exact hsz) (by omega) ⟨?_, ?_, ?_⟩ (htr _ _ _ hE hE') ?_
      · rw [Act.size_put]; exact hF.1
      · rw [Act.defers_put']; exact hF.2.1
      · intro t ht
        rw [Act.eval_put_ne _ _ _ _ (fun e => ht i o ho (by rw [hd, e]))]
        exact hF.2.2 t ht
      · intro k hk
        by_cases hki : k = i
        · subst hki
          have : valOf ops (a.put (some d) v) k = v := by unfold valOf; simp only [ho, Option.bind_some, hd]; exact Act.eval_put_same _ _ _ hds
          rw [this]
          exact hv
        · have hk' : listed.getD k false = true := by
            simp only [Array.getD_eq_getD_getElem?, Array.getElem?_setIfInBounds_ne (Ne.symm hki)] at hk ⊢
            exact hk
          have : valOf ops (a.put (some d) v) k = valOf ops a k := by
            unfold valOf
            cases hok : ops[k]? with
            | none => rfl
            | some ok =>
              cases hdk : ok.dst with
              | none => simp [hdk]
              | some dk =>
                simp only [Option.bind_some, hdk]
                exact Act.eval_put_ne _ _ _ _ (fun e => hne i k o ok ho hok (Ne.symm hki) (by rw [hd, hdk, e]))
          rw [this]
          exact hstab _ _ _ _ (hV k hk') hE'
    unfold wpOp
    simp only [ho]
    rcases hst with ⟨hw, hrun⟩ | ⟨hw, hv⟩
    · simp only [hw, if_true]
      refine .inl (wp_of_relUpon hrun fun v w' ⟨hE', hv⟩ => ?_)
      rw [hd]
      exact key v w' hE' hv
    · rw [if_neg (by rw [hw]; simp), hd]
      exact key undef w (hrf w) hv

theorem wp_region_rel2 {P : Program} {id : Nat} {l : List Oper} {Q : Exit → Act → World → Prop} {a0 : Act} {w0 : World} (E : World → World → Prop) (V : Nat → Value → World → Prop)
    (hm : P.follows .mixedOrders = true) (hB : relB a0.tmps.size l = true)
    (hE0 : E w0 { w0 with drawn := w0.drawn + 1 }) (hrf : ∀ w, E w w) (htr : ∀ w w' w'', E w w' → E w' w'' → E w w'') (hstab : ∀ i v w w', V i v w → E w w' → V i v w')
    (hstep : ∀ (i : Nat) (o : Oper) (a : Act) (w : World), l.toArray[i]? = some o → FrameOf l.toArray a0 a → E w0 w → (∀ e ∈ o.after, Region.binds .any e = true → V e.on (valOf l.toArray a e.on) w) →
      StepOk P l.toArray E V i o a w)
    (hend : ∀ a w, FrameOf l.toArray a0 a → E w0 w → (∀ i, i < l.length → V i (valOf l.toArray a i) w) → Q .normal a w) :
    (Code.region id l.toArray true).wp P Q a0 w0 := by
  simp only [relB, Bool.and_eq_true, List.all_eq_true, decide_eq_true_eq] at hB
  obtain ⟨⟨h1, h2⟩, h3⟩ := hB
  have hget : ∀ (i : Nat) (o : Oper), l.toArray[i]? = some o → l[i]? = some o := fun i o h => by simpa using h
  refine wp_region_any hm (wpAny_rel2 E V a0 w0 hrf htr hstab ?_ ?_ ?_ hstep (by simpa using hend) _ _ _ _ (by simp) (by simp) ⟨rfl, rfl, fun _ _ => rfl⟩ hE0 ?_)
  · intro i o ho
    have := h1 o (List.mem_of_getElem? (hget i o ho))
    cases hd : o.dst with
    | none => rw [hd] at this; cases this
    | some d => rw [hd] at this; exact ⟨d, rfl, by simpa using this⟩
  · intro i j oi oj hi hj hij he
    have hi' := hget i oi hi
    have hj' := hget j oj hj
    have li : i < (l.map (·.dst)).length := by rw [List.length_map]; exact (List.getElem?_eq_some_iff.1 hi').1
    have lj : j < (l.map (·.dst)).length := by rw [List.length_map]; exact (List.getElem?_eq_some_iff.1 hj').1
    refine hij ((List.getElem_inj (h₀ := li) (h₁ := lj) h2).1 ?_)
    rw [List.getElem_map, List.getElem_map, (List.getElem?_eq_some_iff.1 hi').2, (List.getElem?_eq_some_iff.1 hj').2, he]
  · intro i o ho e he
    have hi' := hget i o ho
    have := h3 (o, i) (by rw [List.mem_zipIdx_iff_getElem?]; exact hi')
    rw [Array.all_eq_true_iff_forall_mem] at this
    simpa using this e he
  · intro i hi
    simp [Array.getD, Array.getElem_replicate] at hi

/-- The operations' own obligations, one by one in the text's order. -/
def stepsAll2 (P : Program) (ops : Array Oper) (a0 : Act) (w0 : World) (E : World → World → Prop) (V : Nat → Value → World → Prop) : Nat → List Oper → Prop
  | _, [] => True
  | k, o :: r => (∀ a w, FrameOf ops a0 a → E w0 w → (∀ e ∈ o.after, Region.binds .any e = true → V e.on (valOf ops a e.on) w) →
      StepOk P ops E V k o a w) ∧ stepsAll2 P ops a0 w0 E V (k + 1) r

theorem stepsAll2_at {P : Program} {ops : Array Oper} {a0 : Act} {w0 : World} {E : World → World → Prop} {V : Nat → Value → World → Prop} : ∀ (l : List Oper) (k : Nat), stepsAll2 P ops a0 w0 E V k l →
    ∀ (i : Nat) (o : Oper), l[i]? = some o → ∀ a w, FrameOf ops a0 a → E w0 w → (∀ e ∈ o.after, Region.binds .any e = true → V e.on (valOf ops a e.on) w) →
      StepOk P ops E V (k + i) o a w
  | [], _, _, i, o, h => by simp at h
  | o' :: r, k, hs, 0, o, h => by simp at h; subst h; exact hs.1
  | o' :: r, k, hs, i + 1, o, h => by
    have := stepsAll2_at r (k + 1) hs.2 i o (by simpa using h)
    rw [show k + (i + 1) = k + 1 + i by omega]
    exact this

/-- The whole, the operations' obligations one by one. -/
theorem wp_region_any2 {P : Program} {id : Nat} {l : List Oper} {Q : Exit → Act → World → Prop} {a0 : Act} {w0 : World} (E : World → World → Prop) (V : Nat → Value → World → Prop)
    (hm : P.follows .mixedOrders = true) (hB : relB a0.tmps.size l = true) (hE0 : E w0 { w0 with drawn := w0.drawn + 1 }) (hrf : ∀ w, E w w) (htr : ∀ w w' w'', E w w' → E w' w'' → E w w'')
    (hstab : ∀ i v w w', V i v w → E w w' → V i v w') (hstep : stepsAll2 P l.toArray a0 w0 E V 0 l)
    (hend : ∀ a w, FrameOf l.toArray a0 a → E w0 w → (∀ i, i < l.length → V i (valOf l.toArray a i) w) → Q .normal a w) :
    (Code.region id l.toArray true).wp P Q a0 w0 :=
  wp_region_rel2 E V hm hB hE0 hrf htr hstab (fun i o a w ho => by have := stepsAll2_at l 0 hstep i o (by simpa using ho) a w; simpa using this) hend

/-- Slots set, one behind the other. -/
def putsV (a : Act) (ds : List (Option Nat × Value)) : Act := ds.foldl (fun b x => b.put x.1 x.2) a
theorem act_ext {a b : Act} (hs : a.tmps.size = b.tmps.size) (hd : a.defers = b.defers) (h : ∀ t, a.eval (.tmp t) = b.eval (.tmp t)) : a = b := by
  obtain ⟨ta, da⟩ := a
  obtain ⟨tb, db⟩ := b
  simp only at hs hd
  subst hd
  congr 1
  apply Array.ext hs
  intro i h1 h2
  have := h i
  simpa [Act.eval, h1, h2] using this
theorem act_puts {a : Act} : ∀ (ds : List (Option Nat × Value)) (a0 : Act), a.tmps.size = a0.tmps.size → a.defers = a0.defers → (∀ x ∈ ds, ∃ d, x.1 = some d ∧ d < a0.tmps.size ∧ a.eval (.tmp d) = x.2) →
    (∀ t, (∀ x ∈ ds, x.1 ≠ some t) → a.eval (.tmp t) = a0.eval (.tmp t)) → a = putsV a0 ds
  | [], a0, hs, hd, _, h2 => act_ext hs hd fun t => h2 t (fun x hx => by cases hx)
  | x :: r, a0, hs, hd, h1, h2 => by
    obtain ⟨d, hxd, hlt, hv⟩ := h1 x (by simp)
    show a = putsV (a0.put x.1 x.2) r
    refine act_puts r (a0.put x.1 x.2) ?_ ?_ (fun y hy => ?_) (fun t ht => ?_)
    · rw [hxd, Act.size_put]; exact hs
    · rw [hxd, Act.defers_put']; exact hd
    · obtain ⟨e, h3, h4, h5⟩ := h1 y (by simp [hy])
      exact ⟨e, h3, by rw [hxd, Act.size_put]; exact h4, h5⟩
    · by_cases e : t = d
      · subst e
        rw [hxd, Act.eval_put_same _ _ _ hlt]; exact hv
      · rw [hxd, Act.eval_put_ne _ _ _ _ (fun h => e h.symm)]
        exact h2 t fun y hy => by
          rcases List.mem_cons.1 hy with rfl | hy
          · rw [hxd]; intro h; exact e (Option.some.inj h).symm
          · exact ht y hy

/-- The slots of a region's operations, and their values. -/
def dstsV (vs : Nat → Value) : Nat → List Oper → List (Option Nat × Value)
  | _, [] => []
  | k, o :: r => (o.dst, vs k) :: dstsV vs (k + 1) r
theorem dstsV_mem {vs : Nat → Value} : ∀ {l : List Oper} {k : Nat} {x : Option Nat × Value}, x ∈ dstsV vs k l → ∃ i o, l[i]? = some o ∧ x = (o.dst, vs (k + i))
  | [], _, _, h => by cases h
  | o :: r, k, x, h => by
    rcases List.mem_cons.1 h with rfl | h
    · exact ⟨0, o, rfl, rfl⟩
    · obtain ⟨i, o', h1, rfl⟩ := dstsV_mem h
      exact ⟨i + 1, o', by simpa using h1, by rw [show k + 1 + i = k + (i + 1) by omega]⟩
theorem dstsV_of {vs : Nat → Value} : ∀ {l : List Oper} {k i : Nat} {o : Oper}, l[i]? = some o → (o.dst, vs (k + i)) ∈ dstsV vs k l
  | [], _, i, o, h => by simp at h
  | o' :: r, k, 0, o, h => by simp at h; subst h; simp [dstsV]
  | o' :: r, k, i + 1, o, h => by
    have := dstsV_of (vs := vs) (l := r) (k := k + 1) (i := i) (o := o) (by simpa using h)
    rw [show k + (i + 1) = k + 1 + i by omega]
    exact List.mem_cons_of_mem _ this

/-- The whole, what comes behind with the slots laid out. -/
theorem wp_region_any3 {P : Program} {id : Nat} {l : List Oper} {Q : Exit → Act → World → Prop} {a0 : Act} {w0 : World} (E : World → World → Prop) (V : Nat → Value → World → Prop)
    (hm : P.follows .mixedOrders = true) (hB : relB a0.tmps.size l = true) (hE0 : E w0 { w0 with drawn := w0.drawn + 1 }) (hrf : ∀ w, E w w) (htr : ∀ w w' w'', E w w' → E w' w'' → E w w'')
    (hstab : ∀ i v w w', V i v w → E w w' → V i v w') (hstep : stepsAll2 P l.toArray a0 w0 E V 0 l)
    (hend : ∀ (vs : Nat → Value) w, E w0 w → (∀ i, i < l.length → V i (vs i) w) → Q .normal (putsV a0 (dstsV vs 0 l)) w) :
    (Code.region id l.toArray true).wp P Q a0 w0 := by
  refine wp_region_any2 E V hm hB hE0 hrf htr hstab hstep fun a w hF hE hV => ?_
  simp only [relB, Bool.and_eq_true, List.all_eq_true, decide_eq_true_eq] at hB
  obtain ⟨⟨h1, _⟩, _⟩ := hB
  have e : a = putsV a0 (dstsV (fun i => valOf l.toArray a i) 0 l) := by
    refine act_puts _ _ hF.1 hF.2.1 (fun x hx => ?_) (fun t ht => hF.2.2 t fun i o ho => ?_)
    · obtain ⟨i, o, ho, rfl⟩ := dstsV_mem hx
      have := h1 o (List.mem_of_getElem? ho)
      cases hd : o.dst with
      | none => rw [hd] at this; cases this
      | some d =>
        rw [hd] at this
        refine ⟨d, rfl, by simpa using this, ?_⟩
        unfold valOf
        rw [Nat.zero_add, show l.toArray[i]? = some o by simpa using ho, Option.bind_some, hd]
    · exact ht _ (dstsV_of (k := 0) (show l[i]? = some o by simpa using ho))
  rw [e]
  exact hend _ w hE hV

end Go.Proofs.YtomhmndpjkfppaaDoor

/-
  As Rel2, for regions whose operations also write slots that earlier ones read, or have no slot (stores). No program stands in it.
-/
namespace Go.Proofs.YtomhmndpjkfppaaDoor
open Go.RowKit

/-- What an operation leaves in its slot; one without a slot leaves nothing. -/
def slotV (o : Oper) (v : Value) : Value := match o.dst with | some _ => v | none => undef
def StepAt (P : Program) (ops : Array Oper) (E : World → World → Prop) (V : Nat → Value → World → Prop) (i : Nat) (o : Oper) (a : Act) (w : World) : Prop :=
  (Region.wanted o (yielded ops a.tmps) = true ∧ relUpon P (fun v w' => E w w' ∧ V i (slotV o v) w') ((execOp a.eval o).run P w)) ∨ (Region.wanted o (yielded ops a.tmps) = false ∧ V i undef w)
/-- Slots that are as they were when operation i comes: whoever writes them waits for it. -/
def FrameAt (md : Region.Mode) (ops : Array Oper) (a0 a : Act) (i : Nat) : Prop :=
  ∀ t, (∀ (j : Nat) (o : Oper), ops[j]? = some o → o.dst = some t → ∃ e ∈ o.after, Region.binds md e = true ∧ e.on = i) → a.eval (.tmp t) = a0.eval (.tmp t)

theorem getD_set_same {l : Array Bool} {i : Nat} (h : l.getD i true = false) : (l.setIfInBounds i true).getD i false = true := by
  have hi : i < l.size := by
    rcases Nat.lt_or_ge i l.size with h' | h'
    · exact h'
    · simp [Array.getD, Nat.not_lt.2 h'] at h
  simp [hi]
theorem getD_set_other {l : Array Bool} {i k : Nat} (h : k ≠ i) : (l.setIfInBounds i true).getD k false = l.getD k false := by
  simp only [Array.getD_eq_getD_getElem?, Array.getElem?_setIfInBounds_ne (Ne.symm h)]
theorem getD_true_false {l : Array Bool} {i : Nat} (h : l.getD i true = false) : l.getD i false = false := by
  have hi : i < l.size := by
    rcases Nat.lt_or_ge i l.size with h' | h'
    · exact h'
    · simp [Array.getD, Nat.not_lt.2 h'] at h
  simpa [Array.getD, hi] using h

theorem wpAny_rel3 {P : Program} {md : Region.Mode} {ops : Array Oper} {Q : Exit → Act → World → Prop} (E : World → World → Prop) (V : Nat → Value → World → Prop) (a0 : Act) (w0 : World)
    (hrf : ∀ w, E w w) (htr : ∀ w w' w'', E w w' → E w' w'' → E w w'') (hstab : ∀ i v w w', V i v w → E w w' → V i v w')
    (hdst : ∀ (i : Nat) (o : Oper) (d : Nat), ops[i]? = some o → o.dst = some d → d < a0.tmps.size)
    (hne : ∀ (i j : Nat) (oi oj : Oper) (d : Nat), ops[i]? = some oi → ops[j]? = some oj → i ≠ j → oi.dst = some d → oj.dst ≠ some d)
    (hord : ∀ (i : Nat) (o : Oper), ops[i]? = some o → ∀ e ∈ o.after, Region.binds md e = true → e.on < i)
    (hstep : ∀ (i : Nat) (o : Oper) (a : Act) (w : World), ops[i]? = some o → FrameAt md ops a0 a i → E w0 w → (∀ e ∈ o.after, Region.binds md e = true → V e.on (valOf ops a e.on) w) → StepAt P ops E V i o a w)
    (hend : ∀ a w, FrameOf ops a0 a → E w0 w → (∀ i, i < ops.size → V i (valOf ops a i) w) → Q .normal a w) :
    ∀ (fuel : Nat) (listed : Array Bool) (a : Act) (w : World), listed.size = ops.size → listed.toList.count false = fuel → a.tmps.size = a0.tmps.size → a.defers = a0.defers →
      (∀ t, (∀ (i : Nat) (o : Oper), ops[i]? = some o → o.dst = some t → listed.getD i false = false) → a.eval (.tmp t) = a0.eval (.tmp t)) →
      (∀ (j : Nat) (o : Oper), ops[j]? = some o → listed.getD j false = true → ∀ e ∈ o.after, Region.binds md e = true → listed.getD e.on false = true) → E w0 w →
      (∀ i, listed.getD i false = true → V i (valOf ops a i) w) → wpAny P md ops Q fuel listed a w := by
  have hall : ∀ (listed : Array Bool), listed.size = ops.size → Region.ready md ops listed = [] → ∀ i, i < ops.size → listed.getD i false = true := by
    intro listed hsz hr i
    induction i using Nat.strongRecOn with
    | ind i ih =>
      intro hi
      cases hl : listed.getD i true with
      | true => simpa [Array.getD, hsz, hi] using hl
      | false =>
        have : i ∈ Region.ready md ops listed := mem_ready.2 ⟨hl, ops[i], by simp [hi], fun e he hb => ih e.on (hord i _ (by simp [hi]) e he hb) (Nat.lt_trans (hord i _ (by simp [hi]) e he hb) hi)⟩
        rw [hr] at this
        cases this
  have hfin : ∀ (listed : Array Bool) (a : Act), listed.size = ops.size → a.tmps.size = a0.tmps.size → a.defers = a0.defers →
      (∀ t, (∀ (i : Nat) (o : Oper), ops[i]? = some o → o.dst = some t → listed.getD i false = false) → a.eval (.tmp t) = a0.eval (.tmp t)) → FrameOf ops a0 a := fun listed a _ h1 h2 h3 =>
    ⟨h1, h2, fun t ht => h3 t fun i o ho hd => absurd hd (ht i o ho)⟩
  intro fuel
  induction fuel with
  | zero =>
    intro listed a w hsz hc h1 h2 h3 h4 hE hV
    have hno : Region.ready md ops listed = [] := by
      cases hr : Region.ready md ops listed with
      | nil => rfl
      | cons j r =>
        have hj : j ∈ Region.ready md ops listed := by rw [hr]; simp
        have := (count_set (mem_ready.1 hj).1).1
        omega
    exact ⟨hno, hend a w (hfin listed a hsz h1 h2 h3) hE fun i hi => hV i (hall listed hsz hno i hi)⟩
  | succ fuel ih =>
    intro listed a w hsz hc h1 h2 h3 h4 hE hV
    refine ⟨fun hno => hend a w (hfin listed a hsz h1 h2 h3) hE fun i hi => hV i (hall listed hsz hno i hi), fun i hi => ?_⟩
    obtain ⟨hl, o, ho, hdep⟩ := mem_ready.1 hi
    have hlf := getD_true_false hl
    have hFA : FrameAt md ops a0 a i := fun t ht => h3 t fun j oj hoj hdj => by
      obtain ⟨e, he, hb, hon⟩ := ht j oj hoj hdj
      cases hlj : listed.getD j false with
      | false => rfl
      | true =>
        have := h4 j oj hoj hlj e he hb
        rw [hon, hlf] at this
        cases this
    have hst := hstep i o a w ho hFA hE (fun e he hb => hV e.on (hdep e he hb))
    have hcs := count_set hl
    have key : ∀ v w', E w w' → V i (slotV o v) w' → wpAny P md ops Q fuel (listed.setIfInBounds i true) (a.put o.dst v) w' := by
      intro v w' hE' hv
      refine ih _ _ _ (by rw [hcs.2]; exact hsz) (by omega) (by rw [Act.size_put]; exact h1) (by rw [Act.defers_put']; exact h2) ?_ ?_ (htr _ _ _ hE hE') ?_
      · intro t ht
        have hti : o.dst ≠ some t := fun hd => by
          have := ht i o ho hd
          rw [getD_set_same hl] at this
          cases this
        have e : (a.put o.dst v).eval (.tmp t) = a.eval (.tmp t) := by
          cases hd : o.dst with
          | none => rfl
          | some d => exact Act.eval_put_ne _ _ _ _ (fun e => hti (by rw [hd, e]))
        rw [e]
        refine h3 t fun j oj hoj hdj => ?_
        have hji : j ≠ i := fun e => by
          subst e
          rw [ho] at hoj
          cases hoj
          exact hti hdj
        have := ht j oj hoj hdj
        rwa [getD_set_other hji] at this
      · intro j oj hoj hlj e he hb
        by_cases hji : j = i
        · subst hji
          rw [ho] at hoj
          cases hoj
          by_cases hei : e.on = j
          · rw [hei]; exact getD_set_same hl
          · rw [getD_set_other hei]; exact hdep e he hb
        · rw [getD_set_other hji] at hlj
          by_cases hei : e.on = i
          · rw [hei]; exact getD_set_same hl
          · rw [getD_set_other hei]; exact h4 j oj hoj hlj e he hb
      · intro k hk
        by_cases hki : k = i
        · subst hki
          have : valOf ops (a.put o.dst v) k = slotV o v := by
            unfold valOf slotV
            cases hd : o.dst with
            | none => simp [ho, hd]
            | some d =>
              simp only [ho, Option.bind_some, hd]
              exact Act.eval_put_same _ _ _ (by rw [h1]; exact hdst k o d ho hd)
          rw [this]
          exact hv
        · rw [getD_set_other hki] at hk
          have : valOf ops (a.put o.dst v) k = valOf ops a k := by
            unfold valOf
            cases hok : ops[k]? with
            | none => rfl
            | some ok =>
              cases hdk : ok.dst with
              | none => simp [hdk]
              | some dk =>
                simp only [Option.bind_some, hdk]
                cases hd : o.dst with
                | none => rfl
                | some d => exact Act.eval_put_ne _ _ _ _ (fun e => hne i k o ok d ho hok (Ne.symm hki) hd (by rw [hdk, e]))
          rw [this]
          exact hstab _ _ _ _ (hV k hk) hE'
    unfold wpOp
    simp only [ho]
    rcases hst with ⟨hw, hrun⟩ | ⟨hw, hv⟩
    · simp only [hw, if_true]
      exact .inl (wp_of_relUpon hrun fun v w' ⟨hE', hv⟩ => key v w' hE' hv)
    · rw [if_neg (by rw [hw]; simp)]
      refine key undef w (hrf w) ?_
      have : slotV o undef = undef := by unfold slotV; split <;> rfl
      rw [this]; exact hv

/-- What is asked of a region's text. -/
def relB3 (n : Nat) (ops : List Oper) : Bool :=
  ops.all (fun o => match o.dst with | some d => decide (d < n) | none => true) && decide (ops.filterMap (·.dst)).Nodup && (ops.zipIdx.all fun x => x.1.after.all fun e => !Region.binds .any e || decide (e.on < x.2))

theorem filterMap_nodup {l : List Oper} (h : (l.filterMap (·.dst)).Nodup) : ∀ (i j : Nat) (oi oj : Oper) (d : Nat), l[i]? = some oi → l[j]? = some oj → i ≠ j → oi.dst = some d → oj.dst ≠ some d := by
  induction l with
  | nil => intro i j oi oj d hi; simp at hi
  | cons o r ih =>
    have hr : (r.filterMap (·.dst)).Nodup := by
      rw [List.filterMap_cons] at h
      split at h
      · exact h
      · exact (List.nodup_cons.1 h).2
    intro i j oi oj d hi hj hij hd hdj
    have mem : ∀ (k : Nat) (ok : Oper), r[k]? = some ok → ok.dst = some d → d ∈ r.filterMap (·.dst) := fun k ok hk hkd => List.mem_filterMap.2 ⟨ok, List.mem_of_getElem? hk, hkd⟩
    match i, j with
    | 0, 0 => exact hij rfl
    | 0, j + 1 =>
      simp only [List.getElem?_cons_zero, Option.some.injEq] at hi
      subst hi
      rw [List.filterMap_cons, hd] at h
      exact (List.nodup_cons.1 h).1 (mem j oj (by simpa using hj) hdj)
    | i + 1, 0 =>
      simp only [List.getElem?_cons_zero, Option.some.injEq] at hj
      subst hj
      rw [List.filterMap_cons, hdj] at h
      exact (List.nodup_cons.1 h).1 (mem i oi (by simpa using hi) hd)
    | i + 1, j + 1 => exact ih hr i j oi oj d (by simpa using hi) (by simpa using hj) (by omega) hd hdj

/-- The operations' own obligations, one by one in the text's order. -/
def stepsAll3 (P : Program) (ops : Array Oper) (a0 : Act) (w0 : World) (E : World → World → Prop) (V : Nat → Value → World → Prop) : Nat → List Oper → Prop
  | _, [] => True
  | k, o :: r => (∀ a w, FrameAt .any ops a0 a k → E w0 w → (∀ e ∈ o.after, Region.binds .any e = true → V e.on (valOf ops a e.on) w) → StepAt P ops E V k o a w) ∧ stepsAll3 P ops a0 w0 E V (k + 1) r
theorem stepsAll3_at {P : Program} {ops : Array Oper} {a0 : Act} {w0 : World} {E : World → World → Prop} {V : Nat → Value → World → Prop} : ∀ (l : List Oper) (k : Nat), stepsAll3 P ops a0 w0 E V k l →
    ∀ (i : Nat) (o : Oper), l[i]? = some o → ∀ a w, FrameAt .any ops a0 a (k + i) → E w0 w → (∀ e ∈ o.after, Region.binds .any e = true → V e.on (valOf ops a e.on) w) → StepAt P ops E V (k + i) o a w
  | [], _, _, i, o, h => by simp at h
  | o' :: r, k, hs, 0, o, h => by simp at h; subst h; exact hs.1
  | o' :: r, k, hs, i + 1, o, h => by
    have := stepsAll3_at r (k + 1) hs.2 i o (by simpa using h)
    rw [show k + (i + 1) = k + 1 + i by omega]
    exact this

theorem act_puts3 {a : Act} : ∀ (ds : List (Option Nat × Value)) (a0 : Act), a.tmps.size = a0.tmps.size → a.defers = a0.defers → (∀ x ∈ ds, ∀ d, x.1 = some d → d < a0.tmps.size ∧ a.eval (.tmp d) = x.2) →
    (∀ t, (∀ x ∈ ds, x.1 ≠ some t) → a.eval (.tmp t) = a0.eval (.tmp t)) → a = putsV a0 ds
  | [], a0, hs, hd, _, h2 => act_ext hs hd fun t => h2 t (fun x hx => by cases hx)
  | x :: r, a0, hs, hd, h1, h2 => by
    show a = putsV (a0.put x.1 x.2) r
    refine act_puts3 r (a0.put x.1 x.2) ?_ ?_ (fun y hy e h3 => ?_) (fun t ht => ?_)
    · rw [Act.size_put]; exact hs
    · rw [Act.defers_put']; exact hd
    · rw [Act.size_put]; exact h1 y (by simp [hy]) e h3
    · by_cases e : x.1 = some t
      · obtain ⟨hlt, hv⟩ := h1 x (by simp) t e
        rw [e, Act.eval_put_same _ _ _ hlt]; exact hv
      · have e2 : (a0.put x.1 x.2).eval (.tmp t) = a0.eval (.tmp t) := by
          cases hd : x.1 with
          | none => rfl
          | some d => exact Act.eval_put_ne _ _ _ _ (fun h => e (by rw [hd, h]))
        rw [e2]
        exact h2 t fun y hy => by
          rcases List.mem_cons.1 hy with rfl | hy
          · exact e
          · exact ht y hy

/-- The whole, what comes behind with the slots laid out. -/
theorem wp_region_rel4 {P : Program} {id : Nat} {l : List Oper} {Q : Exit → Act → World → Prop} {a0 : Act} {w0 : World} (E : World → World → Prop) (V : Nat → Value → World → Prop)
    (hm : P.follows .mixedOrders = true) (hB : relB3 a0.tmps.size l = true) (hE0 : E w0 { w0 with drawn := w0.drawn + 1 }) (hrf : ∀ w, E w w) (htr : ∀ w w' w'', E w w' → E w' w'' → E w w'')
    (hstab : ∀ i v w w', V i v w → E w w' → V i v w') (hstep : stepsAll3 P l.toArray a0 w0 E V 0 l)
    (hend : ∀ (vs : Nat → Value) w, E w0 w → (∀ i, i < l.length → V i (vs i) w) → Q .normal (putsV a0 (dstsV vs 0 l)) w) :
    (Code.region id l.toArray true).wp P Q a0 w0 := by
  simp only [relB3, Bool.and_eq_true, List.all_eq_true, decide_eq_true_eq] at hB
  obtain ⟨⟨h1, h2⟩, h3⟩ := hB
  have hget : ∀ (i : Nat) (o : Oper), l.toArray[i]? = some o → l[i]? = some o := fun i o h => by simpa using h
  have hd : ∀ (i : Nat) (o : Oper) (d : Nat), l.toArray[i]? = some o → o.dst = some d → d < a0.tmps.size := fun i o d ho hd => by
    have := h1 o (List.mem_of_getElem? (hget i o ho))
    rw [hd] at this
    simpa using this
  refine wp_region_any hm (wpAny_rel3 E V a0 w0 hrf htr hstab hd (fun i j oi oj d hi hj => filterMap_nodup h2 i j oi oj d (hget i oi hi) (hget j oj hj)) ?_
    (fun i o a w ho => by have := stepsAll3_at l 0 hstep i o (hget i o ho) a w; simpa using this) (fun a w hF hE hV => ?_) _ _ _ _ (by simp) (by simp) rfl rfl (fun _ _ => rfl) (fun j o _ hlj => ?_) hE0 ?_)
  · intro i o ho e he hb
    have hi' := hget i o ho
    have := h3 (o, i) (by rw [List.mem_zipIdx_iff_getElem?]; exact hi')
    rw [Array.all_eq_true_iff_forall_mem] at this
    have h := this e he
    rw [hb] at h
    simpa using h
  · have e : a = putsV a0 (dstsV (fun i => valOf l.toArray a i) 0 l) := by
      refine act_puts3 _ _ hF.1 hF.2.1 (fun x hx d hxd => ?_) (fun t ht => hF.2.2 t fun i o ho => ?_)
      · obtain ⟨i, o, ho, rfl⟩ := dstsV_mem hx
        refine ⟨hd i o d (by simpa using ho) hxd, ?_⟩
        have hod : o.dst = some d := hxd
        unfold valOf
        rw [Nat.zero_add, show l.toArray[i]? = some o by simpa using ho, Option.bind_some, hod]
      · exact ht _ (dstsV_of (k := 0) (show l[i]? = some o by simpa using ho))
    rw [e]
    exact hend _ w hE fun i hi => hV i (by simpa using hi)
  · simp [Array.getD, Array.getElem_replicate] at hlj
  · intro i hi
    simp [Array.getD, Array.getElem_replicate] at hi

/-- A slot that is as it was when operation i comes. -/
theorem FrameAt.at {l : List Oper} {a0 a : Act} {i : Nat} (h : FrameAt .any l.toArray a0 a i) (t : Nat) (hB : (l.all fun o => o.dst != some t || o.after.any fun e => Region.binds .any e && e.on == i) = true) : a.eval (.tmp t) = a0.eval (.tmp t) := by
  refine h t fun j o ho hd => ?_
  have := List.all_eq_true.1 hB o (List.mem_of_getElem? (show l[j]? = some o by simpa using ho))
  rw [hd] at this
  simp only [bne_self_eq_false, Bool.false_or] at this
  obtain ⟨k, hk, h1⟩ := Array.any_eq_true.1 this
  rw [Bool.and_eq_true, beq_iff_eq] at h1
  exact ⟨_, Array.getElem_mem hk, h1.1, h1.2⟩

end Go.Proofs.YtomhmndpjkfppaaDoor

/-
  As Rel3, for regions whose last operations go one behind the other, when all the others are done: those are walked as any other text. No program stands in it.
-/
namespace Go.Proofs.YtomhmndpjkfppaaDoor
open Go.RowKit

/-- The first n are done, the others not. -/
def doneB (n m : Nat) : Array Bool := (List.replicate n true ++ List.replicate (m - n) false).toArray

theorem done_of {listed : Array Bool} {n m : Nat} (hnm : n ≤ m) (hs : listed.size = m) (h1 : ∀ i, i < n → listed.getD i false = true) (h2 : ∀ t, n ≤ t → t < m → listed.getD t true = false) : listed = doneB n m := by
  unfold doneB
  apply Array.ext (by simp [hs]; omega)
  intro i hi hi'
  have e : (List.replicate n true ++ List.replicate (m - n) false).toArray[i] = (List.replicate n true ++ List.replicate (m - n) false)[i]'(by simpa using hi') := rfl
  rw [e]
  rcases Nat.lt_or_ge i n with h | h
  · rw [List.getElem_append_left (by simpa using h), List.getElem_replicate]
    have := h1 i h
    simpa [Array.getD, hi] using this
  · rw [List.getElem_append_right (by simpa using h), List.getElem_replicate]
    have := h2 i h (by omega)
    simpa [Array.getD, hi] using this
theorem done_count (n m : Nat) : (doneB n m).toList.count false = m - n := by
  unfold doneB
  simp [List.count_append, List.count_replicate]

theorem wpAny_head {P : Program} {md : Region.Mode} {ops : Array Oper} {Q : Exit → Act → World → Prop} (n : Nat) (E : World → World → Prop) (V : Nat → Value → World → Prop) (a0 : Act) (w0 : World)
    (hn : n < ops.size) (hs : Region.sinkB md ops n = true) (hc : Region.chainB md ops n = true)
    (hrf : ∀ w, E w w) (htr : ∀ w w' w'', E w w' → E w' w'' → E w w'') (hstab : ∀ i v w w', V i v w → E w w' → V i v w')
    (hdst : ∀ (i : Nat) (o : Oper) (d : Nat), i < n → ops[i]? = some o → o.dst = some d → d < a0.tmps.size)
    (hne : ∀ (i j : Nat) (oi oj : Oper) (d : Nat), i < n → j < n → ops[i]? = some oi → ops[j]? = some oj → i ≠ j → oi.dst = some d → oj.dst ≠ some d)
    (hord : ∀ (i : Nat) (o : Oper), i < n → ops[i]? = some o → ∀ e ∈ o.after, Region.binds md e = true → e.on < i)
    (hstep : ∀ (i : Nat) (o : Oper) (a : Act) (w : World), i < n → ops[i]? = some o → FrameAt md (ops.extract 0 n) a0 a i → E w0 w → (∀ e ∈ o.after, Region.binds md e = true → V e.on (valOf ops a e.on) w) → StepAt P ops E V i o a w)
    (htail : ∀ a w, FrameOf (ops.extract 0 n) a0 a → E w0 w → (∀ i, i < n → V i (valOf ops a i) w) → wpAny P md ops Q (ops.size - n) (doneB n ops.size) a w) :
    ∀ (fuel : Nat) (listed : Array Bool) (a : Act) (w : World), HeadInv md ops n listed → listed.toList.count false = fuel → a.tmps.size = a0.tmps.size → a.defers = a0.defers →
      (∀ t, (∀ (i : Nat) (o : Oper), i < n → ops[i]? = some o → o.dst = some t → listed.getD i false = false) → a.eval (.tmp t) = a0.eval (.tmp t)) → E w0 w →
      (∀ i, i < n → listed.getD i false = true → V i (valOf ops a i) w) → wpAny P md ops Q fuel listed a w := by
  intro fuel
  induction fuel with
  | zero =>
    intro listed a w inv hcnt
    have h := inv.tail n (Nat.le_refl _) hn
    have := (count_set h).1
    omega
  | succ fuel ih =>
    intro listed a w inv hcnt h1 h2 h3 hE hV
    by_cases hall : ∀ i, i < n → listed.getD i false = true
    · have e := done_of (Nat.le_of_lt hn) inv.size hall (fun t ht ht' => inv.tail t ht ht')
      have e2 : fuel + 1 = ops.size - n := by rw [← hcnt, e, done_count]
      rw [e2, e]
      exact htail a w ⟨h1, h2, fun t ht => h3 t fun i o hi ho hd => absurd hd (ht i o (by rw [Array.getElem?_extract]; simp [show i < min n ops.size by omega, ho]))⟩ hE fun i hi => hV i hi (hall i hi)
    · obtain ⟨i0, hi0, hl0⟩ : ∃ i, i < n ∧ listed.getD i false = false := by
        apply Classical.byContradiction
        intro hno
        exact hall fun i hi => by
          cases hl : listed.getD i false with
          | true => rfl
          | false => exact absurd ⟨i, hi, hl⟩ hno
      have hl0t : listed.getD i0 true = false := getD_in (by rw [inv.size]; omega) hl0
      have hready : ∀ k, k ≤ i0 → listed.getD k false = false → ∃ j, j ∈ Region.ready md ops listed := by
        intro k
        induction k using Nat.strongRecOn with
        | ind k ihk =>
          intro hk hlk
          have hks : k < ops.size := by omega
          by_cases hd : ∀ e ∈ ops[k].after, Region.binds md e = true → listed.getD e.on false = true
          · exact ⟨k, mem_ready.2 ⟨getD_in (by rw [inv.size]; exact hks) hlk, ops[k], by simp [hks], hd⟩⟩
          · have : ∃ e ∈ ops[k].after, Region.binds md e = true ∧ listed.getD e.on false = false := by
              apply Classical.byContradiction
              intro hno
              exact hd fun e he hb => by
                cases hl : listed.getD e.on false with
                | true => rfl
                | false => exact absurd ⟨e, he, hb, hl⟩ hno
            obtain ⟨e, he, hb, hl⟩ := this
            have := hord k ops[k] (by omega) (by simp [hks]) e he hb
            exact ihk e.on this (by omega) hl
      refine ⟨fun hno => ?_, fun i hi => ?_⟩
      · obtain ⟨j, hj⟩ := hready i0 (Nat.le_refl _) hl0
        rw [hno] at hj
        cases hj
      · have hin : i < n := by
          rcases Nat.lt_or_ge i n with h | h
          · exact h
          · exact absurd hi (tail_waits hs hc hn inv _ i0 rfl hi0 hl0t i h)
        obtain ⟨hl, o, ho, hdep⟩ := mem_ready.1 hi
        have hlf := getD_true_false hl
        have hFA : FrameAt md (ops.extract 0 n) a0 a i := fun t ht => h3 t fun j oj hj hoj hdj => by
          obtain ⟨e, he, hb, hon⟩ := ht j oj (by rw [Array.getElem?_extract]; simp [show j < min n ops.size by omega, hoj]) hdj
          cases hlj : listed.getD j false with
          | false => rfl
          | true =>
            have := inv.closed j oj hoj hlj e he hb
            rw [hon, hlf] at this
            cases this
        have hst := hstep i o a w hin ho hFA hE (fun e he hb => hV e.on (by have := hord i o hin ho e he hb; omega) (hdep e he hb))
        have hcs := count_set hl
        have key : ∀ v w', E w w' → V i (slotV o v) w' → wpAny P md ops Q fuel (listed.setIfInBounds i true) (a.put o.dst v) w' := by
          intro v w' hE' hv
          refine ih _ _ _ (inv.set hi hin) (by omega) (by rw [Act.size_put]; exact h1) (by rw [Act.defers_put']; exact h2) ?_ (htr _ _ _ hE hE') ?_
          · intro t ht
            have hti : o.dst ≠ some t := fun hd => by
              have := ht i o hin ho hd
              rw [getD_set_same hl] at this
              cases this
            have e : (a.put o.dst v).eval (.tmp t) = a.eval (.tmp t) := by
              cases hd : o.dst with
              | none => rfl
              | some d => exact Act.eval_put_ne _ _ _ _ (fun e => hti (by rw [hd, e]))
            rw [e]
            refine h3 t fun j oj hj hoj hdj => ?_
            have hji : j ≠ i := fun e => by
              subst e
              rw [ho] at hoj
              cases hoj
              exact hti hdj
            have := ht j oj hj hoj hdj
            rwa [getD_set_other hji] at this
          · intro k hkn hk
            by_cases hki : k = i
            · subst hki
              have : valOf ops (a.put o.dst v) k = slotV o v := by
                unfold valOf slotV
                cases hd : o.dst with
                | none => simp [ho, hd]
                | some d =>
                  simp only [ho, Option.bind_some, hd]
                  exact Act.eval_put_same _ _ _ (by rw [h1]; exact hdst k o d hkn ho hd)
              rw [this]
              exact hv
            · rw [getD_set_other hki] at hk
              have : valOf ops (a.put o.dst v) k = valOf ops a k := by
                unfold valOf
                cases hok : ops[k]? with
                | none => rfl
                | some ok =>
                  cases hdk : ok.dst with
                  | none => simp [hdk]
                  | some dk =>
                    simp only [Option.bind_some, hdk]
                    cases hd : o.dst with
                    | none => rfl
                    | some d => exact Act.eval_put_ne _ _ _ _ (fun e => hne i k o ok d hin hkn ho hok (Ne.symm hki) hd (by rw [hdk, e]))
              rw [this]
              exact hstab _ _ _ _ (hV k hkn hk) hE'
        unfold wpOp
        simp only [ho]
        rcases hst with ⟨hw, hrun⟩ | ⟨hw, hv⟩
        · simp only [hw, if_true]
          exact .inl (wp_of_relUpon hrun fun v w' ⟨hE', hv⟩ => key v w' hE' hv)
        · rw [if_neg (by rw [hw]; simp)]
          refine key undef w (hrf w) ?_
          have : slotV o undef = undef := by unfold slotV; split <;> rfl
          rw [this]; exact hv

/-- What is asked of a region's text, its first n operations. -/
def headB (m : Nat) (ops : List Oper) (n : Nat) : Bool :=
  relB3 m (ops.take n) && decide (n < ops.length) && Region.sinkB .any ops.toArray n && Region.chainB .any ops.toArray n && Region.seqB .any ops.toArray (ops.length - n) n (doneB n ops.length)

def stepsHead (P : Program) (ops : Array Oper) (hd : Array Oper) (a0 : Act) (w0 : World) (E : World → World → Prop) (V : Nat → Value → World → Prop) : Nat → List Oper → Prop
  | _, [] => True
  | k, o :: r => (∀ a w, FrameAt .any hd a0 a k → E w0 w → (∀ e ∈ o.after, Region.binds .any e = true → V e.on (valOf ops a e.on) w) → StepAt P ops E V k o a w) ∧ stepsHead P ops hd a0 w0 E V (k + 1) r
theorem stepsHead_at {P : Program} {ops hd : Array Oper} {a0 : Act} {w0 : World} {E : World → World → Prop} {V : Nat → Value → World → Prop} : ∀ (l : List Oper) (k : Nat), stepsHead P ops hd a0 w0 E V k l →
    ∀ (i : Nat) (o : Oper), l[i]? = some o → ∀ a w, FrameAt .any hd a0 a (k + i) → E w0 w → (∀ e ∈ o.after, Region.binds .any e = true → V e.on (valOf ops a e.on) w) → StepAt P ops E V (k + i) o a w
  | [], _, _, i, o, h => by simp at h
  | o' :: r, k, hs, 0, o, h => by simp at h; subst h; exact hs.1
  | o' :: r, k, hs, i + 1, o, h => by
    have := stepsHead_at r (k + 1) hs.2 i o (by simpa using h)
    rw [show k + (i + 1) = k + 1 + i by omega]
    exact this

/-- The whole: the first n by relations, the others as they stand. -/
theorem wp_region_head {P : Program} {id : Nat} {l : List Oper} {Q : Exit → Act → World → Prop} {a0 : Act} {w0 : World} (n : Nat) (E : World → World → Prop) (V : Nat → Value → World → Prop)
    (hm : P.follows .mixedOrders = true) (hB : headB a0.tmps.size l n = true) (hE0 : E w0 { w0 with drawn := w0.drawn + 1 }) (hrf : ∀ w, E w w) (htr : ∀ w w' w'', E w w' → E w' w'' → E w w'')
    (hstab : ∀ i v w w', V i v w → E w w' → V i v w') (hstep : stepsHead P l.toArray (l.take n).toArray a0 w0 E V 0 (l.take n))
    (hend : ∀ (vs : Nat → Value) w, E w0 w → (∀ i, i < n → V i (vs i) w) → wpList P l.toArray Q (l.drop n) (putsV a0 (dstsV vs 0 (l.take n))) w) :
    (Code.region id l.toArray true).wp P Q a0 w0 := by
  simp only [headB, Bool.and_eq_true, decide_eq_true_eq] at hB
  obtain ⟨⟨⟨⟨hR, hn⟩, hs⟩, hc⟩, hq⟩ := hB
  simp only [relB3, Bool.and_eq_true, List.all_eq_true, decide_eq_true_eq] at hR
  obtain ⟨⟨h1, h2⟩, h3⟩ := hR
  have hget : ∀ (i : Nat) (o : Oper), i < n → l.toArray[i]? = some o → (l.take n)[i]? = some o := fun i o hi h => by
    rw [List.getElem?_take]; simpa [hi] using h
  have hd : ∀ (i : Nat) (o : Oper) (d : Nat), i < n → l.toArray[i]? = some o → o.dst = some d → d < a0.tmps.size := fun i o d hi ho hd => by
    have := h1 o (List.mem_of_getElem? (hget i o hi ho))
    rw [hd] at this
    simpa using this
  have hsz : l.toArray.size = l.length := by simp
  have hext : l.toArray.extract 0 n = (l.take n).toArray := by
    apply Array.toList_inj.1
    rw [Array.toList_extract, List.extract_eq_take_drop]
    simp
  refine wp_region_any hm (wpAny_head (md := .any) n E V a0 w0 (by rw [hsz]; exact hn) hs hc hrf htr hstab hd (fun i j oi oj d hi hj ho ho' => filterMap_nodup h2 i j oi oj d (hget i oi hi ho) (hget j oj hj ho')) ?_
    (fun i o a w hi ho => by have := stepsHead_at (l.take n) 0 hstep i o (hget i o hi ho) a w; rw [hext]; simpa using this) (fun a w hF hE hV => ?_) _ _ _ _ ?_ (by simp) rfl rfl (fun _ _ => rfl) hE0 ?_)
  · intro i o hi ho e he hb
    have hi' := hget i o hi ho
    have := h3 (o, i) (by rw [List.mem_zipIdx_iff_getElem?]; exact hi')
    rw [Array.all_eq_true_iff_forall_mem] at this
    have h := this e he
    rw [hb] at h
    simpa using h
  · rw [hext] at hF
    have e : a = putsV a0 (dstsV (fun i => valOf l.toArray a i) 0 (l.take n)) := by
      refine act_puts3 _ _ hF.1 hF.2.1 (fun x hx d hxd => ?_) (fun t ht => hF.2.2 t fun i o ho => ?_)
      · obtain ⟨i, o, ho, rfl⟩ := dstsV_mem hx
        have hin : i < n := by
          have := (List.getElem?_eq_some_iff.1 ho).1
          rw [List.length_take] at this
          omega
        have ho' : l.toArray[i]? = some o := by
          rw [List.getElem?_take] at ho
          simpa [hin] using ho
        refine ⟨hd i o d hin ho' hxd, ?_⟩
        have hod : o.dst = some d := hxd
        unfold valOf
        rw [Nat.zero_add, ho', Option.bind_some, hod]
      · exact ht _ (dstsV_of (k := 0) (show (l.take n)[i]? = some o by simpa using ho))
    have hw := hend _ w hE hV
    rw [← e] at hw
    have hl : (l.drop n).length = l.toArray.size - n := by simp
    rw [← hl, hsz]
    refine wpAny_of_seq (l.drop n) n _ a w (fun j => by simp) ?_ hw
    rw [List.length_drop]; exact hq
  · exact ⟨by simp, fun j oj _ hl => (by rw [getD_replicate_false] at hl; cases hl), fun t _ ht => getD_in (by simpa using ht) (getD_replicate_false _ _)⟩
  · intro i _ hi
    rw [getD_replicate_false] at hi
    cases hi

end Go.Proofs.YtomhmndpjkfppaaDoor

/-
  A region that draws its order: each operation's value told by a word that later worlds keep.
-/
namespace Go.Proofs.YtomhmndpjkfppaaDoor
open Go.RowKit

/-- What is said of a value and a world, and stays said while what was there stands. -/
structure MP where
  p : Value → World → Prop
  on : ∀ {v : Value} {w w' : World}, p v w → Below w.heap.size w w' → p v w'
def eqP (x : Value) : MP := ⟨fun v _ => v = x, fun h _ => h⟩
def anyP : MP := ⟨fun _ _ => True, fun _ _ => trivial⟩

theorem wp_region_mp {P : Program} {id : Nat} {l : List Oper} {Q : Exit → Act → World → Prop} {a0 : Act} {w0 : World} (L : List MP)
    (hm : P.follows .mixedOrders = true) (hB : relB3 a0.tmps.size l = true) (hstep : stepsAll3 P l.toArray a0 w0 (fun W W' => Below W.heap.size W W') (fun j => (L.getD j anyP).p) 0 l)
    (hend : ∀ (vs : Nat → Value) w, Below w0.heap.size w0 w → (∀ i, i < l.length → (L.getD i anyP).p (vs i) w) → Q .normal (putsV a0 (dstsV vs 0 l)) w) :
    (Code.region id l.toArray true).wp P Q a0 w0 :=
  wp_region_rel4 (fun W W' => Below W.heap.size W W') (fun j => (L.getD j anyP).p) hm hB (Below.refl _ _).drew (fun _ => Below.refl _ _) (fun _ _ _ h1 h2 => h1.trans (h2.mono h1.size)) (fun _ _ _ _ h hb => MP.on _ h hb) hstep hend

theorem yielded_undef {ops : Array Oper} {a : Act} {j d : Nat} (hd : (ops[j]?).bind (·.dst) = some d) (h : a.eval (.tmp d) = undef) : yielded ops a.tmps j = none := by
  unfold yielded
  rw [hd, Option.bind_some]
  simp only [Act.eval, Array.getD_eq_getD_getElem?] at h
  cases ht : a.tmps[d]? with
  | none => rfl
  | some v => rw [ht] at h; simp at h; subst h; rfl

end Go.Proofs.YtomhmndpjkfppaaDoor

/-
  A region that draws its order, by an invariant of which operations have run, the slots and the world. No program stands in it.
-/
namespace Go.Proofs.YtomhmndpjkfppaaDoor
open Go.RowKit

theorem wpAny_inv {P : Program} {md : Region.Mode} {ops : Array Oper} {Q : Exit → Act → World → Prop} (I : Array Bool → Act → World → Prop)
    (hord : ∀ (i : Nat) (o : Oper), ops[i]? = some o → ∀ e ∈ o.after, Region.binds md e = true → e.on < i)
    (hstep : ∀ (listed : Array Bool) (i : Nat) (o : Oper) (a : Act) (w : World), ops[i]? = some o → listed.size = ops.size → I listed a w → listed.getD i true = false → (∀ e ∈ o.after, Region.binds md e = true → listed.getD e.on false = true) →
      (Region.wanted o (yielded ops a.tmps) = true ∧ relUpon P (fun v w' => I (listed.setIfInBounds i true) (a.put o.dst v) w') ((execOp a.eval o).run P w)) ∨ (Region.wanted o (yielded ops a.tmps) = false ∧ I (listed.setIfInBounds i true) (a.put o.dst undef) w))
    (hend : ∀ (listed : Array Bool) a w, (∀ i, i < ops.size → listed.getD i false = true) → I listed a w → Q .normal a w) :
    ∀ (fuel : Nat) (listed : Array Bool) (a : Act) (w : World), listed.size = ops.size → listed.toList.count false = fuel → I listed a w → wpAny P md ops Q fuel listed a w := by
  have hall : ∀ (listed : Array Bool), listed.size = ops.size → Region.ready md ops listed = [] → ∀ i, i < ops.size → listed.getD i false = true := by
    intro listed hsz hr i
    induction i using Nat.strongRecOn with
    | ind i ih =>
      intro hi
      cases hl : listed.getD i true with
      | true => simpa [Array.getD, hsz, hi] using hl
      | false =>
        have : i ∈ Region.ready md ops listed := mem_ready.2 ⟨hl, ops[i], by simp [hi], fun e he hb => ih e.on (hord i _ (by simp [hi]) e he hb) (Nat.lt_trans (hord i _ (by simp [hi]) e he hb) hi)⟩
        rw [hr] at this
        cases this
  intro fuel
  induction fuel with
  | zero =>
    intro listed a w hsz hc hI
    have hno : Region.ready md ops listed = [] := by
      cases hr : Region.ready md ops listed with
      | nil => rfl
      | cons j r =>
        have hj : j ∈ Region.ready md ops listed := by rw [hr]; simp
        have := (count_set (mem_ready.1 hj).1).1
        omega
    exact ⟨hno, hend listed a w (hall listed hsz hno) hI⟩
  | succ fuel ih =>
    intro listed a w hsz hc hI
    refine ⟨fun hno => hend listed a w (hall listed hsz hno) hI, fun i hi => ?_⟩
    obtain ⟨hl, o, ho, hdep⟩ := mem_ready.1 hi
    have hst := hstep listed i o a w ho hsz hI hl hdep
    have hcs := count_set hl
    unfold wpOp
    simp only [ho]
    rcases hst with ⟨hw, hrun⟩ | ⟨hw, hI'⟩
    · simp only [hw, if_true]
      exact .inl (wp_of_relUpon hrun fun v w' hI' => ih _ _ _ (by rw [hcs.2]; exact hsz) (by omega) hI')
    · rw [if_neg (by rw [hw]; simp)]
      exact ih _ _ _ (by rw [hcs.2]; exact hsz) (by omega) hI'

/-- Each operation waits for earlier ones alone. -/
def ordB (ops : List Oper) : Bool := ops.zipIdx.all fun x => x.1.after.all fun e => !Region.binds .any e || decide (e.on < x.2)

def stepsI (P : Program) (ops : Array Oper) (I : Array Bool → Act → World → Prop) : Nat → List Oper → Prop
  | _, [] => True
  | k, o :: r => (∀ (listed : Array Bool) a w, listed.size = ops.size → I listed a w → listed.getD k true = false → (∀ e ∈ o.after, Region.binds .any e = true → listed.getD e.on false = true) →
      (Region.wanted o (yielded ops a.tmps) = true ∧ relUpon P (fun v w' => I (listed.setIfInBounds k true) (a.put o.dst v) w') ((execOp a.eval o).run P w)) ∨ (Region.wanted o (yielded ops a.tmps) = false ∧ I (listed.setIfInBounds k true) (a.put o.dst undef) w)) ∧ stepsI P ops I (k + 1) r
theorem stepsI_at {P : Program} {ops : Array Oper} {I : Array Bool → Act → World → Prop} : ∀ (l : List Oper) (k : Nat), stepsI P ops I k l →
    ∀ (i : Nat) (o : Oper), l[i]? = some o → ∀ (listed : Array Bool) a w, listed.size = ops.size → I listed a w → listed.getD (k + i) true = false → (∀ e ∈ o.after, Region.binds .any e = true → listed.getD e.on false = true) →
      (Region.wanted o (yielded ops a.tmps) = true ∧ relUpon P (fun v w' => I (listed.setIfInBounds (k + i) true) (a.put o.dst v) w') ((execOp a.eval o).run P w)) ∨ (Region.wanted o (yielded ops a.tmps) = false ∧ I (listed.setIfInBounds (k + i) true) (a.put o.dst undef) w)
  | [], _, _, i, o, h => by simp at h
  | o' :: r, k, hs, 0, o, h => by simp at h; subst h; exact hs.1
  | o' :: r, k, hs, i + 1, o, h => by
    have := stepsI_at r (k + 1) hs.2 i o (by simpa using h)
    rw [show k + (i + 1) = k + 1 + i by omega]
    exact this

theorem wp_region_inv {P : Program} {id : Nat} {l : List Oper} {Q : Exit → Act → World → Prop} {a0 : Act} {w0 : World} (I : Array Bool → Act → World → Prop)
    (hm : P.follows .mixedOrders = true) (hB : ordB l = true) (h0 : I (Array.replicate l.toArray.size false) a0 { w0 with drawn := w0.drawn + 1 })
    (hstep : stepsI P l.toArray I 0 l)
    (hend : ∀ (listed : Array Bool) a w, (∀ i, i < l.length → listed.getD i false = true) → I listed a w → Q .normal a w) :
    (Code.region id l.toArray true).wp P Q a0 w0 := by
  unfold ordB at hB
  rw [List.all_eq_true] at hB
  have hget : ∀ (i : Nat) (o : Oper), l.toArray[i]? = some o → l[i]? = some o := fun i o h => by simpa using h
  refine wp_region_any hm (wpAny_inv I ?_ (fun listed i o a w ho => by have := stepsI_at l 0 hstep i o (hget i o ho) listed a w; simpa using this) (fun listed a w hA hI => hend listed a w (fun i hi => hA i (by simpa using hi)) hI) _ _ _ _ (by simp) (by simp) h0)
  intro i o ho e he hb
  have hi' := hget i o ho
  have := hB (o, i) (by rw [List.mem_zipIdx_iff_getElem?]; exact hi')
  rw [Array.all_eq_true_iff_forall_mem] at this
  have h := this e he
  rw [hb] at h
  simpa using h

end Go.Proofs.YtomhmndpjkfppaaDoor

/-
  A region that draws its order, two of whose operations turn the world for good: each operation's value is known, and what holds of the world hangs on which of the two have run. No program stands in it.
-/
namespace Go.Proofs.YtomhmndpjkfppaaDoor
open Go.RowKit

structure FlagInv (ops : Array Oper) (a0 : Act) (vals : Nat → Value) (i1 i2 : Nat) (S : Bool → Bool → World → Prop) (listed : Array Bool) (a : Act) (w : World) : Prop where
  size : a.tmps.size = a0.tmps.size
  defers : a.defers = a0.defers
  frame : ∀ t, (∀ (i : Nat) (o : Oper), ops[i]? = some o → o.dst = some t → listed.getD i false = false) → a.eval (.tmp t) = a0.eval (.tmp t)
  deps : ∀ (j : Nat) (o : Oper), ops[j]? = some o → listed.getD j false = true → ∀ e ∈ o.after, Region.binds .any e = true → listed.getD e.on false = true
  vals : ∀ i, listed.getD i false = true → valOf ops a i = vals i
  world : S (listed.getD i1 false) (listed.getD i2 false) w

/-- What is asked of operation k: run (or passed by) in whatever order, it yields its value, and it alone turns its own flag. -/
def StepF (P : Program) (ops : Array Oper) (vals : Nat → Value) (i1 i2 : Nat) (S : Bool → Bool → World → Prop) (k : Nat) (o : Oper) (b1 b2 : Bool) (a : Act) (w : World) : Prop :=
  (Region.wanted o (yielded ops a.tmps) = true ∧ relUpon P (fun v w' => slotV o v = vals k ∧ S (b1 || k == i1) (b2 || k == i2) w') ((execOp a.eval o).run P w)) ∨
  (Region.wanted o (yielded ops a.tmps) = false ∧ vals k = undef ∧ S (b1 || k == i1) (b2 || k == i2) w)

theorem flagInv_step {ops : Array Oper} {a0 : Act} {vals : Nat → Value} {i1 i2 : Nat} {S : Bool → Bool → World → Prop} {listed : Array Bool} {a : Act} {w w' : World} {i : Nat} {o : Oper} {v : Value}
    (hdst : ∀ (i : Nat) (o : Oper) (d : Nat), ops[i]? = some o → o.dst = some d → d < a0.tmps.size)
    (hne : ∀ (i j : Nat) (oi oj : Oper) (d : Nat), ops[i]? = some oi → ops[j]? = some oj → i ≠ j → oi.dst = some d → oj.dst ≠ some d)
    (hI : FlagInv ops a0 vals i1 i2 S listed a w) (ho : ops[i]? = some o) (hl : listed.getD i true = false) (hdep : ∀ e ∈ o.after, Region.binds .any e = true → listed.getD e.on false = true)
    (hv : slotV o v = vals i) (hS : S (listed.getD i1 false || i == i1) (listed.getD i2 false || i == i2) w') :
    FlagInv ops a0 vals i1 i2 S (listed.setIfInBounds i true) (a.put o.dst v) w' := by
  have hflag : ∀ k, (listed.setIfInBounds i true).getD k false = (listed.getD k false || i == k) := fun k => by
    by_cases hk : k = i
    · subst hk; rw [getD_set_same hl]; simp
    · rw [getD_set_other hk]; simp [Ne.symm hk]
  refine ⟨by rw [Act.size_put]; exact hI.size, by rw [Act.defers_put']; exact hI.defers, ?_, ?_, ?_, by rw [hflag, hflag]; exact hS⟩
  · intro t ht
    have hti : o.dst ≠ some t := fun hd => by
      have := ht i o ho hd
      rw [getD_set_same hl] at this
      cases this
    have e : (a.put o.dst v).eval (.tmp t) = a.eval (.tmp t) := by
      cases hd : o.dst with
      | none => rfl
      | some d => exact Act.eval_put_ne _ _ _ _ (fun e => hti (by rw [hd, e]))
    rw [e]
    refine hI.frame t fun j oj hoj hdj => ?_
    have hji : j ≠ i := fun e => by
      subst e
      rw [ho] at hoj
      cases hoj
      exact hti hdj
    have := ht j oj hoj hdj
    rwa [getD_set_other hji] at this
  · intro j oj hoj hlj e he hb
    by_cases hji : j = i
    · subst hji
      rw [ho] at hoj
      cases hoj
      by_cases hei : e.on = j
      · rw [hei]; exact getD_set_same hl
      · rw [getD_set_other hei]; exact hdep e he hb
    · rw [getD_set_other hji] at hlj
      by_cases hei : e.on = i
      · rw [hei]; exact getD_set_same hl
      · rw [getD_set_other hei]; exact hI.deps j oj hoj hlj e he hb
  · intro k hk
    by_cases hki : k = i
    · subst hki
      have : valOf ops (a.put o.dst v) k = slotV o v := by
        unfold valOf slotV
        cases hd : o.dst with
        | none => simp [ho, hd]
        | some d =>
          simp only [ho, Option.bind_some, hd]
          exact Act.eval_put_same _ _ _ (by rw [hI.size]; exact hdst k o d ho hd)
      rw [this]
      exact hv
    · rw [getD_set_other hki] at hk
      have : valOf ops (a.put o.dst v) k = valOf ops a k := by
        unfold valOf
        cases hok : ops[k]? with
        | none => rfl
        | some ok =>
          cases hdk : ok.dst with
          | none => simp [hdk]
          | some dk =>
            simp only [Option.bind_some, hdk]
            cases hd : o.dst with
            | none => rfl
            | some d => exact Act.eval_put_ne _ _ _ _ (fun e => hne i k o ok d ho hok (Ne.symm hki) hd (by rw [hdk, e]))
      rw [this]
      exact hI.vals k hk

/-- Operation k waits for operation i, at once or by way of others. -/
def reachB (ops : Array Oper) : Nat → Nat → Nat → Bool
  | 0, _, _ => false
  | f + 1, k, i => match ops[k]? with
    | none => false
    | some o => o.after.any fun e => Region.binds .any e && (e.on == i || reachB ops f e.on i)
theorem reach_listed {ops : Array Oper} {listed : Array Bool} (hdeps : ∀ (j : Nat) (o : Oper), ops[j]? = some o → listed.getD j false = true → ∀ e ∈ o.after, Region.binds .any e = true → listed.getD e.on false = true) :
    ∀ (f k i : Nat) (o : Oper), ops[k]? = some o → (∀ e ∈ o.after, Region.binds .any e = true → listed.getD e.on false = true) → reachB ops f k i = true → listed.getD i false = true := by
  intro f
  induction f with
  | zero => intro k i o _ _ h; simp [reachB] at h
  | succ f ih =>
    intro k i o ho hd h
    unfold reachB at h
    rw [ho] at h
    obtain ⟨m, hm, h1⟩ := Array.any_eq_true.1 h
    simp only [Bool.and_eq_true, Bool.or_eq_true, beq_iff_eq] at h1
    obtain ⟨hb, h2⟩ := h1
    have hl := hd _ (Array.getElem_mem hm) hb
    rcases h2 with h2 | h2
    · rw [← h2]; exact hl
    · cases hk : ops[(o.after[m]).on]? with
      | none =>
        cases f with
        | zero => simp [reachB] at h2
        | succ f => unfold reachB at h2; rw [hk] at h2; cases h2
      | some o' => exact ih _ i o' hk (hdeps _ o' hk hl) h2

/-- The operations' own obligations, one by one in the text's order. -/
def stepsF (P : Program) (ops : Array Oper) (a0 : Act) (vals : Nat → Value) (i1 i2 : Nat) (S : Bool → Bool → World → Prop) : Nat → List Oper → Prop
  | _, [] => True
  | k, o :: r => (∀ a w b1 b2, FrameAt .any ops a0 a k → (∀ e ∈ o.after, Region.binds .any e = true → valOf ops a e.on = vals e.on) → (k = i1 → b1 = false) → (k = i2 → b2 = false) → (reachB ops 30 k i1 = true → b1 = true) → (reachB ops 30 k i2 = true → b2 = true) → S b1 b2 w → StepF P ops vals i1 i2 S k o b1 b2 a w) ∧ stepsF P ops a0 vals i1 i2 S (k + 1) r
theorem stepsF_at {P : Program} {ops : Array Oper} {a0 : Act} {vals : Nat → Value} {i1 i2 : Nat} {S : Bool → Bool → World → Prop} : ∀ (l : List Oper) (k : Nat), stepsF P ops a0 vals i1 i2 S k l →
    ∀ (i : Nat) (o : Oper), l[i]? = some o → ∀ a w b1 b2, FrameAt .any ops a0 a (k + i) → (∀ e ∈ o.after, Region.binds .any e = true → valOf ops a e.on = vals e.on) → (k + i = i1 → b1 = false) → (k + i = i2 → b2 = false) → (reachB ops 30 (k + i) i1 = true → b1 = true) → (reachB ops 30 (k + i) i2 = true → b2 = true) → S b1 b2 w → StepF P ops vals i1 i2 S (k + i) o b1 b2 a w
  | [], _, _, i, o, h => by simp at h
  | o' :: r, k, hs, 0, o, h => by simp at h; subst h; exact hs.1
  | o' :: r, k, hs, i + 1, o, h => by
    have := stepsF_at r (k + 1) hs.2 i o (by simpa using h)
    rw [show k + (i + 1) = k + 1 + i by omega]
    exact this

theorem wp_region_flags {P : Program} {id : Nat} {l : List Oper} {Q : Exit → Act → World → Prop} {a0 : Act} {w0 : World} (vals : List Value) (i1 i2 : Nat) (S : Bool → Bool → World → Prop)
    (hm : P.follows .mixedOrders = true) (hB : relB3 a0.tmps.size l = true) (hi1 : i1 < l.length) (hi2 : i2 < l.length) (h0 : S false false { w0 with drawn := w0.drawn + 1 })
    (hstep : stepsF P l.toArray a0 (fun i => vals.getD i undef) i1 i2 S 0 l)
    (hend : ∀ w, S true true w → Q .normal (putsV a0 (dstsV (fun i => vals.getD i undef) 0 l)) w) :
    (Code.region id l.toArray true).wp P Q a0 w0 := by
  have hB' := hB
  simp only [relB3, Bool.and_eq_true, List.all_eq_true, decide_eq_true_eq] at hB
  obtain ⟨⟨h1, h2⟩, h3⟩ := hB
  have hget : ∀ (i : Nat) (o : Oper), l.toArray[i]? = some o → l[i]? = some o := fun i o h => by simpa using h
  have hd : ∀ (i : Nat) (o : Oper) (d : Nat), l.toArray[i]? = some o → o.dst = some d → d < a0.tmps.size := fun i o d ho hd => by
    have := h1 o (List.mem_of_getElem? (hget i o ho))
    rw [hd] at this
    simpa using this
  have hne : ∀ (i j : Nat) (oi oj : Oper) (d : Nat), l.toArray[i]? = some oi → l.toArray[j]? = some oj → i ≠ j → oi.dst = some d → oj.dst ≠ some d := fun i j oi oj d hi hj => filterMap_nodup h2 i j oi oj d (hget i oi hi) (hget j oj hj)
  refine wp_region_any hm (wpAny_inv (FlagInv l.toArray a0 (fun i => vals.getD i undef) i1 i2 S) ?_ ?_ ?_ _ _ _ _ (by simp) (by simp) ?_)
  · intro i o ho e he hb
    have hi' := hget i o ho
    have := h3 (o, i) (by rw [List.mem_zipIdx_iff_getElem?]; exact hi')
    rw [Array.all_eq_true_iff_forall_mem] at this
    have h := this e he
    rw [hb] at h
    simpa using h
  · intro listed i o a w ho hsz hI hl hdep
    have hlf := getD_true_false hl
    have hFA : FrameAt .any l.toArray a0 a i := fun t ht => hI.frame t fun j oj hoj hdj => by
      obtain ⟨e, he, hb, hon⟩ := ht j oj hoj hdj
      cases hlj : listed.getD j false with
      | false => rfl
      | true =>
        have := hI.deps j oj hoj hlj e he hb
        rw [hon, hlf] at this
        cases this
    have hst := stepsF_at l 0 hstep i o (hget i o ho) a w (listed.getD i1 false) (listed.getD i2 false) (by rw [Nat.zero_add]; exact hFA) (fun e he hb => hI.vals e.on (hdep e he hb)) (fun e => by rw [← e, Nat.zero_add]; exact hlf) (fun e => by rw [← e, Nat.zero_add]; exact hlf) (fun e => reach_listed hI.deps 30 i i1 o ho hdep (by rw [Nat.zero_add] at e; exact e)) (fun e => reach_listed hI.deps 30 i i2 o ho hdep (by rw [Nat.zero_add] at e; exact e)) hI.world
    rw [Nat.zero_add] at hst
    rcases hst with ⟨hw, hrun⟩ | ⟨hw, hu, hS⟩
    · refine .inl ⟨hw, ?_⟩
      revert hrun
      generalize (execOp a.eval o).run P w = r
      intro hrun
      cases r with
      | ok n w' =>
        cases n <;> simp only [relUpon] at hrun ⊢
        case value u => exact flagInv_step hd hne hI ho hl hdep hrun.1 hrun.2
        case skip => exact flagInv_step hd hne hI ho hl hdep hrun.1 hrun.2
        case enter f args => exact hrun.mono fun e w'' ⟨v, he, h1, h2⟩ => ⟨v, he, flagInv_step hd hne hI ho hl hdep h1 h2⟩
      | halt x w' => simp only [relUpon] at hrun
    · refine .inr ⟨hw, flagInv_step hd hne hI ho hl hdep ?_ hS⟩
      have : slotV o undef = undef := by unfold slotV; split <;> rfl
      rw [this]; exact hu.symm
  · intro listed a w hall hI
    have e : a = putsV a0 (dstsV (fun i => vals.getD i undef) 0 l) := by
      refine act_puts3 _ _ hI.size hI.defers (fun x hx d hxd => ?_) (fun t ht => hI.frame t fun i o ho hod => ?_)
      · obtain ⟨i, o, ho, rfl⟩ := dstsV_mem hx
        refine ⟨hd i o d (by simpa using ho) hxd, ?_⟩
        have hod : o.dst = some d := hxd
        have hil : i < l.length := (List.getElem?_eq_some_iff.1 ho).1
        have := hI.vals i (hall i (by simpa using hil))
        unfold valOf at this
        rw [show l.toArray[i]? = some o by simpa using ho, Option.bind_some, hod] at this
        rw [Nat.zero_add]
        exact this
      · exact absurd hod (ht _ (dstsV_of (k := 0) (show l[i]? = some o by simpa using hget i o ho)))
    have hW := hI.world
    rw [hall i1 (by simpa using hi1), hall i2 (by simpa using hi2)] at hW
    rw [e]
    exact hend w hW
  · refine ⟨rfl, rfl, fun _ _ => rfl, fun j o _ hlj => ?_, fun i hi => ?_, ?_⟩
    · simp [Array.getD, Array.getElem_replicate] at hlj
    · simp [Array.getD, Array.getElem_replicate] at hi
    · have hz : ∀ k, (Array.replicate l.toArray.size false).getD k false = false := fun k => by
        simp [Array.getD, Array.getElem_replicate]
      rw [hz, hz]; exact h0

end Go.Proofs.YtomhmndpjkfppaaDoor

/-
  As RelFlags, where what the first of the two yields (a new box's place) is not known ahead: a ghost is chosen as it runs. No program stands in it.
-/
namespace Go.Proofs.YtomhmndpjkfppaaDoor
open Go.RowKit

/-- What is asked of operation k, the ghost being g. -/
def StepG {G : Type} (P : Program) (ops : Array Oper) (vals : G → Nat → Value) (i1 i2 : Nat) (S : G → Bool → Bool → World → Prop) (k : Nat) (o : Oper) (g : G) (b1 b2 : Bool) (a : Act) (w : World) : Prop :=
  (Region.wanted o (yielded ops a.tmps) = true ∧ relUpon P (fun v w' => ∃ g', (k ≠ i1 → g' = g) ∧ slotV o v = vals g' k ∧ S g' (b1 || k == i1) (b2 || k == i2) w') ((execOp a.eval o).run P w)) ∨
  (Region.wanted o (yielded ops a.tmps) = false ∧ vals g k = undef ∧ S g (b1 || k == i1) (b2 || k == i2) w)

theorem flagInv_ghost {G : Type} {ops : Array Oper} {a0 : Act} {vals : G → Nat → Value} {i1 i2 : Nat} {S : G → Bool → Bool → World → Prop} {listed : Array Bool} {a : Act} {w : World} {g : G} (g' : G)
    (hv : ∀ g g' k, k ≠ i1 → vals g k = vals g' k) (hS : ∀ g g' b w, S g false b w → S g' false b w) (hl : listed.getD i1 false = false) (hI : FlagInv ops a0 (vals g) i1 i2 (S g) listed a w) : FlagInv ops a0 (vals g') i1 i2 (S g') listed a w :=
  ⟨hI.size, hI.defers, hI.frame, hI.deps, fun i hi => (hI.vals i hi).trans (hv g g' i fun e => by rw [e, hl] at hi; cases hi), by have := hI.world; rw [hl] at this ⊢; exact hS g g' _ _ this⟩

/-- The operations' own obligations, one by one in the text's order. -/
def stepsG {G : Type} (P : Program) (ops : Array Oper) (a0 : Act) (vals : G → Nat → Value) (i1 i2 : Nat) (S : G → Bool → Bool → World → Prop) : Nat → List Oper → Prop
  | _, [] => True
  | k, o :: r => (∀ a w g b1 b2, FrameAt .any ops a0 a k → (∀ e ∈ o.after, Region.binds .any e = true → valOf ops a e.on = vals g e.on) → (k = i1 → b1 = false) → (k = i2 → b2 = false) → (reachB ops 30 k i1 = true → b1 = true) → (reachB ops 30 k i2 = true → b2 = true) → S g b1 b2 w → StepG P ops vals i1 i2 S k o g b1 b2 a w) ∧ stepsG P ops a0 vals i1 i2 S (k + 1) r
theorem stepsG_at {G : Type} {P : Program} {ops : Array Oper} {a0 : Act} {vals : G → Nat → Value} {i1 i2 : Nat} {S : G → Bool → Bool → World → Prop} : ∀ (l : List Oper) (k : Nat), stepsG P ops a0 vals i1 i2 S k l →
    ∀ (i : Nat) (o : Oper), l[i]? = some o → ∀ a w g b1 b2, FrameAt .any ops a0 a (k + i) → (∀ e ∈ o.after, Region.binds .any e = true → valOf ops a e.on = vals g e.on) → (k + i = i1 → b1 = false) → (k + i = i2 → b2 = false) → (reachB ops 30 (k + i) i1 = true → b1 = true) → (reachB ops 30 (k + i) i2 = true → b2 = true) → S g b1 b2 w → StepG P ops vals i1 i2 S (k + i) o g b1 b2 a w
  | [], _, _, i, o, h => by simp at h
  | o' :: r, k, hs, 0, o, h => by simp at h; subst h; exact hs.1
  | o' :: r, k, hs, i + 1, o, h => by
    have := stepsG_at r (k + 1) hs.2 i o (by simpa using h)
    rw [show k + (i + 1) = k + 1 + i by omega]
    exact this

theorem wp_region_ghost {G : Type} [Inhabited G] {P : Program} {id : Nat} {l : List Oper} {Q : Exit → Act → World → Prop} {a0 : Act} {w0 : World} (vals : G → List Value) (i1 i2 : Nat) (S : G → Bool → Bool → World → Prop)
    (hv : ∀ g g' k, k ≠ i1 → (vals g).getD k undef = (vals g').getD k undef) (hSg : ∀ g g' b w, S g false b w → S g' false b w)
    (hm : P.follows .mixedOrders = true) (hB : relB3 a0.tmps.size l = true) (hi1 : i1 < l.length) (hi2 : i2 < l.length) (h0 : ∀ g, S g false false { w0 with drawn := w0.drawn + 1 })
    (hstep : stepsG P l.toArray a0 (fun g i => (vals g).getD i undef) i1 i2 S 0 l)
    (hend : ∀ g w, S g true true w → Q .normal (putsV a0 (dstsV (fun i => (vals g).getD i undef) 0 l)) w) :
    (Code.region id l.toArray true).wp P Q a0 w0 := by
  have hB' := hB
  simp only [relB3, Bool.and_eq_true, List.all_eq_true, decide_eq_true_eq] at hB
  obtain ⟨⟨h1, h2⟩, h3⟩ := hB
  have hget : ∀ (i : Nat) (o : Oper), l.toArray[i]? = some o → l[i]? = some o := fun i o h => by simpa using h
  have hd : ∀ (i : Nat) (o : Oper) (d : Nat), l.toArray[i]? = some o → o.dst = some d → d < a0.tmps.size := fun i o d ho hd => by
    have := h1 o (List.mem_of_getElem? (hget i o ho))
    rw [hd] at this
    simpa using this
  have hne : ∀ (i j : Nat) (oi oj : Oper) (d : Nat), l.toArray[i]? = some oi → l.toArray[j]? = some oj → i ≠ j → oi.dst = some d → oj.dst ≠ some d := fun i j oi oj d hi hj => filterMap_nodup h2 i j oi oj d (hget i oi hi) (hget j oj hj)
  refine wp_region_any hm (wpAny_inv (fun listed a w => ∃ g, FlagInv l.toArray a0 (fun i => (vals g).getD i undef) i1 i2 (S g) listed a w) ?_ ?_ ?_ _ _ _ _ (by simp) (by simp) ?_)
  · intro i o ho e he hb
    have hi' := hget i o ho
    have := h3 (o, i) (by rw [List.mem_zipIdx_iff_getElem?]; exact hi')
    rw [Array.all_eq_true_iff_forall_mem] at this
    have h := this e he
    rw [hb] at h
    simpa using h
  · rintro listed i o a w ho hsz ⟨g, hI⟩ hl hdep
    have hlf := getD_true_false hl
    have hFA : FrameAt .any l.toArray a0 a i := fun t ht => hI.frame t fun j oj hoj hdj => by
      obtain ⟨e, he, hb, hon⟩ := ht j oj hoj hdj
      cases hlj : listed.getD j false with
      | false => rfl
      | true =>
        have := hI.deps j oj hoj hlj e he hb
        rw [hon, hlf] at this
        cases this
    have hst := stepsG_at l 0 hstep i o (hget i o ho) a w g (listed.getD i1 false) (listed.getD i2 false) (by rw [Nat.zero_add]; exact hFA) (fun e he hb => hI.vals e.on (hdep e he hb)) (fun e => by rw [← e, Nat.zero_add]; exact hlf) (fun e => by rw [← e, Nat.zero_add]; exact hlf) (fun e => reach_listed hI.deps 30 i i1 o ho hdep (by rw [Nat.zero_add] at e; exact e)) (fun e => reach_listed hI.deps 30 i i2 o ho hdep (by rw [Nat.zero_add] at e; exact e)) hI.world
    rw [Nat.zero_add] at hst
    have go : ∀ v w', (∃ g', (i ≠ i1 → g' = g) ∧ slotV o v = (vals g').getD i undef ∧ S g' (listed.getD i1 false || i == i1) (listed.getD i2 false || i == i2) w') →
        ∃ g, FlagInv l.toArray a0 (fun i => (vals g).getD i undef) i1 i2 (S g) (listed.setIfInBounds i true) (a.put o.dst v) w' := by
      rintro v w' ⟨g', hg, h1, h2⟩
      refine ⟨g', flagInv_step (w := w) hd hne ?_ ho hl hdep h1 h2⟩
      by_cases hi : i = i1
      · exact flagInv_ghost (vals := fun g i => (vals g).getD i undef) g' hv hSg (by rw [← hi]; exact hlf) hI
      · rw [hg hi]; exact hI
    rcases hst with ⟨hw, hrun⟩ | ⟨hw, hu, hS⟩
    · refine .inl ⟨hw, ?_⟩
      revert hrun
      generalize (execOp a.eval o).run P w = r
      intro hrun
      cases r with
      | ok n w' =>
        cases n <;> simp only [relUpon] at hrun ⊢
        case value u => exact go _ _ hrun
        case skip => exact go _ _ hrun
        case enter f args => exact hrun.mono fun e w'' ⟨v, he, h1⟩ => ⟨v, he, go _ _ h1⟩
      | halt x w' => simp only [relUpon] at hrun
    · refine .inr ⟨hw, g, flagInv_step hd hne hI ho hl hdep ?_ hS⟩
      have : slotV o undef = undef := by unfold slotV; split <;> rfl
      rw [this]; exact hu.symm
  · rintro listed a w hall ⟨g, hI⟩
    have e : a = putsV a0 (dstsV (fun i => (vals g).getD i undef) 0 l) := by
      refine act_puts3 _ _ hI.size hI.defers (fun x hx d hxd => ?_) (fun t ht => hI.frame t fun i o ho hod => ?_)
      · obtain ⟨i, o, ho, rfl⟩ := dstsV_mem hx
        refine ⟨hd i o d (by simpa using ho) hxd, ?_⟩
        have hod : o.dst = some d := hxd
        have hil : i < l.length := (List.getElem?_eq_some_iff.1 ho).1
        have := hI.vals i (hall i (by simpa using hil))
        unfold valOf at this
        rw [show l.toArray[i]? = some o by simpa using ho, Option.bind_some, hod] at this
        rw [Nat.zero_add]
        exact this
      · exact absurd hod (ht _ (dstsV_of (k := 0) (show l[i]? = some o by simpa using hget i o ho)))
    have hW := hI.world
    rw [hall i1 (by simpa using hi1), hall i2 (by simpa using hi2)] at hW
    rw [e]
    exact hend g w hW
  · refine ⟨default, rfl, rfl, fun _ _ => rfl, fun j o _ hlj => ?_, fun i hi => ?_, ?_⟩
    · simp [Array.getD, Array.getElem_replicate] at hlj
    · simp [Array.getD, Array.getElem_replicate] at hi
    · have hz : ∀ k, (Array.replicate l.toArray.size false).getD k false = false := fun k => by
        simp [Array.getD, Array.getElem_replicate]
      rw [hz, hz]; exact h0 _

end Go.Proofs.YtomhmndpjkfppaaDoor
