/-
  A region that draws its order and makes memory: an operation's value is told by a relation (a value, a world), which later worlds keep. Each operation is looked at once, whatever came before it but for what it waits for. No program stands in it.
-/
import Derived.OrdersHeld
import Derived.Great.Frames
import Derived.WalkKit
namespace Go.Proofs.Ythmfmeibjpgokaa
open Go.RowKit

/-- What is asked of an operation's run. -/
def relUpon (P : Program) (post : Value → World → Prop) : Result Next → Prop
  | .ok (.value u) w' => post u w'
  | .ok .skip w' => post undef w'
  | .ok (.enter f args) w' => Calls P f args w' fun e w'' => ∃ v, e = .returned v ∧ post v w''
  | _ => False

theorem wp_of_relUpon {P : Program} {o : Oper} {a : Act} {w : World} {post : Value → World → Prop} {K : Act → World → Prop} {Q : Exit → Act → World → Prop}
    (h : relUpon P post ((execOp a.eval o).run P w)) (hK : ∀ v w', post v w' → K (a.put o.dst v) w') : o.wp P a w K Q := by
  unfold Oper.wp
  generalize (execOp a.eval o).run P w = r at *
  cases r with
  | ok n w' =>
    cases n <;> simp only [relUpon] at h <;> simp only [Oper.upon]
    case value u => exact hK _ _ h
    case skip => exact hK _ _ h
    case enter f args => exact h.mono fun e w'' ⟨v, he, hp⟩ => by subst he; exact hK _ _ hp
  | halt x w' => simp only [relUpon] at h

/-- The slots that the region's operations don't write are as they were. -/
def FrameOf (ops : Array Oper) (a0 a : Act) : Prop :=
  a.tmps.size = a0.tmps.size ∧ a.defers = a0.defers ∧ ∀ t, (∀ (i : Nat) (o : Oper), ops[i]? = some o → o.dst ≠ some t) → a.eval (.tmp t) = a0.eval (.tmp t)

/-- The value of operation i. -/
def valOf (ops : Array Oper) (a : Act) (i : Nat) : Value := match (ops[i]?).bind (·.dst) with | some d => a.eval (.tmp d) | none => undef

theorem count_set {l : Array Bool} {i : Nat} (h : l.getD i true = false) : (l.setIfInBounds i true).toList.count false + 1 = l.toList.count false ∧ (l.setIfInBounds i true).size = l.size := by
  have hi : i < l.size := by
    rcases Nat.lt_or_ge i l.size with h' | h'
    · exact h'
    · simp [Array.getD, Nat.not_lt.2 h'] at h
  have hv : l[i] = false := by simpa [Array.getD, hi] using h
  refine ⟨?_, by simp⟩
  rw [Array.toList_setIfInBounds, List.count_set (by simpa using hi)]
  have hp : 0 < l.toList.count false := List.count_pos_iff.2 (by rw [← hv]; simp)
  have hg : l.toList[i] = false := by simpa using hv
  rw [hg]
  have e1 : (if (false == false) = true then 1 else 0) = 1 := rfl
  have e2 : (if (true == false) = true then 1 else 0) = 0 := rfl
  rw [e1, e2]
  omega

theorem wpAny_rel {P : Program} {md : Region.Mode} {ops : Array Oper} {Q : Exit → Act → World → Prop} (E : World → World → Prop) (V : Nat → Value → World → Prop) (a0 : Act) (w0 : World)
    (htr : ∀ w w' w'', E w w' → E w' w'' → E w w'') (hstab : ∀ i v w w', V i v w → E w w' → V i v w')
    (hdst : ∀ (i : Nat) (o : Oper), ops[i]? = some o → ∃ d, o.dst = some d ∧ d < a0.tmps.size)
    (hne : ∀ (i j : Nat) (oi oj : Oper), ops[i]? = some oi → ops[j]? = some oj → i ≠ j → oi.dst ≠ oj.dst)
    (hord : ∀ (i : Nat) (o : Oper), ops[i]? = some o → ∀ e ∈ o.after, e.on < i)
    (hstep : ∀ (i : Nat) (o : Oper) (a : Act) (w : World), ops[i]? = some o → FrameOf ops a0 a → E w0 w → (∀ e ∈ o.after, Region.binds md e = true → V e.on (valOf ops a e.on) w) →
      Region.wanted o (yielded ops a.tmps) = true ∧ relUpon P (fun v w' => E w w' ∧ V i v w') ((execOp a.eval o).run P w))
    (hend : ∀ a w, FrameOf ops a0 a → E w0 w → (∀ i, i < ops.size → V i (valOf ops a i) w) → Q .normal a w) :
    ∀ (fuel : Nat) (listed : Array Bool) (a : Act) (w : World), listed.size = ops.size → listed.toList.count false = fuel → FrameOf ops a0 a → E w0 w →
      (∀ i, listed.getD i false = true → V i (valOf ops a i) w) → wpAny P md ops Q fuel listed a w := by
  have hall : ∀ (listed : Array Bool), listed.size = ops.size → Region.ready md ops listed = [] → ∀ i, i < ops.size → listed.getD i false = true := by
    intro listed hsz hr i
    induction i using Nat.strongRecOn with
    | ind i ih =>
      intro hi
      cases hl : listed.getD i true with
      | true => simpa [Array.getD, hsz, hi] using hl
      | false =>
        have : i ∈ Region.ready md ops listed := mem_ready.2 ⟨hl, ops[i], by simp [hi], fun e he _ => ih e.on (hord i _ (by simp [hi]) e he) (Nat.lt_trans (hord i _ (by simp [hi]) e he) hi)⟩
        rw [hr] at this
        cases this
  intro fuel
  induction fuel with
  | zero =>
    intro listed a w hsz hc hF hE hV
    have hno : Region.ready md ops listed = [] := by
      cases hr : Region.ready md ops listed with
      | nil => rfl
      | cons j r =>
        have hj : j ∈ Region.ready md ops listed := by rw [hr]; simp
        have := (count_set (mem_ready.1 hj).1).1
        omega
    exact ⟨hno, hend a w hF hE fun i hi => hV i (hall listed hsz hno i hi)⟩
  | succ fuel ih =>
    intro listed a w hsz hc hF hE hV
    refine ⟨fun hno => hend a w hF hE fun i hi => hV i (hall listed hsz hno i hi), fun i hi => ?_⟩
    obtain ⟨hl, o, ho, hdep⟩ := mem_ready.1 hi
    obtain ⟨hw, hrun⟩ := hstep i o a w ho hF hE (fun e he hb => hV e.on (hdep e he hb))
    obtain ⟨d, hd, hlt⟩ := hdst i o ho
    unfold wpOp
    simp only [ho, hw, if_true]
    refine .inl (wp_of_relUpon hrun fun v w' ⟨hE', hv⟩ => ?_)
    have hcs := count_set hl
    have hds : d < a.tmps.size := by rw [hF.1]; exact hlt
    rw [hd]
    refine ih _ _ _ (by rw [hcs.2]; exact hsz) (by omega) ⟨?_, ?_, ?_⟩ (htr _ _ _ hE hE') ?_
    · rw [Act.size_put]; exact hF.1
    · rw [Act.defers_put']; exact hF.2.1
    · intro t ht
      rw [Act.eval_put_ne _ _ _ _ (fun e => ht i o ho (by rw [hd, e]))]
      exact hF.2.2 t ht
    · intro k hk
      by_cases hki : k = i
      · subst hki
        have : valOf ops (a.put (some d) v) k = v := by unfold valOf; simp only [ho, Option.bind_some, hd]; exact Act.eval_put_same _ _ _ hds
        rw [this]
        exact hv
      · have hk' : listed.getD k false = true := by
          simp only [Array.getD_eq_getD_getElem?, Array.getElem?_setIfInBounds_ne (Ne.symm hki)] at hk ⊢
          exact hk
        have : valOf ops (a.put (some d) v) k = valOf ops a k := by
          unfold valOf
          cases hok : ops[k]? with
          | none => rfl
          | some ok =>
            cases hdk : ok.dst with
            | none => simp [hdk]
            | some dk =>
              simp only [Option.bind_some, hdk]
              exact Act.eval_put_ne _ _ _ _ (fun e => hne i k o ok ho hok (Ne.symm hki) (by rw [hd, hdk, e]))
        rw [this]
        exact hstab _ _ _ _ (hV k hk') hE'

/-- What is asked of a region's text: each operation has a slot of its own, and waits for earlier ones alone. -/
def relB (n : Nat) (ops : List Oper) : Bool :=
  ops.all (fun o => match o.dst with | some d => decide (d < n) | none => false) && decide (ops.map (·.dst)).Nodup && (ops.zipIdx.all fun x => x.1.after.all fun e => decide (e.on < x.2))

theorem wp_region_rel {P : Program} {id : Nat} {l : List Oper} {Q : Exit → Act → World → Prop} {a0 : Act} {w0 : World} (E : World → World → Prop) (V : Nat → Value → World → Prop)
    (hm : P.follows .mixedOrders = true) (hB : relB a0.tmps.size l = true)
    (hE0 : E w0 { w0 with drawn := w0.drawn + 1 }) (htr : ∀ w w' w'', E w w' → E w' w'' → E w w'') (hstab : ∀ i v w w', V i v w → E w w' → V i v w')
    (hstep : ∀ (i : Nat) (o : Oper) (a : Act) (w : World), l.toArray[i]? = some o → FrameOf l.toArray a0 a → E w0 w → (∀ e ∈ o.after, Region.binds .any e = true → V e.on (valOf l.toArray a e.on) w) →
      Region.wanted o (yielded l.toArray a.tmps) = true ∧ relUpon P (fun v w' => E w w' ∧ V i v w') ((execOp a.eval o).run P w))
    (hend : ∀ a w, FrameOf l.toArray a0 a → E w0 w → (∀ i, i < l.length → V i (valOf l.toArray a i) w) → Q .normal a w) :
    (Code.region id l.toArray true).wp P Q a0 w0 := by
  simp only [relB, Bool.and_eq_true, List.all_eq_true, decide_eq_true_eq] at hB
  obtain ⟨⟨h1, h2⟩, h3⟩ := hB
  have hget : ∀ (i : Nat) (o : Oper), l.toArray[i]? = some o → l[i]? = some o := fun i o h => by simpa using h
  refine wp_region_any hm (wpAny_rel E V a0 w0 htr hstab ?_ ?_ ?_ hstep (by simpa using hend) _ _ _ _ (by simp) (by simp) ⟨rfl, rfl, fun _ _ => rfl⟩ hE0 ?_)
  · intro i o ho
    have := h1 o (List.mem_of_getElem? (hget i o ho))
    cases hd : o.dst with
    | none => rw [hd] at this; cases this
    | some d => rw [hd] at this; exact ⟨d, rfl, by simpa using this⟩
  · intro i j oi oj hi hj hij he
    have hi' := hget i oi hi
    have hj' := hget j oj hj
    have li : i < (l.map (·.dst)).length := by rw [List.length_map]; exact (List.getElem?_eq_some_iff.1 hi').1
    have lj : j < (l.map (·.dst)).length := by rw [List.length_map]; exact (List.getElem?_eq_some_iff.1 hj').1
    refine hij ((List.getElem_inj (h₀ := li) (h₁ := lj) h2).1 ?_)
    rw [List.getElem_map, List.getElem_map, (List.getElem?_eq_some_iff.1 hi').2, (List.getElem?_eq_some_iff.1 hj').2, he]
  · intro i o ho e he
    have hi' := hget i o ho
    have := h3 (o, i) (by rw [List.mem_zipIdx_iff_getElem?]; exact hi')
    rw [Array.all_eq_true_iff_forall_mem] at this
    simpa using this e he
  · intro i hi
    simp [Array.getD, Array.getElem_replicate] at hi

/-- The operations' own obligations, one by one in the text's order. -/
def stepsAll (P : Program) (ops : Array Oper) (a0 : Act) (w0 : World) (E : World → World → Prop) (V : Nat → Value → World → Prop) : Nat → List Oper → Prop
  | _, [] => True
  | k, o :: r => (∀ a w, FrameOf ops a0 a → E w0 w → (∀ e ∈ o.after, Region.binds .any e = true → V e.on (valOf ops a e.on) w) →
      Region.wanted o (yielded ops a.tmps) = true ∧ relUpon P (fun v w' => E w w' ∧ V k v w') ((execOp a.eval o).run P w)) ∧ stepsAll P ops a0 w0 E V (k + 1) r

theorem stepsAll_at {P : Program} {ops : Array Oper} {a0 : Act} {w0 : World} {E : World → World → Prop} {V : Nat → Value → World → Prop} : ∀ (l : List Oper) (k : Nat), stepsAll P ops a0 w0 E V k l →
    ∀ (i : Nat) (o : Oper), l[i]? = some o → ∀ a w, FrameOf ops a0 a → E w0 w → (∀ e ∈ o.after, Region.binds .any e = true → V e.on (valOf ops a e.on) w) →
      Region.wanted o (yielded ops a.tmps) = true ∧ relUpon P (fun v w' => E w w' ∧ V (k + i) v w') ((execOp a.eval o).run P w)
  | [], _, _, i, o, h => by simp at h
  | o' :: r, k, hs, 0, o, h => by simp at h; subst h; exact hs.1
  | o' :: r, k, hs, i + 1, o, h => by
    have := stepsAll_at r (k + 1) hs.2 i o (by simpa using h)
    rw [show k + (i + 1) = k + 1 + i by omega]
    exact this

/-- At the class 'what was there stands'. -/
theorem wp_region_new {P : Program} {id : Nat} {l : List Oper} {Q : Exit → Act → World → Prop} {a0 : Act} {w0 : World} (V : Nat → Value → World → Prop)
    (hm : P.follows .mixedOrders = true) (hB : relB a0.tmps.size l = true) (hstab : ∀ i v w w', V i v w → Below w.heap.size w w' → V i v w')
    (hstep : stepsAll P l.toArray a0 w0 (fun w w' => Below w.heap.size w w') V 0 l)
    (hend : ∀ a w, FrameOf l.toArray a0 a → Below w0.heap.size w0 w → (∀ i, i < l.length → V i (valOf l.toArray a i) w) → Q .normal a w) :
    (Code.region id l.toArray true).wp P Q a0 w0 :=
  wp_region_rel (fun w w' => Below w.heap.size w w') V hm hB ((Below.refl _ _).drew) (fun _ _ _ h1 h2 => h1.trans (h2.mono h1.size)) hstab
    (fun i o a w ho => by have := stepsAll_at l 0 hstep i o (by simpa using ho) a w; simpa using this) hend

/-- A slot that no operation of the region writes. -/
theorem FrameOf.at {l : List Oper} {a0 a : Act} (h : FrameOf l.toArray a0 a) (t : Nat) (hB : (l.all fun o => o.dst != some t) = true) : a.eval (.tmp t) = a0.eval (.tmp t) := by
  refine h.2.2 t fun i o ho => ?_
  have := List.all_eq_true.1 hB o (List.mem_of_getElem? (show l[i]? = some o by simpa using ho))
  simpa using this

theorem yielded_of {ops : Array Oper} {a : Act} {j d : Nat} {b : Bool} (hd : (ops[j]?).bind (·.dst) = some d) (h : a.eval (.tmp d) = .bool b) : yielded ops a.tmps j = some b := by
  unfold yielded
  rw [hd, Option.bind_some]
  simp only [Act.eval, Array.getD_eq_getD_getElem?] at h
  cases ht : a.tmps[d]? with
  | none => rw [ht] at h; simp [undef] at h
  | some v => rw [ht] at h; simp at h; subst h; rfl

end Go.Proofs.Ythmfmeibjpgokaa
