/-
  As Rel3, for regions whose last operations go one behind the other, when all the others are done: those are walked as any other text. No program stands in it.
-/
import Derived.Test.YthoecpciiphofaaRel3
import Derived.StillTail
namespace Go.Proofs.Ythoecpciiphofaa
open Go.RowKit

/-- The first n are done, the others not. -/
def doneB (n m : Nat) : Array Bool := (List.replicate n true ++ List.replicate (m - n) false).toArray

theorem done_of {listed : Array Bool} {n m : Nat} (hnm : n ≤ m) (hs : listed.size = m) (h1 : ∀ i, i < n → listed.getD i false = true) (h2 : ∀ t, n ≤ t → t < m → listed.getD t true = false) : listed = doneB n m := by
  unfold doneB
  apply Array.ext (by simp [hs]; omega)
  intro i hi hi'
  have e : (List.replicate n true ++ List.replicate (m - n) false).toArray[i] = (List.replicate n true ++ List.replicate (m - n) false)[i]'(by simpa using hi') := rfl
  rw [e]
  rcases Nat.lt_or_ge i n with h | h
  · rw [List.getElem_append_left (by simpa using h), List.getElem_replicate]
    have := h1 i h
    simpa [Array.getD, hi] using this
  · rw [List.getElem_append_right (by simpa using h), List.getElem_replicate]
    have := h2 i h (by omega)
    simpa [Array.getD, hi] using this
theorem done_count (n m : Nat) : (doneB n m).toList.count false = m - n := by
  unfold doneB
  simp [List.count_append, List.count_replicate]

theorem wpAny_head {P : Program} {md : Region.Mode} {ops : Array Oper} {Q : Exit → Act → World → Prop} (n : Nat) (E : World → World → Prop) (V : Nat → Value → World → Prop) (a0 : Act) (w0 : World)
    (hn : n < ops.size) (hs : Region.sinkB md ops n = true) (hc : Region.chainB md ops n = true)
    (hrf : ∀ w, E w w) (htr : ∀ w w' w'', E w w' → E w' w'' → E w w'') (hstab : ∀ i v w w', V i v w → E w w' → V i v w')
    (hdst : ∀ (i : Nat) (o : Oper) (d : Nat), i < n → ops[i]? = some o → o.dst = some d → d < a0.tmps.size)
    (hne : ∀ (i j : Nat) (oi oj : Oper) (d : Nat), i < n → j < n → ops[i]? = some oi → ops[j]? = some oj → i ≠ j → oi.dst = some d → oj.dst ≠ some d)
    (hord : ∀ (i : Nat) (o : Oper), i < n → ops[i]? = some o → ∀ e ∈ o.after, Region.binds md e = true → e.on < i)
    (hstep : ∀ (i : Nat) (o : Oper) (a : Act) (w : World), i < n → ops[i]? = some o → FrameAt md (ops.extract 0 n) a0 a i → E w0 w → (∀ e ∈ o.after, Region.binds md e = true → V e.on (valOf ops a e.on) w) → StepAt P ops E V i o a w)
    (htail : ∀ a w, FrameOf (ops.extract 0 n) a0 a → E w0 w → (∀ i, i < n → V i (valOf ops a i) w) → wpAny P md ops Q (ops.size - n) (doneB n ops.size) a w) :
    ∀ (fuel : Nat) (listed : Array Bool) (a : Act) (w : World), HeadInv md ops n listed → listed.toList.count false = fuel → a.tmps.size = a0.tmps.size → a.defers = a0.defers →
      (∀ t, (∀ (i : Nat) (o : Oper), i < n → ops[i]? = some o → o.dst = some t → listed.getD i false = false) → a.eval (.tmp t) = a0.eval (.tmp t)) → E w0 w →
      (∀ i, i < n → listed.getD i false = true → V i (valOf ops a i) w) → wpAny P md ops Q fuel listed a w := by
  intro fuel
  induction fuel with
  | zero =>
    intro listed a w inv hcnt
    have h := inv.tail n (Nat.le_refl _) hn
    have := (count_set h).1
    omega
  | succ fuel ih =>
    intro listed a w inv hcnt h1 h2 h3 hE hV
    by_cases hall : ∀ i, i < n → listed.getD i false = true
    · have e := done_of (Nat.le_of_lt hn) inv.size hall (fun t ht ht' => inv.tail t ht ht')
      have e2 : fuel + 1 = ops.size - n := by rw [← hcnt, e, done_count]
      rw [e2, e]
      exact htail a w ⟨h1, h2, fun t ht => h3 t fun i o hi ho hd => absurd hd (ht i o (by rw [Array.getElem?_extract]; simp [show i < min n ops.size by omega, ho]))⟩ hE fun i hi => hV i hi (hall i hi)
    · obtain ⟨i0, hi0, hl0⟩ : ∃ i, i < n ∧ listed.getD i false = false := by
        apply Classical.byContradiction
        intro hno
        exact hall fun i hi => by
          cases hl : listed.getD i false with
          | true => rfl
          | false => exact absurd ⟨i, hi, hl⟩ hno
      have hl0t : listed.getD i0 true = false := getD_in (by rw [inv.size]; omega) hl0
      have hready : ∀ k, k ≤ i0 → listed.getD k false = false → ∃ j, j ∈ Region.ready md ops listed := by
        intro k
        induction k using Nat.strongRecOn with
        | ind k ihk =>
          intro hk hlk
          have hks : k < ops.size := by omega
          by_cases hd : ∀ e ∈ ops[k].after, Region.binds md e = true → listed.getD e.on false = true
          · exact ⟨k, mem_ready.2 ⟨getD_in (by rw [inv.size]; exact hks) hlk, ops[k], by simp [hks], hd⟩⟩
          · have : ∃ e ∈ ops[k].after, Region.binds md e = true ∧ listed.getD e.on false = false := by
              apply Classical.byContradiction
              intro hno
              exact hd fun e he hb => by
                cases hl : listed.getD e.on false with
                | true => rfl
                | false => exact absurd ⟨e, he, hb, hl⟩ hno
            obtain ⟨e, he, hb, hl⟩ := this
            have := hord k ops[k] (by omega) (by simp [hks]) e he hb
            exact ihk e.on this (by omega) hl
      refine ⟨fun hno => ?_, fun i hi => ?_⟩
      · obtain ⟨j, hj⟩ := hready i0 (Nat.le_refl _) hl0
        rw [hno] at hj
        cases hj
      · have hin : i < n := by
          rcases Nat.lt_or_ge i n with h | h
          · exact h
          · exact absurd hi (tail_waits hs hc hn inv _ i0 rfl hi0 hl0t i h)
        obtain ⟨hl, o, ho, hdep⟩ := mem_ready.1 hi
        have hlf := getD_true_false hl
        have hFA : FrameAt md (ops.extract 0 n) a0 a i := fun t ht => h3 t fun j oj hj hoj hdj => by
          obtain ⟨e, he, hb, hon⟩ := ht j oj (by rw [Array.getElem?_extract]; simp [show j < min n ops.size by omega, hoj]) hdj
          cases hlj : listed.getD j false with
          | false => rfl
          | true =>
            have := inv.closed j oj hoj hlj e he hb
            rw [hon, hlf] at this
            cases this
        have hst := hstep i o a w hin ho hFA hE (fun e he hb => hV e.on (by have := hord i o hin ho e he hb; omega) (hdep e he hb))
        have hcs := count_set hl
        have key : ∀ v w', E w w' → V i (slotV o v) w' → wpAny P md ops Q fuel (listed.setIfInBounds i true) (a.put o.dst v) w' := by
          intro v w' hE' hv
          refine ih _ _ _ (inv.set hi hin) (by omega) (by rw [Act.size_put]; exact h1) (by rw [Act.defers_put']; exact h2) ?_ (htr _ _ _ hE hE') ?_
          · intro t ht
            have hti : o.dst ≠ some t := fun hd => by
              have := ht i o hin ho hd
              rw [getD_set_same hl] at this
              cases this
            have e : (a.put o.dst v).eval (.tmp t) = a.eval (.tmp t) := by
              cases hd : o.dst with
              | none => rfl
              | some d => exact Act.eval_put_ne _ _ _ _ (fun e => hti (by rw [hd, e]))
            rw [e]
            refine h3 t fun j oj hj hoj hdj => ?_
            have hji : j ≠ i := fun e => by
              subst e
              rw [ho] at hoj
              cases hoj
              exact hti hdj
            have := ht j oj hj hoj hdj
            rwa [getD_set_other hji] at this
          · intro k hkn hk
            by_cases hki : k = i
            · subst hki
              have : valOf ops (a.put o.dst v) k = slotV o v := by
                unfold valOf slotV
                cases hd : o.dst with
                | none => simp [ho, hd]
                | some d =>
                  simp only [ho, Option.bind_some, hd]
                  exact Act.eval_put_same _ _ _ (by rw [h1]; exact hdst k o d hkn ho hd)
              rw [this]
              exact hv
            · rw [getD_set_other hki] at hk
              have : valOf ops (a.put o.dst v) k = valOf ops a k := by
                unfold valOf
                cases hok : ops[k]? with
                | none => rfl
                | some ok =>
                  cases hdk : ok.dst with
                  | none => simp [hdk]
                  | some dk =>
                    simp only [Option.bind_some, hdk]
                    cases hd : o.dst with
                    | none => rfl
                    | some d => exact Act.eval_put_ne _ _ _ _ (fun e => hne i k o ok d hin hkn ho hok (Ne.symm hki) hd (by rw [hdk, e]))
              rw [this]
              exact hstab _ _ _ _ (hV k hkn hk) hE'
        unfold wpOp
        simp only [ho]
        rcases hst with ⟨hw, hrun⟩ | ⟨hw, hv⟩
        · simp only [hw, if_true]
          exact .inl (wp_of_relUpon hrun fun v w' ⟨hE', hv⟩ => key v w' hE' hv)
        · rw [if_neg (by rw [hw]; simp)]
          refine key undef w (hrf w) ?_
          have : slotV o undef = undef := by unfold slotV; split <;> rfl
          rw [this]; exact hv

/-- What is asked of a region's text, its first n operations. -/
def headB (m : Nat) (ops : List Oper) (n : Nat) : Bool :=
  relB3 m (ops.take n) && decide (n < ops.length) && Region.sinkB .any ops.toArray n && Region.chainB .any ops.toArray n && Region.seqB .any ops.toArray (ops.length - n) n (doneB n ops.length)

def stepsHead (P : Program) (ops : Array Oper) (hd : Array Oper) (a0 : Act) (w0 : World) (E : World → World → Prop) (V : Nat → Value → World → Prop) : Nat → List Oper → Prop
  | _, [] => True
  | k, o :: r => (∀ a w, FrameAt .any hd a0 a k → E w0 w → (∀ e ∈ o.after, Region.binds .any e = true → V e.on (valOf ops a e.on) w) → StepAt P ops E V k o a w) ∧ stepsHead P ops hd a0 w0 E V (k + 1) r
theorem stepsHead_at {P : Program} {ops hd : Array Oper} {a0 : Act} {w0 : World} {E : World → World → Prop} {V : Nat → Value → World → Prop} : ∀ (l : List Oper) (k : Nat), stepsHead P ops hd a0 w0 E V k l →
    ∀ (i : Nat) (o : Oper), l[i]? = some o → ∀ a w, FrameAt .any hd a0 a (k + i) → E w0 w → (∀ e ∈ o.after, Region.binds .any e = true → V e.on (valOf ops a e.on) w) → StepAt P ops E V (k + i) o a w
  | [], _, _, i, o, h => by simp at h
  | o' :: r, k, hs, 0, o, h => by simp at h; subst h; exact hs.1
  | o' :: r, k, hs, i + 1, o, h => by
    have := stepsHead_at r (k + 1) hs.2 i o (by simpa using h)
    rw [show k + (i + 1) = k + 1 + i by omega]
    exact this

/-- The whole: the first n by relations, the others as they stand. -/
theorem wp_region_head {P : Program} {id : Nat} {l : List Oper} {Q : Exit → Act → World → Prop} {a0 : Act} {w0 : World} (n : Nat) (E : World → World → Prop) (V : Nat → Value → World → Prop)
    (hm : P.follows .mixedOrders = true) (hB : headB a0.tmps.size l n = true) (hE0 : E w0 { w0 with drawn := w0.drawn + 1 }) (hrf : ∀ w, E w w) (htr : ∀ w w' w'', E w w' → E w' w'' → E w w'')
    (hstab : ∀ i v w w', V i v w → E w w' → V i v w') (hstep : stepsHead P l.toArray (l.take n).toArray a0 w0 E V 0 (l.take n))
    (hend : ∀ (vs : Nat → Value) w, E w0 w → (∀ i, i < n → V i (vs i) w) → wpList P l.toArray Q (l.drop n) (putsV a0 (dstsV vs 0 (l.take n))) w) :
    (Code.region id l.toArray true).wp P Q a0 w0 := by
  simp only [headB, Bool.and_eq_true, decide_eq_true_eq] at hB
  obtain ⟨⟨⟨⟨hR, hn⟩, hs⟩, hc⟩, hq⟩ := hB
  simp only [relB3, Bool.and_eq_true, List.all_eq_true, decide_eq_true_eq] at hR
  obtain ⟨⟨h1, h2⟩, h3⟩ := hR
  have hget : ∀ (i : Nat) (o : Oper), i < n → l.toArray[i]? = some o → (l.take n)[i]? = some o := fun i o hi h => by
    rw [List.getElem?_take]; simpa [hi] using h
  have hd : ∀ (i : Nat) (o : Oper) (d : Nat), i < n → l.toArray[i]? = some o → o.dst = some d → d < a0.tmps.size := fun i o d hi ho hd => by
    have := h1 o (List.mem_of_getElem? (hget i o hi ho))
    rw [hd] at this
    simpa using this
  have hsz : l.toArray.size = l.length := by simp
  have hext : l.toArray.extract 0 n = (l.take n).toArray := by
    apply Array.toList_inj.1
    rw [Array.toList_extract, List.extract_eq_take_drop]
    simp
  refine wp_region_any hm (wpAny_head (md := .any) n E V a0 w0 (by rw [hsz]; exact hn) hs hc hrf htr hstab hd (fun i j oi oj d hi hj ho ho' => filterMap_nodup h2 i j oi oj d (hget i oi hi ho) (hget j oj hj ho')) ?_
    (fun i o a w hi ho => by have := stepsHead_at (l.take n) 0 hstep i o (hget i o hi ho) a w; rw [hext]; simpa using this) (fun a w hF hE hV => ?_) _ _ _ _ ?_ (by simp) rfl rfl (fun _ _ => rfl) hE0 ?_)
  · intro i o hi ho e he hb
    have hi' := hget i o hi ho
    have := h3 (o, i) (by rw [List.mem_zipIdx_iff_getElem?]; exact hi')
    rw [Array.all_eq_true_iff_forall_mem] at this
    have h := this e he
    rw [hb] at h
    simpa using h
  · rw [hext] at hF
    have e : a = putsV a0 (dstsV (fun i => valOf l.toArray a i) 0 (l.take n)) := by
      refine act_puts3 _ _ hF.1 hF.2.1 (fun x hx d hxd => ?_) (fun t ht => hF.2.2 t fun i o ho => ?_)
      · obtain ⟨i, o, ho, rfl⟩ := dstsV_mem hx
        have hin : i < n := by
          have := (List.getElem?_eq_some_iff.1 ho).1
          rw [List.length_take] at this
          omega
        have ho' : l.toArray[i]? = some o := by
          rw [List.getElem?_take] at ho
          simpa [hin] using ho
        refine ⟨hd i o d hin ho' hxd, ?_⟩
        have hod : o.dst = some d := hxd
        unfold valOf
        rw [Nat.zero_add, ho', Option.bind_some, hod]
      · exact ht _ (dstsV_of (k := 0) (show (l.take n)[i]? = some o by simpa using ho))
    have hw := hend _ w hE hV
    rw [← e] at hw
    have hl : (l.drop n).length = l.toArray.size - n := by simp
    rw [← hl, hsz]
    refine wpAny_of_seq (l.drop n) n _ a w (fun j => by simp) ?_ hw
    rw [List.length_drop]; exact hq
  · exact ⟨by simp, fun j oj _ hl => (by rw [getD_replicate_false] at hl; cases hl), fun t _ ht => getD_in (by simpa using ht) (getD_replicate_false _ _)⟩
  · intro i _ hi
    rw [getD_replicate_false] at hi
    cases hi

end Go.Proofs.Ythoecpciiphofaa
