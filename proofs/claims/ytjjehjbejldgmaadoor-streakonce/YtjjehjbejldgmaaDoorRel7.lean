/-
  A region that draws its order, by an invariant of which operations have run, the slots and the world. No program stands in it.
-/
import Derived.Test.YtjjehjbejldgmaaDoorRel3
namespace Go.Proofs.YtjjehjbejldgmaaDoor
open Go.RowKit

theorem wpAny_inv {P : Program} {md : Region.Mode} {ops : Array Oper} {Q : Exit → Act → World → Prop} (I : Array Bool → Act → World → Prop)
    (hord : ∀ (i : Nat) (o : Oper), ops[i]? = some o → ∀ e ∈ o.after, Region.binds md e = true → e.on < i)
    (hstep : ∀ (listed : Array Bool) (i : Nat) (o : Oper) (a : Act) (w : World), ops[i]? = some o → listed.size = ops.size → I listed a w → listed.getD i true = false → (∀ e ∈ o.after, Region.binds md e = true → listed.getD e.on false = true) →
      (Region.wanted o (yielded ops a.tmps) = true ∧ relUpon P (fun v w' => I (listed.setIfInBounds i true) (a.put o.dst v) w') ((execOp a.eval o).run P w)) ∨ (Region.wanted o (yielded ops a.tmps) = false ∧ I (listed.setIfInBounds i true) (a.put o.dst undef) w))
    (hend : ∀ (listed : Array Bool) a w, (∀ i, i < ops.size → listed.getD i false = true) → I listed a w → Q .normal a w) :
    ∀ (fuel : Nat) (listed : Array Bool) (a : Act) (w : World), listed.size = ops.size → listed.toList.count false = fuel → I listed a w → wpAny P md ops Q fuel listed a w := by
  have hall : ∀ (listed : Array Bool), listed.size = ops.size → Region.ready md ops listed = [] → ∀ i, i < ops.size → listed.getD i false = true := by
    intro listed hsz hr i
    induction i using Nat.strongRecOn with
    | ind i ih =>
      intro hi
      cases hl : listed.getD i true with
      | true => simpa [Array.getD, hsz, hi] using hl
      | false =>
        have : i ∈ Region.ready md ops listed := mem_ready.2 ⟨hl, ops[i], by simp [hi], fun e he hb => ih e.on (hord i _ (by simp [hi]) e he hb) (Nat.lt_trans (hord i _ (by simp [hi]) e he hb) hi)⟩
        rw [hr] at this
        cases this
  intro fuel
  induction fuel with
  | zero =>
    intro listed a w hsz hc hI
    have hno : Region.ready md ops listed = [] := by
      cases hr : Region.ready md ops listed with
      | nil => rfl
      | cons j r =>
        have hj : j ∈ Region.ready md ops listed := by rw [hr]; simp
        have := (count_set (mem_ready.1 hj).1).1
        omega
    exact ⟨hno, hend listed a w (hall listed hsz hno) hI⟩
  | succ fuel ih =>
    intro listed a w hsz hc hI
    refine ⟨fun hno => hend listed a w (hall listed hsz hno) hI, fun i hi => ?_⟩
    obtain ⟨hl, o, ho, hdep⟩ := mem_ready.1 hi
    have hst := hstep listed i o a w ho hsz hI hl hdep
    have hcs := count_set hl
    unfold wpOp
    simp only [ho]
    rcases hst with ⟨hw, hrun⟩ | ⟨hw, hI'⟩
    · simp only [hw, if_true]
      exact .inl (wp_of_relUpon hrun fun v w' hI' => ih _ _ _ (by rw [hcs.2]; exact hsz) (by omega) hI')
    · rw [if_neg (by rw [hw]; simp)]
      exact ih _ _ _ (by rw [hcs.2]; exact hsz) (by omega) hI'

/-- Each operation waits for earlier ones alone. -/
def ordB (ops : List Oper) : Bool := ops.zipIdx.all fun x => x.1.after.all fun e => !Region.binds .any e || decide (e.on < x.2)

def stepsI (P : Program) (ops : Array Oper) (I : Array Bool → Act → World → Prop) : Nat → List Oper → Prop
  | _, [] => True
  | k, o :: r => (∀ (listed : Array Bool) a w, listed.size = ops.size → I listed a w → listed.getD k true = false → (∀ e ∈ o.after, Region.binds .any e = true → listed.getD e.on false = true) →
      (Region.wanted o (yielded ops a.tmps) = true ∧ relUpon P (fun v w' => I (listed.setIfInBounds k true) (a.put o.dst v) w') ((execOp a.eval o).run P w)) ∨ (Region.wanted o (yielded ops a.tmps) = false ∧ I (listed.setIfInBounds k true) (a.put o.dst undef) w)) ∧ stepsI P ops I (k + 1) r
theorem stepsI_at {P : Program} {ops : Array Oper} {I : Array Bool → Act → World → Prop} : ∀ (l : List Oper) (k : Nat), stepsI P ops I k l →
    ∀ (i : Nat) (o : Oper), l[i]? = some o → ∀ (listed : Array Bool) a w, listed.size = ops.size → I listed a w → listed.getD (k + i) true = false → (∀ e ∈ o.after, Region.binds .any e = true → listed.getD e.on false = true) →
      (Region.wanted o (yielded ops a.tmps) = true ∧ relUpon P (fun v w' => I (listed.setIfInBounds (k + i) true) (a.put o.dst v) w') ((execOp a.eval o).run P w)) ∨ (Region.wanted o (yielded ops a.tmps) = false ∧ I (listed.setIfInBounds (k + i) true) (a.put o.dst undef) w)
  | [], _, _, i, o, h => by simp at h
  | o' :: r, k, hs, 0, o, h => by simp at h; subst h; exact hs.1
  | o' :: r, k, hs, i + 1, o, h => by
    have := stepsI_at r (k + 1) hs.2 i o (by simpa using h)
    rw [show k + (i + 1) = k + 1 + i by omega]
    exact this

theorem wp_region_inv {P : Program} {id : Nat} {l : List Oper} {Q : Exit → Act → World → Prop} {a0 : Act} {w0 : World} (I : Array Bool → Act → World → Prop)
    (hm : P.follows .mixedOrders = true) (hB : ordB l = true) (h0 : I (Array.replicate l.toArray.size false) a0 { w0 with drawn := w0.drawn + 1 })
    (hstep : stepsI P l.toArray I 0 l)
    (hend : ∀ (listed : Array Bool) a w, (∀ i, i < l.length → listed.getD i false = true) → I listed a w → Q .normal a w) :
    (Code.region id l.toArray true).wp P Q a0 w0 := by
  unfold ordB at hB
  rw [List.all_eq_true] at hB
  have hget : ∀ (i : Nat) (o : Oper), l.toArray[i]? = some o → l[i]? = some o := fun i o h => by simpa using h
  refine wp_region_any hm (wpAny_inv I ?_ (fun listed i o a w ho => by have := stepsI_at l 0 hstep i o (hget i o ho) listed a w; simpa using this) (fun listed a w hA hI => hend listed a w (fun i hi => hA i (by simpa using hi)) hI) _ _ _ _ (by simp) (by simp) h0)
  intro i o ho e he hb
  have hi' := hget i o ho
  have := hB (o, i) (by rw [List.mem_zipIdx_iff_getElem?]; exact hi')
  rw [Array.all_eq_true_iff_forall_mem] at this
  have h := this e he
  rw [hb] at h
  simpa using h

end Go.Proofs.YtjjehjbejldgmaaDoor
