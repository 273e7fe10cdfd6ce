/-
  A region whose last operations go one behind the other, when all the others are done: the others by a condition on the world that the last ones may break. No program stands in it.
-/
import Derived.Test.YtelpdmaphmfkiaaRel4
import Derived.Deep.RegionHeld
namespace Go.Proofs.Ytelpdmaphmfkiaa
open Go.RowKit

/-- The post of the first ones: behind them the last ones go as they stand. -/
def afterHead (P : Program) (ops : Array Oper) (Q : Exit → Act → World → Prop) (rest : List Oper) : Exit → Act → World → Prop
  | .normal, a, w => wpList P ops Q rest a w
  | e, a, w => Q e a w

theorem upon_head {P : Program} {ops : Array Oper} {Q : Exit → Act → World → Prop} {rest : List Oper} {o : Oper} {a : Act} {K : Act → World → Prop} {r : Result Next} (h : o.upon P a K (afterHead P ops Q rest) r) : o.upon P a K Q r := by
  cases r with
  | ok n w' =>
    cases n <;> simp only [Oper.upon] at h ⊢ <;>
      first
        | exact h
        | exact Calls.mono h (fun e w'' he => by cases e <;> exact he)
  | halt x w' => cases x <;> simp only [Oper.upon] at h ⊢ <;> exact h

theorem wpOp_head {P : Program} {ops hd : Array Oper} {Q : Exit → Act → World → Prop} {rest : List Oper} {i : Nat} {o : Oper} {a : Act} {w : World} {K : Act → World → Prop} (hi : ops[i]? = some o) (hi' : hd[i]? = some o) (hg : o.guard = none)
    (h : wpOp P hd (afterHead P ops Q rest) i K a w) : wpOp P ops Q i K a w := by
  unfold wpOp at *
  simp only [hi, hi'] at h ⊢
  have hw : ∀ y, Region.wanted o y = true := fun y => by simp [Region.wanted, hg]
  simp only [hw, if_true] at h ⊢
  exact h.imp upon_head (fun h => h)

theorem set_extract {l : Array Bool} {n i : Nat} (hi : i < n) : (l.setIfInBounds i true).extract 0 n = (l.extract 0 n).setIfInBounds i true := by
  apply Array.ext_getElem?
  intro j
  by_cases hj : j < n
  · by_cases hij : i = j
    · subst hij
      by_cases hl : i < l.size
      · simp [Array.getElem?_extract, Array.getElem?_setIfInBounds, hl]
      · simp [Array.getElem?_extract, Array.getElem?_setIfInBounds, hl]
        omega
    · simp [Array.getElem?_extract, hij]
  · rw [Array.getElem?_eq_none (by simp; omega), Array.getElem?_eq_none (by simp; omega)]
theorem getD_extract {l : Array Bool} {n i : Nat} (d : Bool) (hi : i < n) (hn : n ≤ l.size) : (l.extract 0 n).getD i d = l.getD i d := by
  have h1 : i < l.size := by omega
  simp [Array.getD, h1, show i < min n l.size by omega]

theorem wpAny_split {P : Program} {md : Region.Mode} {ops : Array Oper} {Q : Exit → Act → World → Prop} {rest : List Oper} (n : Nat)
    (hn : n < ops.size) (hs : Region.sinkB md ops n = true) (hc : Region.chainB md ops n = true)
    (hgd : ∀ (i : Nat) (o : Oper), i < n → ops[i]? = some o → o.guard = none)
    (hord : ∀ (i : Nat) (o : Oper), i < n → ops[i]? = some o → ∀ e ∈ o.after, Region.binds md e = true → e.on < i)
    (htail : ∀ a w, wpList P ops Q rest a w → wpAny P md ops Q (ops.size - n) (doneB n ops.size) a w) :
    ∀ (fuel : Nat) (listed : Array Bool) (a : Act) (w : World), HeadInv md ops n listed → listed.toList.count false = fuel + (ops.size - n) →
      wpAny P md (ops.extract 0 n) (afterHead P ops Q rest) fuel (listed.extract 0 n) a w → wpAny P md ops Q (fuel + (ops.size - n)) listed a w := by
  have hget : ∀ i, i < n → (ops.extract 0 n)[i]? = ops[i]? := fun i hi => by
    rw [Array.getElem?_extract]; simp [show i < min n ops.size by omega]
  have hready : ∀ (listed : Array Bool), listed.size = ops.size → ∀ i, i < n → i ∈ Region.ready md ops listed → i ∈ Region.ready md (ops.extract 0 n) (listed.extract 0 n) := fun listed hsz i hi h => by
    obtain ⟨hl, o, ho, hdep⟩ := mem_ready.1 h
    refine mem_ready.2 ⟨by rw [getD_extract _ hi (by omega)]; exact hl, o, by rw [hget i hi]; exact ho, fun e he hb => ?_⟩
    have := hord i o hi ho e he hb
    rw [getD_extract _ (by omega) (by omega)]
    exact hdep e he hb
  have hback : ∀ (listed : Array Bool), listed.size = ops.size → ∀ i, i < n → i ∈ Region.ready md (ops.extract 0 n) (listed.extract 0 n) → i ∈ Region.ready md ops listed := fun listed hsz i hi h => by
    obtain ⟨hl, o, ho, hdep⟩ := mem_ready.1 h
    rw [getD_extract _ hi (by omega)] at hl
    rw [hget i hi] at ho
    refine mem_ready.2 ⟨hl, o, ho, fun e he hb => ?_⟩
    have h1 := hord i o hi ho e he hb
    have := hdep e he hb
    rwa [getD_extract _ (by omega) (by omega)] at this
  have hsome : ∀ (listed : Array Bool), HeadInv md ops n listed → ∀ i, i < n → listed.getD i false = false → ∃ j, j < n ∧ j ∈ Region.ready md ops listed := by
    intro listed inv k
    induction k using Nat.strongRecOn with
    | ind k ihk =>
      intro hk hlk
      have hks : k < ops.size := by omega
      by_cases hd : ∀ e ∈ ops[k].after, Region.binds md e = true → listed.getD e.on false = true
      · exact ⟨k, hk, mem_ready.2 ⟨getD_in (by rw [inv.size]; exact hks) hlk, ops[k], by simp [hks], hd⟩⟩
      · have : ∃ e ∈ ops[k].after, Region.binds md e = true ∧ listed.getD e.on false = false := by
          apply Classical.byContradiction
          intro hno
          exact hd fun e he hb => by
            cases hl : listed.getD e.on false with
            | true => rfl
            | false => exact absurd ⟨e, he, hb, hl⟩ hno
        obtain ⟨e, he, hb, hl⟩ := this
        have := hord k ops[k] (by omega) (by simp [hks]) e he hb
        exact ihk e.on this (by omega) hl
  have hdone : ∀ (listed : Array Bool) a w, HeadInv md ops n listed → (∀ i, i < n → listed.getD i false = true) → wpList P ops Q rest a w → ∀ fuel, listed.toList.count false = fuel + (ops.size - n) → wpAny P md ops Q (fuel + (ops.size - n)) listed a w := by
    intro listed a w inv hall h fuel hcnt
    have e := done_of (Nat.le_of_lt hn) inv.size hall (fun t ht ht' => inv.tail t ht ht')
    have : fuel = 0 := by rw [e, done_count] at hcnt; omega
    subst this
    rw [Nat.zero_add, e]
    exact htail a w h
  intro fuel
  induction fuel with
  | zero =>
    intro listed a w inv hcnt h
    by_cases hall : ∀ i, i < n → listed.getD i false = true
    · exact hdone listed a w inv hall h.2 0 hcnt
    · obtain ⟨i0, hi0, hl0⟩ : ∃ i, i < n ∧ listed.getD i false = false := by
        apply Classical.byContradiction
        intro hno
        exact hall fun i hi => by
          cases hl : listed.getD i false with
          | true => rfl
          | false => exact absurd ⟨i, hi, hl⟩ hno
      obtain ⟨j, hj, hjr⟩ := hsome listed inv i0 hi0 hl0
      have := hready listed inv.size j hj hjr
      rw [h.1] at this
      cases this
  | succ fuel ih =>
    intro listed a w inv hcnt h
    by_cases hall : ∀ i, i < n → listed.getD i false = true
    · refine hdone listed a w inv hall (h.1 ?_) _ hcnt
      apply List.eq_nil_iff_forall_not_mem.2
      intro i hi
      obtain ⟨hl, o, ho, _⟩ := mem_ready.1 hi
      have hin : i < n := by
        have := (Array.getElem?_eq_some_iff.1 ho).1
        rw [Array.size_extract] at this
        omega
      rw [getD_extract _ hin (by rw [inv.size]; omega)] at hl
      have := hall i hin
      rw [getD_true_false hl] at this
      cases this
    · obtain ⟨i0, hi0, hl0⟩ : ∃ i, i < n ∧ listed.getD i false = false := by
        apply Classical.byContradiction
        intro hno
        exact hall fun i hi => by
          cases hl : listed.getD i false with
          | true => rfl
          | false => exact absurd ⟨i, hi, hl⟩ hno
      have hl0t : listed.getD i0 true = false := getD_in (by rw [inv.size]; omega) hl0
      rw [show fuel + 1 + (ops.size - n) = (fuel + (ops.size - n)) + 1 by omega]
      refine ⟨fun hno => ?_, fun i hi => ?_⟩
      · obtain ⟨j, hj, hjr⟩ := hsome listed inv i0 hi0 hl0
        rw [hno] at hjr
        cases hjr
      · have hin : i < n := by
          rcases Nat.lt_or_ge i n with h | h
          · exact h
          · exact absurd hi (tail_waits hs hc hn inv _ i0 rfl hi0 hl0t i h)
        obtain ⟨hl, o, ho, hdep⟩ := mem_ready.1 hi
        have h1 := h.2 i (hready listed inv.size i hin hi)
        have hcs := count_set hl
        refine wpOp_mono (fun a' w' hK => ?_) (wpOp_head ho (by rw [hget i hin]; exact ho) (hgd i o hin ho) h1)
        rw [← set_extract hin] at hK
        exact ih _ a' w' (inv.set hi hin) (by omega) hK

/-- What is asked of a region's text. -/
def splitB (ops : List Oper) (n : Nat) : Bool :=
  decide (n < ops.length) && Region.sinkB .any ops.toArray n && Region.chainB .any ops.toArray n && Region.seqB .any ops.toArray (ops.length - n) n (doneB n ops.length)
    && ((ops.take n).zipIdx.all fun x => x.1.guard.isNone && x.1.after.all fun e => !Region.binds .any e || decide (e.on < x.2))

/-- The first n under a condition S, the others as they stand. -/
theorem wp_region_split {P : Program} {id : Nat} {l : List Oper} {Q : Exit → Act → World → Prop} {a0 : Act} {w0 : World} (n : Nat) (S : World → Prop)
    (hm : P.follows .mixedOrders = true) (hB : splitB l n = true) (hS : S w0.drew)
    (h : S w0.drew → wpAnyH P .any (l.take n).toArray (afterHead P l.toArray Q (l.drop n)) S n (Array.replicate n false) a0 w0.drew) :
    (Code.region id l.toArray true).wp P Q a0 w0 := by
  simp only [splitB, Bool.and_eq_true, decide_eq_true_eq] at hB
  obtain ⟨⟨⟨⟨hn, hs⟩, hc⟩, hq⟩, hg⟩ := hB
  rw [List.all_eq_true] at hg
  have hsz : l.toArray.size = l.length := by simp
  have hget : ∀ (i : Nat) (o : Oper), i < n → l.toArray[i]? = some o → (o, i) ∈ (l.take n).zipIdx := fun i o hi h => by
    rw [List.mem_zipIdx_iff_getElem?]
    show (l.take n)[i]? = some o
    rw [List.getElem?_take]; simpa [hi] using h
  have hext : l.toArray.extract 0 n = (l.take n).toArray := by
    apply Array.toList_inj.1
    rw [Array.toList_extract, List.extract_eq_take_drop]
    simp
  have hdl : (l.drop n).length = l.toArray.size - n := by simp
  have key := wpAny_split (P := P) (md := .any) (ops := l.toArray) (Q := Q) (rest := l.drop n) n (by rw [hsz]; exact hn) hs hc
    (fun i o hi ho => by
      have := hg _ (hget i o hi ho)
      rw [Bool.and_eq_true] at this
      simpa using this.1)
    (fun i o hi ho e he hb => by
      have h1 := hg _ (hget i o hi ho)
      rw [Bool.and_eq_true] at h1
      have h2 := Array.all_eq_true_iff_forall_mem.1 h1.2 e he
      rw [hb] at h2
      simpa using h2)
    (fun a w hw => by
      rw [← hdl, hsz]
      exact wpAny_of_seq (l.drop n) n _ a w (fun j => by simp) (by rw [List.length_drop]; exact hq) hw)
    n (Array.replicate l.toArray.size false) a0 { w0 with drawn := w0.drawn + 1 }
    ⟨by simp, fun j oj _ hl => (by rw [getD_replicate_false] at hl; cases hl), fun t _ ht => getD_in (by simpa using ht) (getD_replicate_false _ _)⟩
    (by simp; omega)
    (by
      rw [hext, show (Array.replicate l.toArray.size false).extract 0 n = Array.replicate n false by
        apply Array.ext
        · simp; omega
        · intro j h1 h2; simp]
      exact wpAny_of_held _ _ _ _ (h hS))
  refine wp_region_any hm ?_
  have e : n + (l.toArray.size - n) = l.toArray.size := by rw [hsz]; omega
  rw [e] at key
  exact key

/-- AllReadyH.cons, at a list: the operation comes out written out. -/
theorem readyH_cons {P : Program} {md : Region.Mode} {l : List Oper} {Q : Exit → Act → World → Prop} {S : World → Prop} {fuel : Nat} {listed : Array Bool} {a : Act} {w : World} {i : Nat} {o : Oper} {rs : List Nat} (ho : l[i]? = some o)
    (h : ∀ K' : Act → World → Prop, Shut (∀ a w, S w → (S w → wpAnyH P md l.toArray Q S fuel (listed.setIfInBounds i true) a w) → K' a w) → if Region.wanted o (yielded l.toArray a.tmps) = true then Oper.wp P o a w K' Q else K' (a.put o.dst undef) w)
    (hs : AllReadyH P md l.toArray Q S fuel listed a w rs) : AllReadyH P md l.toArray Q S fuel listed a w (i :: rs) := AllReadyH.cons (by simpa using ho) h hs

/-- wpAnyH_take, at a list. -/
theorem takeH {P : Program} {md : Region.Mode} {l : List Oper} {Q : Exit → Act → World → Prop} {S : World → Prop} {i : Nat} {oi : Oper} {v : Value} {fuel : Nat} {listed : Array Bool} {a : Act} {w : World} (hi : l[i]? = some oi)
    (hs : Region.noSelect l.toArray = true) (hf : Region.free md l.toArray listed i = true) (hr : (Region.ready md l.toArray listed).contains i = true)
    (hQ : ∀ c a w, Q (.panic c) (a.put oi.dst v) w → Q (.panic c) a w) (hy : YieldsIf P l.toArray S oi v a) (hS : S w)
    (h : wpAnyH P md l.toArray Q S fuel (listed.setIfInBounds i true) (a.put oi.dst v) w) : wpAnyH P md l.toArray Q S (fuel + 1) listed a w :=
  wpAnyH_take (by simpa using hi) hs hf hr hQ hy hS h

end Go.Proofs.Ytelpdmaphmfkiaa
