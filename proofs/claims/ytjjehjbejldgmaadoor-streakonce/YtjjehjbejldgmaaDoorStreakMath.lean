/-
  The plain mathematics of chapter 11: failures in a row. No program stands in it.
-/
import Derived.Test.YtjjehjbejldgmaaDoorKit
namespace Go.Proofs.YtjjehjbejldgmaaDoor

def topS : Int := 4611686018427387904
/-- The count that n counts as. -/
def capS (n : Int) : Int := if n < 0 then 0 else if topS < n then topS else n
def moreS (n : Int) : Int := if n < topS then n + 1 else topS
/-- One more answer: the count behind it, and whether that is a yes. -/
def nextS (e n : Int) (ok : Bool) : Int × Bool := if ok then (0, false) else (moreS n, decide (0 < e) && decide (e ≤ moreS n))
/-- The same, begun anew behind a yes, with the yeses counted. -/
def oneS (e : Int) (s : Int × Int) (ok : Bool) : Int × Int := if (nextS e s.1 ok).2 then (0, s.2 + 1) else ((nextS e s.1 ok).1, s.2)
def runS (e n : Int) (l : List Bool) : Int × Int := l.foldl (oneS e) (n, 0)

theorem capS_in (n : Int) : 0 ≤ capS n ∧ capS n ≤ topS := by unfold capS topS; split <;> (try split) <;> omega
theorem capS_self {n : Int} (h0 : 0 ≤ n) (h1 : n ≤ topS) : capS n = n := by unfold capS; rw [if_neg (by omega), if_neg (by omega)]
theorem moreS_in {n : Int} (h0 : 0 ≤ n) : 0 ≤ moreS n ∧ moreS n ≤ topS := by unfold moreS; split <;> (unfold topS at *; omega)
theorem nextS_in {e n : Int} (ok : Bool) (h0 : 0 ≤ n) : 0 ≤ (nextS e n ok).1 ∧ (nextS e n ok).1 ≤ topS := by
  unfold nextS
  split
  · exact ⟨Int.le_refl _, by unfold topS; omega⟩
  · exact moreS_in h0
theorem oneS_yes {e n t : Int} {ok : Bool} {m : Int} (h : nextS e n ok = (m, true)) : oneS e (n, t) ok = (0, t + 1) := by
  show (if (nextS e n ok).2 then ((0 : Int), t + 1) else ((nextS e n ok).1, t)) = _
  rw [h]; rfl
theorem oneS_no {e n t : Int} {ok : Bool} {m : Int} (h : nextS e n ok = (m, false)) : oneS e (n, t) ok = (m, t) := by
  show (if (nextS e n ok).2 then ((0 : Int), t + 1) else ((nextS e n ok).1, t)) = _
  rw [h]; rfl
theorem oneS_in {e : Int} {s : Int × Int} (ok : Bool) (h0 : 0 ≤ s.1) : (0 ≤ (oneS e s ok).1 ∧ (oneS e s ok).1 ≤ topS) ∧ s.2 ≤ (oneS e s ok).2 ∧ (oneS e s ok).2 ≤ s.2 + 1 := by
  unfold oneS
  split
  · exact ⟨⟨Int.le_refl _, by unfold topS; omega⟩, by show s.2 ≤ s.2 + 1; omega, Int.le_refl _⟩
  · exact ⟨nextS_in ok h0, Int.le_refl _, by show s.2 ≤ s.2 + 1; omega⟩
theorem oneS_add (e : Int) (s : Int × Int) (ok : Bool) : oneS e s ok = ((oneS e (s.1, 0) ok).1, s.2 + (oneS e (s.1, 0) ok).2) := by
  unfold oneS
  split
  · show (_, _) = ((0 : Int), s.2 + (0 + 1)); rw [Int.zero_add]
  · show (_, _) = (_, s.2 + 0); rw [Int.add_zero]
theorem fold_add (e : Int) : ∀ (l : List Bool) (n t : Int), l.foldl (oneS e) (n, t) = ((runS e n l).1, t + (runS e n l).2)
  | [], n, t => by show (n, t) = (n, t + 0); rw [Int.add_zero]
  | x :: l, n, t => by
    unfold runS
    rw [List.foldl_cons, List.foldl_cons]
    have h1 := oneS_add e (n, t) x
    have h2 := fold_add e l (oneS e (n, 0) x).1 (t + (oneS e (n, 0) x).2)
    have h3 := fold_add e l (oneS e (n, 0) x).1 (oneS e (n, 0) x).2
    rw [h1]
    show List.foldl (oneS e) ((oneS e (n, 0) x).1, t + (oneS e (n, 0) x).2) l = _
    rw [h2]
    have h4 : oneS e (n, 0) x = ((oneS e (n, 0) x).1, (oneS e (n, 0) x).2) := rfl
    rw [h4, h3]
    show (_, _) = (_, t + (_ + _))
    rw [Int.add_assoc]
theorem runS_append (e n : Int) (a b : List Bool) : runS e n (a ++ b) = ((runS e (runS e n a).1 b).1, (runS e n a).2 + (runS e (runS e n a).1 b).2) := by
  show List.foldl _ _ (a ++ b) = _
  rw [List.foldl_append]
  exact fold_add e b (runS e n a).1 (runS e n a).2
theorem runS_one (e n : Int) (x : Bool) : runS e n [x] = oneS e (n, 0) x := rfl
theorem runS_next (e n : Int) (l : List Bool) (k : Nat) (hk : k < l.length) : runS e n (l.take (k + 1)) = oneS e (runS e n (l.take k)) (l.getD k false) := by
  unfold runS
  rw [List.take_add_one, List.getElem?_eq_getElem hk, List.foldl_append, List.getD_eq_getElem?_getD, List.getElem?_eq_getElem hk]
  rfl
theorem runS_in (e : Int) : ∀ (l : List Bool) (n : Int), 0 ≤ n → n ≤ topS → (0 ≤ (runS e n l).1 ∧ (runS e n l).1 ≤ topS) ∧ 0 ≤ (runS e n l).2 ∧ (runS e n l).2 ≤ l.length
  | [], n, h0, h1 => ⟨⟨h0, h1⟩, Int.le_refl _, Int.le_refl _⟩
  | x :: l, n, h0, h1 => by
    have e1 : runS e n (x :: l) = _ := fold_add e l (oneS e (n, 0) x).1 (oneS e (n, 0) x).2
    obtain ⟨⟨a0, a1⟩, a2, a3⟩ := oneS_in (e := e) (s := (n, 0)) x h0
    obtain ⟨b0, b2, b3⟩ := runS_in e l _ a0 a1
    rw [e1]
    refine ⟨b0, ?_, ?_⟩
    · show 0 ≤ _ + _; simp only at a2; omega
    · show _ + _ ≤ ((l.length + 1 : Nat) : Int); simp only at a3; omega
theorem runS_upto (e n : Int) (l : List Bool) (k : Nat) (hk : k ≤ l.length) (h0 : 0 ≤ n) (h1 : n ≤ topS) : (0 ≤ (runS e n (l.take k)).1 ∧ (runS e n (l.take k)).1 ≤ topS) ∧ 0 ≤ (runS e n (l.take k)).2 ∧ (runS e n (l.take k)).2 ≤ k := by
  have h := runS_in e (l.take k) n h0 h1
  rw [List.length_take] at h
  refine ⟨h.1, h.2.1, ?_⟩
  have := h.2.2
  omega
/-- Answers that are ok never say yes. -/
theorem runS_oks (e : Int) : ∀ k : Nat, runS e 0 (List.replicate k true) = (0, 0)
  | 0 => rfl
  | k + 1 => by
    rw [List.replicate_succ', runS_append, runS_oks e k]
    rfl
theorem div_step {a e q r : Int} (he : 0 < e) (hq : a / e = q) (hr : a % e = r) : ((a + 1) / e = if e ≤ r + 1 then q + 1 else q) ∧ ((a + 1) % e = if e ≤ r + 1 then 0 else r + 1) := by
  obtain ⟨h1, h2, h3⟩ := (Int.ediv_emod_unique he).1 ⟨hq, hr⟩
  by_cases h : e ≤ r + 1
  · rw [if_pos h, if_pos h]
    refine (Int.ediv_emod_unique he).2 ⟨?_, Int.le_refl _, he⟩
    rw [Int.mul_add, Int.mul_one]; omega
  · rw [if_neg h, if_neg h]
    exact (Int.ediv_emod_unique he).2 ⟨by omega, by omega, by omega⟩
/-- Failures alone: so many yeses as e goes into them. -/
theorem runS_fails {e : Int} (he : 1 ≤ e) (h9 : e ≤ topS) : ∀ n : Nat, runS e 0 (List.replicate n false) = ((n : Int) % e, (n : Int) / e)
  | 0 => by show ((0 : Int), (0 : Int)) = ((0 : Int) % e, (0 : Int) / e); rw [Int.zero_emod, Int.zero_ediv]
  | n + 1 => by
    rw [List.replicate_succ', runS_append, runS_fails he h9 n, runS_one]
    obtain ⟨d1, d2⟩ := div_step (a := (n : Int)) (by omega : 0 < e) rfl rfl
    have b0 := Int.emod_nonneg (n : Int) (show e ≠ 0 by omega)
    have b1 := Int.emod_lt_of_pos (n : Int) (show 0 < e by omega)
    rw [show ((n + 1 : Nat) : Int) = (n : Int) + 1 from by omega, d1, d2]
    have hm : moreS ((n : Int) % e) = (n : Int) % e + 1 := by unfold moreS; rw [if_pos (by omega)]
    have hn : nextS e ((n : Int) % e) false = ((n : Int) % e + 1, decide (e ≤ (n : Int) % e + 1)) := by
      unfold nextS
      rw [if_neg (by decide), hm, decide_eq_true (show 0 < e by omega), Bool.true_and]
    by_cases h : e ≤ (n : Int) % e + 1
    · rw [decide_eq_true h] at hn
      rw [oneS_yes hn, if_pos h, if_pos h]
      show ((0 : Int), _ + (0 + 1)) = _
      rw [Int.zero_add]
    · rw [decide_eq_false h] at hn
      rw [oneS_no hn, if_neg h, if_neg h]
      show (_, _ + (0 : Int)) = _
      rw [Int.add_zero]
/-- None ever are. -/
theorem runS_none (n : Nat) : (n : Int) ≤ topS → runS 0 0 (List.replicate n false) = ((n : Int), 0) := by
  generalize hT : topS = T
  induction n with
  | zero => intro _; rfl
  | succ n ih =>
    intro h
    rw [List.replicate_succ', runS_append, ih (by omega), runS_one]
    have hm : moreS (n : Int) = (n : Int) + 1 := by unfold moreS; rw [hT, if_pos (by omega)]
    have hn : nextS 0 (n : Int) false = ((n : Int) + 1, false) := by
      unfold nextS
      rw [if_neg (by decide), hm]
      rfl
    rw [oneS_no hn]
    show ((n : Int) + 1, (0 : Int) + 0) = (((n + 1 : Nat) : Int), 0)
    rw [Int.add_zero]
    congr 1
/-- Failures, one that is ok, and as many failures again. -/
theorem runS_two {e : Int} (he : 1 ≤ e) (h9 : e ≤ topS) (n : Nat) : runS e 0 ((List.replicate n false ++ [true]) ++ List.replicate n false) = ((n : Int) % e, 2 * ((n : Int) / e)) := by
  have h1 : runS e 0 (List.replicate n false ++ [true]) = (0, (n : Int) / e) := by
    rw [runS_append, runS_fails he h9 n, runS_one]
    show (0, _ + (0 : Int)) = _
    rw [Int.add_zero]
  rw [runS_append, h1]
  show ((runS e 0 (List.replicate n false)).1, _ + (runS e 0 (List.replicate n false)).2) = _
  rw [runS_fails he h9 n]
  show (_, _ + _) = _
  rw [Int.two_mul]

end Go.Proofs.YtjjehjbejldgmaaDoor
