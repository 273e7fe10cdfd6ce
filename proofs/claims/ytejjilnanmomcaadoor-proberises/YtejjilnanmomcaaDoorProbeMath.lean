/-
  The plain mathematics of chapter 10: who is well, answers in a row, who is forced. No program stands in it.
-/
import Derived.Test.YtejjilnanmomcaaDoorProbeOpen
namespace Go.Proofs.YtejjilnanmomcaaDoor

def topP : Int := 4611686018427387904
def wellP (p : ProbeT) : Bool := p.forced == 2 || (p.forced == 0 && p.up)
/-- The move from p to q: 1 up, 2 down, 0 none. -/
def moveP (p q : ProbeT) : Int := if wellP p = wellP q then 0 else if wellP q then 1 else 2
/-- One more answer against what it is. -/
def nextRun (r : Int) : Int := if r < 0 then 1 else if topP ≤ r then topP else r + 1
def needP (rise fall : Int) (p : ProbeT) : Int := if p.up then fall else rise
def endP (rise fall : Int) (p : ProbeT) (ok : Bool) : ProbeT × Int :=
  if ok = p.up then ({ p with run := 0, wait := 0 }, 0)
  else if needP rise fall p ≤ nextRun p.run then ({ p with up := ok, run := 0, wait := 0 }, moveP p { p with up := ok, run := 0, wait := 0 })
  else ({ p with run := nextRun p.run, wait := 0 }, 0)
def forceP (p : ProbeT) (how : Int) : ProbeT × Int := if how < 0 ∨ 2 < how then (p, 0) else ({ p with forced := how }, moveP p { p with forced := how })

theorem nextRun_pos (r : Int) : 1 ≤ nextRun r ∧ nextRun r ≤ topP := by unfold nextRun topP; split <;> (try split) <;> omega
theorem nextRun_ge {r : Int} {i : Nat} (h : (i : Int) ≤ max 0 r) (hi : (i : Int) + 1 ≤ topP) : (i : Int) + 1 ≤ nextRun r := by unfold nextRun topP at *; split <;> (try split) <;> omega
theorem moveP_self (p q : ProbeT) (h : wellP p = wellP q) : moveP p q = 0 := if_pos h
theorem moveP_cases (p q : ProbeT) : (moveP p q = 0 ∧ wellP q = wellP p) ∨ ((moveP p q = 1 ∨ moveP p q = 2) ∧ wellP q ≠ wellP p) := by
  unfold moveP
  split
  · rename_i h; exact .inl ⟨rfl, h.symm⟩
  · rename_i h
    refine .inr ⟨?_, fun e => h e.symm⟩
    split
    · exact .inl rfl
    · exact .inr rfl
theorem well_same {p q : ProbeT} (h1 : q.up = p.up) (h2 : q.forced = p.forced) : wellP q = wellP p := by unfold wellP; rw [h1, h2]
theorem endP_forced (rise fall : Int) (p : ProbeT) (ok : Bool) : (endP rise fall p ok).1.forced = p.forced := by
  unfold endP
  split
  · rfl
  · split <;> rfl
theorem endP_wait (rise fall : Int) (p : ProbeT) (ok : Bool) : (endP rise fall p ok).1.wait = 0 := by
  unfold endP
  split
  · rfl
  · split <;> rfl
theorem endP_in {rise fall : Int} {p : ProbeT} {ok : Bool} (h : inP p) : inP (endP rise fall p ok).1 := by
  obtain ⟨h1, h2, h3⟩ := h
  have := nextRun_pos p.run
  unfold topP at this
  unfold endP
  split
  · exact ⟨⟨by show (-9223372036854775808 : Int) ≤ 0; omega, by show (0 : Int) ≤ _; omega⟩, h2, ⟨by show (-9223372036854775808 : Int) ≤ 0; omega, by show (0 : Int) ≤ _; omega⟩⟩
  · split
    · exact ⟨⟨by show (-9223372036854775808 : Int) ≤ 0; omega, by show (0 : Int) ≤ _; omega⟩, h2, ⟨by show (-9223372036854775808 : Int) ≤ 0; omega, by show (0 : Int) ≤ _; omega⟩⟩
    · exact ⟨⟨by show (-9223372036854775808 : Int) ≤ nextRun _; omega, by show nextRun _ ≤ _; omega⟩, h2, ⟨by show (-9223372036854775808 : Int) ≤ 0; omega, by show (0 : Int) ≤ _; omega⟩⟩
/-- What a move tells, at any answer. -/
theorem endP_told (rise fall : Int) (p : ProbeT) (ok : Bool) : (((endP rise fall p ok).2 = 0 ∧ wellP (endP rise fall p ok).1 = wellP p) ∨ (((endP rise fall p ok).2 = 1 ∨ (endP rise fall p ok).2 = 2) ∧ wellP (endP rise fall p ok).1 ≠ wellP p)) := by
  unfold endP
  split
  · exact .inl ⟨rfl, well_same rfl rfl⟩
  · split
    · exact moveP_cases _ _
    · exact .inl ⟨rfl, well_same rfl rfl⟩

/-- i answers ok in a row behind p0: p, and so many moves. -/
structure Rising (n : Int) (ok : Bool) (p0 p : ProbeT) (i : Nat) (moves : Int) : Prop where
  forced : p.forced = p0.forced
  way : (p.up ≠ ok ∧ (i : Int) < n ∧ (i : Int) ≤ max 0 p.run ∧ wellP p = wellP p0 ∧ moves = 0) ∨ (p.up = ok ∧ (0 < i → p.run = 0) ∧ moves = if wellP p = wellP p0 then 0 else 1)
theorem rising_start {n : Int} (ok : Bool) (p : ProbeT) (hn : 1 ≤ n) : Rising n ok p p 0 0 := by
  refine ⟨rfl, ?_⟩
  by_cases h : p.up = ok
  · exact .inr ⟨h, fun h => by omega, by simp⟩
  · exact .inl ⟨h, by show (0 : Int) < n; omega, by show (0 : Int) ≤ max 0 p.run; omega, rfl, rfl⟩
theorem rising_next {n rise fall : Int} {ok : Bool} {p0 p : ProbeT} {i : Nat} {moves : Int} (hn : n = if ok then rise else fall) (hn2 : n ≤ topP) (h : Rising n ok p0 p i moves) :
    Rising n ok p0 (endP rise fall p ok).1 (i + 1) (if (endP rise fall p ok).2 = 0 then moves else moves + 1) ∧ (n ≤ (i : Int) → (endP rise fall p ok).2 = 0) := by
  obtain ⟨hf, hw⟩ := h
  rcases hw with ⟨h1, h2, h3, h4, h5⟩ | ⟨h1, h2, h3⟩
  · have hne : ¬ ok = p.up := fun e => h1 e.symm
    have hneed : needP rise fall p = n := by
      unfold needP
      cases hp : p.up <;> cases hok : ok
      · exact absurd (by rw [hp, hok]) h1
      · rw [hn, hok]; rfl
      · rw [hn, hok]; rfl
      · exact absurd (by rw [hp, hok]) h1
    have hge := nextRun_ge h3 (by omega)
    unfold endP
    rw [if_neg hne, hneed]
    split
    · rename_i hfl
      refine ⟨⟨hf, .inr ⟨rfl, fun _ => rfl, ?_⟩⟩, fun h => by omega⟩
      have hm := moveP_cases p { p with up := ok, run := 0, wait := 0 }
      rcases hm with ⟨m1, m2⟩ | ⟨m1, m2⟩
      · rw [if_pos m1, if_pos (m2.trans h4), h5]
      · have : moveP p { p with up := ok, run := 0, wait := 0 } ≠ 0 := by rcases m1 with m | m <;> rw [m] <;> decide
        rw [if_neg this, if_neg (fun e => m2 (e.trans h4.symm)), h5]; rfl
    · rename_i hfl
      have hlt : ((i + 1 : Nat) : Int) < n := by omega
      exact ⟨⟨hf, .inl ⟨h1, hlt, by show _ ≤ max 0 (nextRun p.run); omega, (well_same rfl rfl).trans h4, by rw [if_pos rfl, h5]⟩⟩, fun h => by omega⟩
  · unfold endP
    rw [if_pos h1.symm]
    refine ⟨⟨hf, .inr ⟨h1, fun _ => rfl, ?_⟩⟩, fun _ => rfl⟩
    rw [if_pos rfl, h3, show wellP { p with run := 0, wait := 0 } = wellP p from well_same rfl rfl]
/-- Behind so many it is so. -/
theorem rising_end {n : Int} {ok : Bool} {p0 p : ProbeT} {i : Nat} {moves : Int} (h : Rising n ok p0 p i moves) (hi : n ≤ (i : Int)) (hn : 1 ≤ n) :
    p.up = ok ∧ p.run = 0 ∧ (moves = if wellP p = wellP p0 then 0 else 1) ∧ (p.forced = 0 → wellP p = ok) := by
  rcases h.way with ⟨_, h2, _⟩ | ⟨h1, h2, h3⟩
  · omega
  · refine ⟨h1, h2 (by omega), h3, fun h0 => ?_⟩
    unfold wellP
    rw [h0, h1]
    cases ok <;> rfl

/-- Who is forced goes as one that is not, and tells no move. -/
theorem endP_held (rise fall : Int) (q : ProbeT) (x : Bool) (h : Int) (hh : h = 1 ∨ h = 2) : endP rise fall { q with forced := h } x = ({ (endP rise fall q x).1 with forced := h }, 0) := by
  unfold endP
  by_cases h1 : x = q.up
  · rw [if_pos h1, if_pos (show x = ({ q with forced := h } : ProbeT).up from h1)]
  · rw [if_neg h1, if_neg (show ¬ x = ({ q with forced := h } : ProbeT).up from h1)]
    have hn : needP rise fall { q with forced := h } = needP rise fall q := rfl
    rw [hn]
    show (if needP rise fall q ≤ nextRun q.run then _ else _) = _
    split
    · have : moveP { q with forced := h } { q with forced := h, up := x, run := 0, wait := 0 } = 0 := moveP_self _ _ (by unfold wellP; rcases hh with rfl | rfl <;> rfl)
      rw [this]
    · rfl

/-- Ups and downs are in turn. -/
structure Turning (rise fall : Int) (p : ProbeT) (last : Int) : Prop where
  forced : p.forced = 0
  wait : p.wait = 0
  last_ : last = if p.up then 1 else 2
  run : 0 ≤ p.run ∧ p.run < max rise fall
theorem turning_start {rise fall : Int} (h : 1 ≤ rise) : Turning rise fall ⟨true, 0, 0, 0⟩ 1 := ⟨rfl, rfl, rfl, Int.le_refl _, by show (0 : Int) < _; omega⟩
theorem turning_next {rise fall : Int} {p : ProbeT} {last : Int} (x : Bool) (h : Turning rise fall p last) (hr : 1 ≤ rise ∧ rise ≤ topP) (hfa : 1 ≤ fall ∧ fall ≤ topP) :
    Turning rise fall (endP rise fall p x).1 (if (endP rise fall p x).2 = 0 then last else (endP rise fall p x).2) ∧ ((endP rise fall p x).2 ≠ 0 → (endP rise fall p x).2 ≠ last ∧ (endP rise fall p x).2 = if x then 1 else 2) ∧ wellP (endP rise fall p x).1 = (endP rise fall p x).1.up := by
  obtain ⟨h0, hw, hl, hr1, hr2⟩ := h
  have hwell : ∀ q : ProbeT, q.forced = 0 → wellP q = q.up := fun q h => by unfold wellP; rw [h]; cases q.up <;> rfl
  have hnr : nextRun p.run = if topP ≤ p.run then topP else p.run + 1 := by unfold nextRun; rw [if_neg (by omega)]
  refine ⟨?_, ?_, hwell _ ((endP_forced _ _ _ _).trans h0)⟩
  · unfold endP
    split
    · rename_i he
      exact ⟨h0, rfl, by rw [if_pos rfl]; exact hl, Int.le_refl _, by show (0 : Int) < _; omega⟩
    · rename_i he
      split
      · have hm : moveP p { p with up := x, run := 0, wait := 0 } = if x then 1 else 2 := by
          unfold moveP
          rw [hwell p h0, hwell { p with up := x, run := 0, wait := 0 } h0]
          rw [if_neg (fun e => he e.symm)]
        rw [hm]
        have hx0 : ¬ (if x then (1 : Int) else 2) = 0 := by split <;> decide
        exact ⟨h0, rfl, by rw [if_neg hx0], Int.le_refl _, by show (0 : Int) < _; omega⟩
      · rename_i hlt
        refine ⟨h0, rfl, by rw [if_pos rfl]; exact hl, by show 0 ≤ nextRun _; have := nextRun_pos p.run; omega, ?_⟩
        show nextRun p.run < _
        unfold needP at hlt
        split at hlt <;> omega
  · unfold endP
    split
    · exact fun h => absurd rfl h
    · rename_i he
      split
      · have hm : moveP p { p with up := x, run := 0, wait := 0 } = if x then 1 else 2 := by
          unfold moveP
          rw [hwell p h0, hwell { p with up := x, run := 0, wait := 0 } h0]
          rw [if_neg (fun e => he e.symm)]
        intro _
        rw [hm, hl]
        refine ⟨?_, rfl⟩
        show (if x then (1 : Int) else 2) ≠ if p.up then 1 else 2
        cases hp : p.up <;> cases hx : x
        · exact absurd (by rw [hp, hx]) he
        · simp
        · simp
        · exact absurd (by rw [hp, hx]) he
      · exact fun h => absurd rfl h

end Go.Proofs.YtejjilnanmomcaaDoor
