/-
  The plain mathematics of chapter 6, further: whatever is read may be; a text's lines in another order, and one of them twice. No program stands in it.
-/
import Derived.Test.YtjjehjbejldgmaaDoorConfMath
namespace Go.Proofs.YtjjehjbejldgmaaDoor

theorem placeW_le (s : ByteArray) (l : List ByteArray) : placeW s l ≤ l.length := by
  unfold placeW
  cases h : l.findIdx? (· == s) with
  | none => simp
  | some i =>
    obtain ⟨hi, _⟩ := List.findIdx?_eq_some_iff_getElem.1 h
    simp only
    omega

/-- What is read behind a name is within its bounds. -/
theorem read_in {i : Nat} {w : ByteArray} {k : Int} {z : ByteArray} (h : readC i w = some (k, z)) : lowC i ≤ k ∧ k ≤ highC i ∧ (z.size = 0 ∨ nameOK z = true) := by
  unfold readC at h
  split at h
  · rename_i h21
    subst h21
    have e1 : lowC 21 = 0 := rfl
    have e2 : highC 21 = 0 := rfl
    rw [e1, e2]
    split at h
    · simp only [Option.some.injEq, Prod.mk.injEq] at h
      obtain ⟨rfl, rfl⟩ := h
      exact ⟨by omega, by omega, .inl rfl⟩
    · split at h
      · rename_i hn
        simp only [Option.some.injEq, Prod.mk.injEq] at h
        obtain ⟨rfl, rfl⟩ := h
        exact ⟨by omega, by omega, .inr hn⟩
      · simp at h
  · split at h
    · rename_i h20
      subst h20
      have e1 : lowC 20 = 1 := rfl
      have e2 : highC 20 = 3 := rfl
      have hle : placeW w polW ≤ 3 := placeW_le w polW
      rw [e1, e2]
      split at h
      · simp at h
      · simp only [Option.some.injEq, Prod.mk.injEq] at h
        obtain ⟨rfl, rfl⟩ := h
        exact ⟨by omega, by omega, .inl rfl⟩
    · split at h
      · rename_i h15
        have e12 : lowC i = 0 ∧ highC i = 1 := by rcases h15 with rfl | rfl <;> exact ⟨rfl, rfl⟩
        have hle : placeW w yesW ≤ 2 := placeW_le w yesW
        rw [e12.1, e12.2]
        split at h
        · simp at h
        · simp only [Option.some.injEq, Prod.mk.injEq] at h
          obtain ⟨rfl, rfl⟩ := h
          exact ⟨by omega, by omega, .inl rfl⟩
      · split at h
        · rename_i hb
          simp only [Bool.and_eq_true, decide_eq_true_eq] at hb
          simp only [Option.some.injEq, Prod.mk.injEq] at h
          obtain ⟨rfl, rfl⟩ := h
          exact ⟨hb.2.1, hb.2.2, .inl rfl⟩
        · simp at h

theorem findC_lt {s : ByteArray} {i : Nat} (h : findC s = some i) : i < 23 := by
  unfold findC at h
  have := List.mem_of_find?_eq_some h
  simpa using this

/-- What has been read so far may be. -/
structure GoodR (r : Read) : Prop where
  len : r.n.length = 23
  fits : ∀ i, i < 23 → fitsC r.n i = true
  zone : r.z.size = 0 ∨ nameOK r.z = true
theorem good0 : GoodR read0 := ⟨rfl, fun i hi => by
  have h : ∀ k : Fin 23, fitsC defNums k.1 = true := by decide +kernel
  exact h ⟨i, hi⟩, .inl rfl⟩

theorem fits_set {n : List Int} {i j : Nat} {k : Int} (hl : n.length = 23) (hi : i < 23) (h : fitsC n j = true) (h1 : lowC i ≤ k) (h2 : k ≤ highC i) : fitsC (n.set i k) j = true := by
  unfold fitsC at h ⊢
  rw [decide_eq_true_eq] at h ⊢
  simp only [List.getD_eq_getElem?_getD, List.getElem?_set] at h ⊢
  by_cases e : i = j
  · subst e
    have : i < n.length := by omega
    simp [this, h1, h2]
  · simpa [e] using h

/-- How a line is read, whatever stood before. -/
def wordsC (ws : List ByteArray) : Option (Nat × Int × ByteArray) := match ws with
  | [a, b] => match findC a with
    | none => none
    | some i => match readC i b with
      | none => none
      | some (k, z) => some (i, k, z)
  | _ => none
theorem stepC_words (r : Read) (ws : List ByteArray) : stepC r ws = match wordsC ws with
    | none => none
    | some (i, k, z) => if r.seen.getD i false then none else some ⟨r.n.set i k, if i = 21 then z else r.z, r.seen.set i true⟩ := by
  unfold stepC wordsC
  match ws with
  | [] => rfl
  | [_] => rfl
  | _ :: _ :: _ :: _ => rfl
  | [a, b] =>
    simp only
    cases hf : findC a with
    | none => rfl
    | some i =>
      simp only
      cases hr : readC i b with
      | none => simp
      | some p => obtain ⟨k, z⟩ := p; rfl
theorem wordsC_in {ws : List ByteArray} {i : Nat} {k : Int} {z : ByteArray} (h : wordsC ws = some (i, k, z)) : i < 23 ∧ lowC i ≤ k ∧ k ≤ highC i ∧ (z.size = 0 ∨ nameOK z = true) := by
  unfold wordsC at h
  split at h
  · split at h
    · simp at h
    · rename_i j hj
      cases hr : readC j _ with
      | none => rw [hr] at h; simp at h
      | some p =>
        obtain ⟨k', z'⟩ := p
        rw [hr] at h
        simp only [Option.some.injEq, Prod.mk.injEq] at h
        obtain ⟨rfl, rfl, rfl⟩ := h
        exact ⟨findC_lt hj, read_in hr⟩
  · simp at h
theorem step_good {r r' : Read} {ws : List ByteArray} (h : GoodR r) (hs : stepC r ws = some r') : GoodR r' := by
  rw [stepC_words] at hs
  cases hw : wordsC ws with
  | none => rw [hw] at hs; simp at hs
  | some p =>
    obtain ⟨i, k, z⟩ := p
    obtain ⟨hi, h1, h2, hz⟩ := wordsC_in hw
    rw [hw] at hs
    simp only at hs
    split at hs
    · simp at hs
    · simp only [Option.some.injEq] at hs
      subst hs
      refine ⟨by simp [h.len], fun j hj => fits_set h.len hi (h.fits j hj) h1 h2, ?_⟩
      simp only
      split
      · exact hz
      · exact h.zone
theorem run_good (L : List (Int × List ByteArray)) {r r' : Read} (h : GoodR r) (hr : runC r L = .inl r') : GoodR r' := by
  induction L generalizing r with
  | nil => simp only [runC, Sum.inl.injEq] at hr; exact hr ▸ h
  | cons l L ih =>
    rw [runC] at hr
    cases hs : stepC r l.2 with
    | none => rw [hs] at hr; simp at hr
    | some r1 => rw [hs] at hr; exact ih (step_good h hs) hr
theorem run_err (L : List (Int × List ByteArray)) {r : Read} {no : Int} (hr : runC r L = .inr no) : ∃ l ∈ L, l.1 = no := by
  induction L generalizing r with
  | nil => simp [runC] at hr
  | cons l L ih =>
    rw [runC] at hr
    cases hs : stepC r l.2 with
    | none => rw [hs] at hr; simp only [Sum.inr.injEq] at hr; exact ⟨l, by simp, hr⟩
    | some r1 =>
      rw [hs] at hr
      obtain ⟨l', h1, h2⟩ := ih hr
      exact ⟨l', by simp [h1], h2⟩

theorem list23 {n : List Int} (h : n.length = 23) : ∃ a0 a1 a2 a3 a4 a5 a6 a7 a8 a9 a10 a11 a12 a13 a14 a15 a16 a17 a18 a19 a20 a21 a22, n = [a0, a1, a2, a3, a4, a5, a6, a7, a8, a9, a10, a11, a12, a13, a14, a15, a16, a17, a18, a19, a20, a21, a22] := by
  match n, h with
  | [a0, a1, a2, a3, a4, a5, a6, a7, a8, a9, a10, a11, a12, a13, a14, a15, a16, a17, a18, a19, a20, a21, a22], _ => exact ⟨a0, a1, a2, a3, a4, a5, a6, a7, a8, a9, a10, a11, a12, a13, a14, a15, a16, a17, a18, a19, a20, a21, a22, rfl⟩
theorem bit_of {x : Int} (h0 : 0 ≤ x) (h1 : x ≤ 1) : bitV (x == 1) = x := by
  have : x = 0 ∨ x = 1 := by omega
  rcases this with rfl | rfl <;> rfl
theorem nums_of {n : List Int} (z : ByteArray) (hl : n.length = 23) (hf : ∀ i, i < 23 → fitsC n i = true) : (ofNums n z).nums = n := by
  have h15 := fits_bounds (hf 15 (by omega))
  have h21 := fits_bounds (hf 21 (by omega))
  have h22 := fits_bounds (hf 22 (by omega))
  have e1 : lowC 15 = 0 ∧ highC 15 = 1 ∧ lowC 21 = 0 ∧ highC 21 = 0 ∧ lowC 22 = 0 ∧ highC 22 = 1 := ⟨rfl, rfl, rfl, rfl, rfl, rfl⟩
  rw [e1.1, e1.2.1] at h15
  rw [e1.2.2.1, e1.2.2.2.1] at h21
  rw [e1.2.2.2.2.1, e1.2.2.2.2.2] at h22
  clear hf e1
  obtain ⟨a0, a1, a2, a3, a4, a5, a6, a7, a8, a9, a10, a11, a12, a13, a14, a15, a16, a17, a18, a19, a20, a21, a22, rfl⟩ := list23 hl
  have g15 : 0 ≤ a15 ∧ a15 ≤ 1 := h15
  have g21 : 0 ≤ a21 ∧ a21 ≤ 0 := h21
  have g22 : 0 ≤ a22 ∧ a22 ≤ 1 := h22
  have e21 : a21 = 0 := by omega
  subst e21
  have b15 : bitV (a15 == 1) = a15 := bit_of g15.1 g15.2
  have b22 : bitV (a22 == 1) = a22 := bit_of g22.1 g22.2
  show [a0, a1, a2, a3, a4, a5, a6, a7, a8, a9, a10, a11, a12, a13, a14, bitV (a15 == 1), a16, a17, a18, a19, a20, 0, bitV (a22 == 1)] = _
  rw [b15, b22]
theorem may_read {r : Read} (h : GoodR r) : mayC (ofNums r.n r.z) = true :=
  may_of (by rw [nums_of _ h.len h.fits]; exact h.fits) h.zone

theorem linesOf_no (i : Nat) (P : List ByteArray) : ∀ l ∈ linesOf i P, (i : Int) + 1 ≤ l.1 ∧ l.1 ≤ (i + P.length : Nat) := by
  induction P generalizing i with
  | nil => intro l hl; simp [linesOf] at hl
  | cons p r ih =>
    intro l hl
    simp only [linesOf, List.mem_append] at hl
    rcases hl with h | h
    · split at h
      · simp at h
      · simp only [List.mem_singleton] at h
        subst h
        simp only [List.length_cons]
        omega
    · have := ih (i + 1) l h
      simp only [List.length_cons]
      omega
theorem split_no (s : ByteArray) : ((splitV s).2.2 = 0 ∧ (splitV s).2.1 = 0 ∧ ∀ l ∈ (splitV s).1, 1 ≤ l.1 ∧ l.1 ≤ 4001) ∨ ((splitV s).2.2 = 2 ∧ 0 ≤ (splitV s).2.1 ∧ (splitV s).2.1 ≤ 4001) := by
  unfold splitV
  split
  · exact .inr ⟨rfl, by simp, by simp⟩
  · have hp := partsV_length s 10
    cases h : (partsV s 10).findIdx? (fun p => !lineOK p) with
    | none =>
      refine .inl ⟨rfl, rfl, fun l hl => ?_⟩
      have := linesOf_no 0 (partsV s 10) l hl
      omega
    | some i =>
      obtain ⟨hi, _⟩ := List.findIdx?_eq_some_iff_getElem.1 h
      exact .inr ⟨rfl, by simp only; omega, by simp only; omega⟩
/-- Of any text: an error of some line, or a configuration that may be. -/
theorem parse_raw (s : ByteArray) : ((parseV s).2.2 = 0 ∧ (parseV s).2.1 = 0 ∧ mayC (parseV s).1 = true) ∨ ((parseV s).2.2 = 2 ∧ (0 ≤ (parseV s).2.1 ∧ (parseV s).2.1 ≤ 4001) ∧ (parseV s).1 = zeroC) := by
  unfold parseV
  rcases split_no s with ⟨h1, _, h3⟩ | ⟨h1, h2⟩
  · rw [if_pos h1]
    cases hr : runC read0 (splitV s).1 with
    | inl r => exact .inl ⟨rfl, rfl, may_read (run_good _ good0 hr)⟩
    | inr no =>
      obtain ⟨l, hl, rfl⟩ := run_err _ hr
      have := h3 l hl
      exact .inr ⟨rfl, ⟨by simp only; omega, by simp only; omega⟩, rfl⟩
  · rw [if_neg (by omega)]
    exact .inr ⟨h1, h2, rfl⟩
theorem parse_zone (s : ByteArray) : (parseV s).1.zone.size ≤ 12 := by
  rcases parse_raw s with ⟨_, _, h⟩ | ⟨_, _, h⟩
  · rcases (may_parts h).2 with h | h
    · omega
    · exact (clean_name h).2
  · rw [h]; decide

/-- A text's lines, from the k-th on and then those ahead of it. -/
def rotC (k : Nat) : List Nat := (List.range 23).map fun i => (i + k) % 23
theorem rotC_lt (k : Nat) : ∀ i ∈ rotC k, i < 23 := by
  intro i hi
  simp only [rotC, List.mem_map, List.mem_range] at hi
  obtain ⟨j, _, rfl⟩ := hi
  exact Nat.mod_lt _ (by omega)
theorem rotC_facts (k : Nat) (hk : k < 23) : (rotC k).Nodup ∧ ∀ i, i < 23 → i ∈ rotC k := by
  have h : ∀ k : Fin 23, (rotC k.1).Nodup ∧ ∀ i : Fin 23, i.1 ∈ rotC k.1 := by decide +kernel
  exact ⟨(h ⟨k, hk⟩).1, fun i hi => (h ⟨k, hk⟩).2 ⟨i, hi⟩⟩
theorem parse_turned {c : Cfg} (h : mayC c = true) (k : Nat) (hk : k < 23) : parseV (mkS (someC c.nums c.zone (rotC k))) = (c, 0, 0) := by
  obtain ⟨h1, h2⟩ := may_parts h
  obtain ⟨g1, g2⟩ := rotC_facts k hk
  rw [parse_some h2 _ (rotC_lt k) (fun i hi => h1 i (rotC_lt k i hi)) g1 (by simp [rotC])]
  obtain ⟨e1, e2⟩ := putAll_whole c (rotC k) (rotC_lt k) g2
  rw [e1, e2, ofNums_nums]
theorem numberedL_append (i : Nat) (a b : List (List ByteArray)) : numberedL i (a ++ b) = numberedL i a ++ numberedL (i + a.length) b := by
  induction a generalizing i with
  | nil => simp [numberedL]
  | cons x r ih =>
    rw [List.cons_append, numberedL, ih, numberedL, List.cons_append, List.length_cons, show i + 1 + r.length = i + (r.length + 1) by omega]
theorem seen0 (i : Nat) (h : i < 23) : read0.seen.getD i false = false := by
  have h2 : ∀ k : Fin 23, read0.seen.getD k.1 false = false := by decide
  exact h2 ⟨i, h⟩
theorem parse_twice {c : Cfg} (h : mayC c = true) (k : Nat) (hk : k < 23) : parseV (mkS (someC c.nums c.zone (rotC k ++ [k]))) = (zeroC, 24, 2) := by
  obtain ⟨h1, h2⟩ := may_parts h
  obtain ⟨g1, g2⟩ := rotC_facts k hk
  have hp : ∀ i ∈ rotC k ++ [k], i < 23 := fun i hi => by
    rcases List.mem_append.1 hi with h | h
    · exact rotC_lt k i h
    · rw [List.mem_singleton] at h; omega
  have hl : (rotC k).length = 23 := by simp [rotC]
  unfold parseV
  rw [split_some h2 _ hp (fun i hi => h1 i (hp i hi)) (by simp [hl])]
  simp only [if_true]
  rw [List.map_append, numberedL_append, run_lines h2 (rotC k) _ _ read0 (numberedL_words 0 _) (rotC_lt k) g1 (fun i hi => h1 i (rotC_lt k i hi)) (by decide) (fun i hi => seen0 i (rotC_lt k i hi))]
  have hs : (putAll c.nums c.zone read0 (rotC k)).seen.getD k false = true := by
    rw [(putAll_seen _ _ (rotC k) read0 (by decide) (rotC_lt k) k).1]
    simp [g2 k hk]
  rw [List.length_map, hl]
  simp only [List.map_cons, List.map_nil, numberedL, runC, step_seen k hk hs]
  rfl

end Go.Proofs.YtjjehjbejldgmaaDoor
