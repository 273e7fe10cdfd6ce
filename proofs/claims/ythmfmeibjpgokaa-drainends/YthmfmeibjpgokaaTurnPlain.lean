/-
  The plain mathematics of chapter 4: numbers in turn, times, the parts of a text. No program stands in it.
-/
import Derived.Test.YthmfmeibjpgokaaPlain
namespace Go.Proofs.Ythmfmeibjpgokaa

/-- Turn's numbers. -/
def turnV (n f : Int) : List Int := (List.range n.toNat).map fun i : Nat => (drawV f n + (i : Int)) % n
/-- Times' numbers. -/
def timesN (f st to : Int) : Nat := if st < 1 ∨ f < 0 ∨ 4611686018427387904 < to ∨ to < f then 0 else ((to - f) / st).toNat + 1
def timesV (f st to : Int) : List Int := (List.range (timesN f st to)).map fun i : Nat => f + (i : Int) * st

/-- The parts of a text: cur is what stands since the last separator. -/
def goL (c : Int) : List UInt8 → List UInt8 → List (List UInt8)
  | cur, [] => [cur]
  | cur, b :: r => if (b.toNat : Int) = c then cur :: goL c [] r else goL c (cur ++ [b]) r
def mkS (l : List UInt8) : ByteArray := ⟨l.toArray⟩
def partsV (s : ByteArray) (c : Int) : List ByteArray := (goL c [] s.data.toList).map mkS
/-- Numbered from 0 on. -/
def numbered (l : List ByteArray) : List (Int × ByteArray) := l.zipIdx.map fun p => ((p.2 : Nat), p.1)

theorem goL_length (c : Int) (cur l : List UInt8) : (goL c cur l).length ≤ l.length + 1 := by
  induction l generalizing cur with
  | nil => simp [goL]
  | cons b r ih =>
    unfold goL
    split
    · have := ih []; simp; omega
    · have := ih (cur ++ [b]); simp; omega
theorem goL_pos (c : Int) (cur l : List UInt8) : 0 < (goL c cur l).length := by
  induction l generalizing cur with
  | nil => simp [goL]
  | cons b r ih =>
    unfold goL
    split
    · simp
    · exact ih _
theorem partsV_length (s : ByteArray) (c : Int) : (partsV s c).length ≤ s.size + 1 := by
  unfold partsV
  rw [List.length_map]
  exact goL_length c [] s.data.toList

/-- From place a to place b. -/
def cutL (l : List UInt8) (a b : Nat) : List UInt8 := (l.drop a).take (b - a)
theorem cutL_self (l : List UInt8) (a : Nat) : cutL l a a = [] := by unfold cutL; simp
theorem cutL_snoc {l : List UInt8} {a k : Nat} (h : a ≤ k) (hk : k < l.length) : cutL l a (k + 1) = cutL l a k ++ [l[k]] := by
  unfold cutL
  have h1 : k - a < (l.drop a).length := by simp; omega
  rw [show k + 1 - a = k - a + 1 by omega, List.take_succ_eq_append_getElem h1, List.getElem_drop]
  congr 3
  omega
theorem goL_hit {c : Int} {cur l : List UInt8} {k : Nat} (hk : k < l.length) (h : (l[k].toNat : Int) = c) : goL c cur (l.drop k) = cur :: goL c [] (l.drop (k + 1)) := by
  rw [List.drop_eq_getElem_cons hk, goL, if_pos h]
theorem goL_miss {c : Int} {cur l : List UInt8} {k : Nat} (hk : k < l.length) (h : ¬ (l[k].toNat : Int) = c) : goL c cur (l.drop k) = goL c (cur ++ [l[k]]) (l.drop (k + 1)) := by
  rw [List.drop_eq_getElem_cons hk, goL, if_neg h]
theorem goL_end {c : Int} {cur l : List UInt8} {k : Nat} (hk : l.length ≤ k) : goL c cur (l.drop k) = [cur] := by
  rw [List.drop_eq_nil_of_le hk, goL]
theorem extract_cut (s : ByteArray) (a b : Nat) : s.extract a b = mkS (cutL s.data.toList a b) := by
  apply ByteArray.ext
  unfold mkS cutL
  rw [ByteArray.data_extract]
  apply Array.ext'
  rw [Array.toList_extract, List.extract_eq_take_drop]

/-- D is told, from place a on nothing yet; the text is read up to place k. -/
def Parting (s : ByteArray) (c : Int) (D : List ByteArray) (a k : Nat) : Prop :=
  a ≤ k ∧ k ≤ s.size ∧ D.length ≤ a ∧ D ++ (goL c (cutL s.data.toList a k) (s.data.toList.drop k)).map mkS = partsV s c
theorem parting_start (s : ByteArray) (c : Int) : Parting s c [] 0 0 := ⟨Nat.le_refl _, Nat.zero_le _, Nat.zero_le _, by simp [cutL_self, partsV]⟩
theorem parting_hit {s : ByteArray} {c : Int} {D : List ByteArray} {a k : Nat} (h : Parting s c D a k) (hk : k < s.size) (hc : ((s[k]).toNat : Int) = c) : Parting s c (D ++ [s.extract a k]) (k + 1) (k + 1) := by
  obtain ⟨h1, h2, h3, h4⟩ := h
  have hl : k < s.data.toList.length := hk
  refine ⟨Nat.le_refl _, hk, by simp; omega, ?_⟩
  rw [goL_hit hl hc] at h4
  rw [← h4, extract_cut, cutL_self, List.append_assoc]
  rfl
theorem parting_miss {s : ByteArray} {c : Int} {D : List ByteArray} {a k : Nat} (h : Parting s c D a k) (hk : k < s.size) (hc : ¬ ((s[k]).toNat : Int) = c) : Parting s c D a (k + 1) := by
  obtain ⟨h1, h2, h3, h4⟩ := h
  have hl : k < s.data.toList.length := hk
  refine ⟨by omega, hk, h3, ?_⟩
  rw [goL_miss hl hc, ← cutL_snoc h1 hl] at h4
  exact h4
theorem parting_end {s : ByteArray} {c : Int} {D : List ByteArray} {a k : Nat} (h : Parting s c D a k) (hk : ¬ k < s.size) : D ++ [s.extract a s.size] = partsV s c := by
  obtain ⟨h1, h2, h3, h4⟩ := h
  have e : k = s.size := by omega
  subst e
  rw [goL_end (by exact Nat.le_refl _)] at h4
  rw [← h4, extract_cut]
  rfl

theorem numbered_length (l : List ByteArray) : (numbered l).length = l.length := by unfold numbered; simp
theorem numbered_get (l : List ByteArray) (j : Nat) : (numbered l)[j]? = (l[j]?).map fun x => ((j : Int), x) := by
  unfold numbered
  rw [List.getElem?_map, List.getElem?_zipIdx]
  cases l[j]? <;> simp
theorem numbered_at (l : List ByteArray) (j : Nat) (h : j < (numbered l).length) : (numbered l)[j] = ((j : Int), l[j]'(by rw [← numbered_length l]; exact h)) := by
  have h2 : j < l.length := by rw [← numbered_length l]; exact h
  have e := numbered_get l j
  rw [List.getElem?_eq_getElem h, List.getElem?_eq_getElem h2] at e
  simpa using e
theorem numbered_snd (l : List ByteArray) : (numbered l).map (·.2) = l := by
  apply List.ext_getElem
  · simp [numbered_length]
  · intro j h1 h2
    rw [List.getElem_map, numbered_at]

/-- Numbered as they come. -/
def Enum (l : List (Int × ByteArray)) : Prop := ∀ j (h : j < l.length), l[j].1 = (j : Int)
theorem numbered_enum (l : List ByteArray) : Enum (numbered l) := fun j h => by rw [numbered_at]
theorem Enum.prefix {a b : List (Int × ByteArray)} (h : Enum b) (hp : a <+: b) : Enum a := fun j hj => by
  obtain ⟨t, rfl⟩ := hp
  have := h j (by simp; omega)
  rwa [List.getElem_append_left hj] at this
theorem Enum.snoc {a : List (Int × ByteArray)} {x : Int × ByteArray} (h : Enum a) (hx : x.1 = (a.length : Int)) : Enum (a ++ [x]) := fun j hj => by
  rcases Nat.lt_or_ge j a.length with h1 | h1
  · rw [List.getElem_append_left h1]; exact h j h1
  · simp at hj
    have e : j = a.length := by omega
    subst e
    simpa using hx
theorem Enum.last {a : List (Int × ByteArray)} {x : Int × ByteArray} (h : Enum (a ++ [x])) : x.1 = (a.length : Int) := by
  have := h a.length (by simp)
  simpa using this

theorem turnV_length (n f : Int) : (turnV n f).length = n.toNat := by unfold turnV; simp
theorem timesV_length (f st to : Int) : (timesV f st to).length = timesN f st to := by unfold timesV; simp
theorem turnV_in (n f : Int) (x : Int) (h : x ∈ turnV n f) : 0 ≤ x ∧ x < n := by
  unfold turnV at h
  simp only [List.mem_map, List.mem_range] at h
  obtain ⟨i, hi, rfl⟩ := h
  exact ⟨Int.emod_nonneg _ (by omega), Int.emod_lt_of_pos _ (by omega)⟩
theorem timesN_in (f st to : Int) (i : Nat) (h : i < timesN f st to) : 1 ≤ st ∧ 0 ≤ f ∧ to ≤ 4611686018427387904 ∧ f ≤ to ∧ f + (i : Int) * st ≤ to := by
  unfold timesN at h
  split at h
  · omega
  · rename_i hn
    have h1 : (i : Int) ≤ (to - f) / st := by
      have := Int.ediv_nonneg (show (0 : Int) ≤ to - f by omega) (show (0 : Int) ≤ st by omega)
      omega
    have h2 : (i : Int) * st ≤ to - f := Int.le_trans (Int.mul_le_mul_of_nonneg_right h1 (by omega)) (Int.ediv_mul_le _ (by omega))
    omega
theorem timesV_in (f st to : Int) (x : Int) (h : x ∈ timesV f st to) : 0 ≤ x ∧ x ≤ 4611686018427387904 := by
  unfold timesV at h
  simp only [List.mem_map, List.mem_range] at h
  obtain ⟨i, hi, rfl⟩ := h
  have h1 := timesN_in f st to i hi
  have h2 : 0 ≤ (i : Int) * st := Int.mul_nonneg (by omega) (by omega)
  omega

/-- Parts with the byte between. -/
def joinL (c : UInt8) : List (List UInt8) → List UInt8
  | [] => []
  | p :: r => p ++ r.flatMap fun q => c :: q
theorem joinL_snoc (c : UInt8) (ps : List (List UInt8)) (q : List UInt8) : joinL c (ps ++ [q]) = joinL c ps ++ ((if ps = [] then [] else [c]) ++ q) := by
  cases ps with
  | nil => simp [joinL]
  | cons p r => simp [joinL]
theorem joinL_goL (c : UInt8) (cur l : List UInt8) : joinL c (goL (c.toNat : Int) cur l) = cur ++ l := by
  induction l generalizing cur with
  | nil => simp [goL, joinL]
  | cons b r ih =>
    unfold goL
    split
    · rename_i h
      have hb : b = c := UInt8.toNat_inj.1 (by omega)
      subst hb
      have h2 := ih []
      have hp := goL_pos (b.toNat : Int) [] r
      cases hg : goL (b.toNat : Int) [] r with
      | nil => rw [hg] at hp; simp at hp
      | cons p ps =>
        rw [hg] at h2
        simp only [joinL, List.flatMap_cons, List.nil_append] at h2 ⊢
        rw [List.cons_append, h2]
    · rw [ih]; simp
theorem joinL_take_le (c : UInt8) (ps : List (List UInt8)) (k : Nat) : (joinL c (ps.take k)).length ≤ (joinL c ps).length := by
  cases ps with
  | nil => simp [joinL]
  | cons p r =>
    cases k with
    | zero => simp [joinL]
    | succ k =>
      have h : r.flatMap (fun q => c :: q) = (r.take k).flatMap (fun q => c :: q) ++ (r.drop k).flatMap (fun q => c :: q) := by rw [← List.flatMap_append, List.take_append_drop]
      simp only [List.take_succ_cons, joinL, List.length_append]
      rw [h, List.length_append]
      omega
theorem joinL_step (c : UInt8) (ps : List (List UInt8)) (k : Nat) (h : k < ps.length) : joinL c (ps.take (k + 1)) = joinL c (ps.take k) ++ ((if k = 0 then [] else [c]) ++ ps.getD k []) := by
  rw [List.take_succ_eq_append_getElem h, joinL_snoc]
  have e : (ps.take k = []) = (k = 0) := by
    apply propext
    constructor
    · intro e
      have := congrArg List.length e
      rw [List.length_take, List.length_nil] at this
      omega
    · rintro rfl; rfl
  simp only [e, List.getD_eq_getElem?_getD, List.getElem?_eq_getElem h, Option.getD_some]

end Go.Proofs.Ythmfmeibjpgokaa
