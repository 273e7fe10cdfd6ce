/-
  The plain mathematics of chapter 3: keys (pairs of numbers) in order. No program stands in it.
-/
import Derived.WalkKit
namespace Go.Proofs.Ytelpdmaphmfkiaa

def ltK (a b : Int × Int) : Bool := decide (a.1 < b.1 ∨ a.1 = b.1 ∧ a.2 < b.2)
def leK (a b : Int × Int) : Bool := !ltK b a
/-- The sorted row. -/
def sortV (ks : List (Int × Int)) : List (Int × Int) := ks.mergeSort leK
abbrev SortedK (l : List (Int × Int)) : Prop := l.Pairwise fun a b => leK a b = true

theorem ltK_iff (a b : Int × Int) : ltK a b = true ↔ (a.1 < b.1 ∨ a.1 = b.1 ∧ a.2 < b.2) := by unfold ltK; simp
theorem ltK_irrefl (a : Int × Int) : ltK a a = false := by
  cases h : ltK a a with
  | false => rfl
  | true => rw [ltK_iff] at h; omega
theorem ltK_trans {a b c : Int × Int} (h1 : ltK a b = true) (h2 : ltK b c = true) : ltK a c = true := by
  rw [ltK_iff] at *; omega
theorem leK_iff (a b : Int × Int) : leK a b = true ↔ (a.1 < b.1 ∨ a.1 = b.1 ∧ a.2 ≤ b.2) := by
  unfold leK ltK
  rw [Bool.not_eq_true', decide_eq_false_iff_not]
  omega
theorem leK_trans (a b c : Int × Int) (h1 : leK a b = true) (h2 : leK b c = true) : leK a c = true := by rw [leK_iff] at *; omega
theorem leK_total (a b : Int × Int) : (leK a b || leK b a) = true := by rw [Bool.or_eq_true, leK_iff, leK_iff]; omega
theorem leK_antisymm (a b : Int × Int) (h1 : leK a b = true) (h2 : leK b a = true) : a = b := by
  rw [leK_iff] at *
  exact Prod.ext (by omega) (by omega)
theorem leK_refl (a : Int × Int) : leK a a = true := by rw [leK_iff]; omega
theorem leK_of_ltK {a b : Int × Int} (h : ltK a b = true) : leK a b = true := by rw [leK_iff]; rw [ltK_iff] at h; omega
theorem leK_of_not {a b : Int × Int} (h : ltK a b = false) : leK b a = true := by unfold leK; rw [h]; rfl
theorem not_of_leK {a b : Int × Int} (h : leK a b = true) : ltK b a = false := by unfold leK at h; simpa using h
theorem ltK_of_lt_le {a b c : Int × Int} (h1 : ltK a b = true) (h2 : leK b c = true) : ltK a c = true := by rw [ltK_iff] at *; rw [leK_iff] at h2; omega
theorem ltK_of_le_lt {a b c : Int × Int} (h1 : leK a b = true) (h2 : ltK b c = true) : ltK a c = true := by rw [ltK_iff] at *; rw [leK_iff] at h1; omega

theorem sortV_perm (ks : List (Int × Int)) : (sortV ks).Perm ks := List.mergeSort_perm _ _
theorem sortV_sorted (ks : List (Int × Int)) : SortedK (sortV ks) := List.pairwise_mergeSort leK_trans leK_total ks
/-- A sorted row is the only one of its keys. -/
theorem sortV_unique {l ks : List (Int × Int)} (hp : l.Perm ks) (hs : SortedK l) : l = sortV ks :=
  List.Perm.eq_of_pairwise (fun a b _ _ => leK_antisymm a b) hs (sortV_sorted ks) (hp.trans (sortV_perm ks).symm)
theorem sortV_congr {l m : List (Int × Int)} (hp : l.Perm m) : sortV l = sortV m := sortV_unique ((sortV_perm l).trans hp) (sortV_sorted l)
theorem sortV_of_sorted {l : List (Int × Int)} (hs : SortedK l) : sortV l = l := (sortV_unique (List.Perm.refl l) hs).symm
theorem sortV_sortV (l : List (Int × Int)) : sortV (sortV l) = sortV l := sortV_of_sorted (sortV_sorted l)
theorem sortV_length (l : List (Int × Int)) : (sortV l).length = l.length := (sortV_perm l).length_eq
theorem sortV_nil : sortV [] = [] := by unfold sortV; simp
theorem sortV_append (l m : List (Int × Int)) : sortV (sortV l ++ sortV m) = sortV (l ++ m) := sortV_congr ((sortV_perm l).append (sortV_perm m))
theorem sortV_mem {l : List (Int × Int)} {k : Int × Int} : k ∈ sortV l ↔ k ∈ l := (sortV_perm l).mem_iff

/-- How many are less than k. -/
def findV (l : List (Int × Int)) (k : Int × Int) : Nat := l.countP fun x => ltK x k
theorem findV_le (l : List (Int × Int)) (k : Int × Int) : findV l k ≤ l.length := List.countP_le_length
theorem findV_sort (l : List (Int × Int)) (k : Int × Int) : findV (sortV l) k = findV l k := (sortV_perm l).countP_eq _

/-- In a sorted row those that are less stand ahead. -/
theorem findV_spec {l : List (Int × Int)} {k : Int × Int} (hs : SortedK l) : (∀ i (h : i < l.length), i < findV l k → ltK l[i] k = true) ∧ (∀ i (h : i < l.length), findV l k ≤ i → ltK l[i] k = false) := by
  induction l with
  | nil => exact ⟨fun i h => by simp at h, fun i h => by simp at h⟩
  | cons x r ih =>
    have hr := (List.pairwise_cons.1 hs)
    obtain ⟨i1, i2⟩ := ih hr.2
    unfold findV at *
    rw [List.countP_cons]
    by_cases hx : ltK x k = true
    · simp only [hx, if_true]
      refine ⟨fun i h hi => ?_, fun i h hi => ?_⟩
      · cases i with
        | zero => exact hx
        | succ i => exact i1 i (by simpa using h) (by omega)
      · cases i with
        | zero => omega
        | succ i => exact i2 i (by simpa using h) (by omega)
    · have hx' : ltK x k = false := by simpa using hx
      have hall : ∀ y ∈ r, ltK y k = false := fun y hy => by
        cases e : ltK y k with
        | false => rfl
        | true => have := ltK_of_le_lt (hr.1 y hy) e; rw [hx'] at this; cases this
      have h0 : r.countP (fun x => ltK x k) = 0 := by
        rw [List.countP_eq_zero]
        intro y hy
        simp [hall y hy]
      simp only [hx', h0]
      refine ⟨fun i h hi => by simp at hi, fun i h _ => ?_⟩
      cases i with
      | zero => exact hx'
      | succ i => exact hall _ (List.getElem_mem _)

/-- k is in a sorted row just if it stands behind those that are less. -/
theorem mem_iff_findV {l : List (Int × Int)} {k : Int × Int} (hs : SortedK l) : k ∈ l ↔ ∃ h : findV l k < l.length, l[findV l k] = k := by
  refine ⟨fun hk => ?_, fun ⟨h, e⟩ => e ▸ List.getElem_mem h⟩
  obtain ⟨j, hj, rfl⟩ := List.getElem_of_mem hk
  obtain ⟨h1, h2⟩ := findV_spec (k := l[j]) hs
  have hle : findV l l[j] ≤ j := by
    rcases Nat.lt_or_ge j (findV l l[j]) with h | h
    · have := h1 j hj h; rw [ltK_irrefl] at this; cases this
    · exact h
  have hlt : findV l l[j] < l.length := by omega
  refine ⟨hlt, ?_⟩
  have a := leK_of_not (h2 _ hlt (Nat.le_refl _))
  rcases Nat.lt_or_ge (findV l l[j]) j with h | h
  · exact leK_antisymm _ _ (List.pairwise_iff_getElem.1 hs _ _ hlt hj h) a
  · have e : findV l l[j] = j := by omega
    simp [e]

/-- Each one less than the next. -/
def risingV (l : List (Int × Int)) : Bool := (List.range (l.length - 1)).all fun i => ltK (l.getD i (0, 0)) (l.getD (i + 1) (0, 0))

theorem kgetD {l : List (Int × Int)} (i : Nat) (h : i < l.length) : l.getD i (0, 0) = l[i] := by simp [h]

end Go.Proofs.Ytelpdmaphmfkiaa
