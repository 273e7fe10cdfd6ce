/-
  The slots behind a region, laid out in one pass: many slots one behind the other are written at once. No program stands in it.
-/
import Derived.Test.YtelpdmaphmfkiaaRel2
namespace Go.Proofs.Ytelpdmaphmfkiaa
open Go.RowKit

/-- Slots written one behind the other, in the list of the slots. -/
def setsL (l : List Value) (ds : List (Option Nat × Value)) : List Value := ds.foldl (fun l x => match x.1 with | some d => l.set d x.2 | none => l) l
theorem putsV_list (df : List Deferred) : ∀ (ds : List (Option Nat × Value)) (l : List Value), putsV { tmps := l.toArray, defers := df } ds = { tmps := (setsL l ds).toArray, defers := df }
  | [], _ => rfl
  | (none, v) :: r, l => by
    show putsV { tmps := l.toArray, defers := df } r = _
    rw [putsV_list df r l]
    rfl
  | (some d, v) :: r, l => by
    show putsV { tmps := l.toArray.setIfInBounds d v, defers := df } r = _
    rw [List.setIfInBounds_toArray, putsV_list df r (l.set d v)]
    rfl
theorem setsL_append (l : List Value) (a b : List (Option Nat × Value)) : setsL l (a ++ b) = setsL (setsL l a) b := by unfold setsL; rw [List.foldl_append]

/-- The slots from k on. -/
def runS : Nat → List Value → List (Option Nat × Value)
  | _, [] => []
  | k, v :: vs => (some k, v) :: runS (k + 1) vs
def mergeAt : Nat → List Value → List Value → List Value
  | _, l, [] => l
  | _, [], _ :: _ => []
  | 0, _ :: l, v :: vs => v :: mergeAt 0 l vs
  | k + 1, x :: l, v :: vs => x :: mergeAt k l (v :: vs)
theorem mergeAt_nil (k : Nat) (l : List Value) : mergeAt k l [] = l := by cases k <;> cases l <;> rfl
theorem mergeAt_zero (x : Value) (l : List Value) (v : Value) (vs : List Value) : mergeAt 0 (x :: l) (v :: vs) = v :: mergeAt 0 l vs := rfl
theorem mergeAt_succ (k : Nat) (x : Value) (l : List Value) (v : Value) (vs : List Value) : mergeAt (k + 1) (x :: l) (v :: vs) = x :: mergeAt k l (v :: vs) := rfl
theorem mergeAt_empty (k : Nat) (vs : List Value) : mergeAt k [] vs = [] := by cases vs <;> cases k <;> rfl
theorem mergeAt_set : ∀ (k : Nat) (l : List Value) (v : Value) (vs : List Value), mergeAt (k + 1) (l.set k v) vs = mergeAt k l (v :: vs)
  | k, [], v, vs => by rw [List.set_nil, mergeAt_empty, mergeAt_empty]
  | 0, x :: l, v, [] => by rw [List.set_cons_zero, mergeAt_nil, mergeAt_zero, mergeAt_nil]
  | 0, x :: l, v, u :: vs => by rw [List.set_cons_zero, mergeAt_succ, mergeAt_zero]
  | k + 1, x :: l, v, [] => by rw [List.set_cons_succ, mergeAt_nil, mergeAt_succ, ← mergeAt_set k l v [], mergeAt_nil]
  | k + 1, x :: l, v, u :: vs => by rw [List.set_cons_succ, mergeAt_succ, mergeAt_succ, mergeAt_set k l v (u :: vs)]
theorem set_run : ∀ (vs : List Value) (k : Nat) (l : List Value), setsL l (runS k vs) = mergeAt k l vs
  | [], k, l => by rw [mergeAt_nil]; rfl
  | v :: vs, k, l => by
    show setsL (l.set k v) (runS (k + 1) vs) = _
    rw [set_run vs (k + 1) (l.set k v), mergeAt_set]
theorem put_run (J : Act → World → Prop) {l : List Value} {df : List Deferred} (k : Nat) (vs : List Value) (rest : List (Option Nat × Value)) {W : World} {ds : List (Option Nat × Value)} (hd : ds = runS k vs ++ rest)
    (h : J { tmps := (setsL (mergeAt k l vs) rest).toArray, defers := df } W) : J (putsV { tmps := l.toArray, defers := df } ds) W := by
  rw [hd, putsV_list, setsL_append, set_run]
  exact h

end Go.Proofs.Ytelpdmaphmfkiaa
