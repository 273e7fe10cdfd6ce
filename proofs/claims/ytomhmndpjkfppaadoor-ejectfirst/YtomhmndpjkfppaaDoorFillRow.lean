/-
  Rows that are made by 'make' with a length and then filled, element by element; rows of numbers as rows of cells. No program stands in it.
-/
import Derived.Test.YtomhmndpjkfppaaDoorRowCut
import Derived.Test.YtomhmndpjkfppaaDoorBase
import Derived.Deep.OwnRows
namespace Go.Proofs.YtomhmndpjkfppaaDoor
open Go.RowKit

/-- The first k of L, else d. -/
def fillL (L : List Value) (d : Value) (k : Nat) : List Value := L.take k ++ List.replicate (L.length - k) d
def fillV (L : List Value) (d : Value) (k : Nat) : Array Value := (fillL L d k).toArray
theorem fill_start (L : List Value) (d : Value) : fillV L d 0 = (List.replicate L.length d).toArray := by unfold fillV fillL; simp
theorem fill_end (L : List Value) (d : Value) : fillV L d L.length = L.toArray := by unfold fillV fillL; simp
theorem fill_at {L : List Value} {d : Value} {k : Nat} (h : k < L.length) : (fillV L d k)[k]? = some d := by
  unfold fillV fillL
  rw [List.getElem?_toArray, List.getElem?_append_right (by rw [List.length_take]; omega), List.getElem?_replicate, if_pos (by rw [List.length_take]; omega)]
theorem fill_set {L : List Value} {d v : Value} {k : Nat} (h : k < L.length) (hv : L[k]? = some v) : (fillV L d k).setIfInBounds k v = fillV L d (k + 1) := by
  unfold fillV
  rw [List.setIfInBounds_toArray]
  congr 1
  refine List.ext_getElem? fun i => ?_
  rw [List.getElem?_set]
  unfold fillL
  simp only [List.getElem?_append, List.getElem?_replicate, List.length_append, List.length_replicate, List.length_take, List.getElem?_take]
  by_cases e : k = i
  · subst e
    rw [if_pos rfl, if_pos (show k < min k L.length + (L.length - k) by omega), if_pos (show k < min (k + 1) L.length by omega), if_pos (show k < k + 1 by omega), hv]
  · rw [if_neg e]
    by_cases h1 : i < k
    · rw [if_pos (show i < min k L.length by omega), if_pos h1, if_pos (show i < min (k + 1) L.length by omega), if_pos (show i < k + 1 by omega)]
    · rw [if_neg (show ¬ i < min k L.length by omega), if_neg (show ¬ i < min (k + 1) L.length by omega)]
      by_cases h2 : i < L.length
      · rw [if_pos (show i - min k L.length < L.length - k by omega), if_pos (show i - min (k + 1) L.length < L.length - (k + 1) by omega)]
      · rw [if_neg (show ¬ i - min k L.length < L.length - k by omega), if_neg (show ¬ i - min (k + 1) L.length < L.length - (k + 1) by omega)]
/-- A block of flat cells, as a row. -/
theorem row_box {w : World} {g t sz n : Nat} {cs : List Value} (h : HasBox w g t cs.toArray) (hc : cs.length = n * sz) (hl : n ≤ 1000000) : IsRow sz w (.slice (some ⟨g, 0, none⟩) n n) n cs := by
  refine ⟨hc, ⟨by unfold maxLen; omega, by show _ ≤ _ ∧ _ ≤ _; unfold maxLen; omega⟩, ?_⟩
  by_cases e : n = 0
  · exact .inl ⟨e, _, _, by rw [e], fun hn => by cases hn⟩
  · refine .inr ⟨by omega, g, 0, _, rfl, h.lt, fun j hj => ?_⟩
    rw [Nat.zero_add, h.cell j]
    simp
/-- 'make([]T, n)', T of sz cells that are all d where they are zero. -/
theorem run_make_flat {P : Program} (t e : TypeId) (z d : Value) (sz bytes : Nat) (ht : P.underlying t = some (.slice e)) (hinfo : (P.info? e).map (fun i => (i.zero, i.size, i.bytes)) = some (some z, sz, bytes)) (hz1 : z.cells = (List.replicate sz d).toArray) (hsz : 0 < sz)
    (n : Nat) (hbytes : bytes * n ≤ 281474976710656) (h63 : n ≤ 9223372036854775807) (w : World) :
    (Instr.makeSlice t (.int .i64 (n : Int)) (.int .i64 (n : Int))).run P w = .ok (.slice (some ⟨w.heap.size, 0, none⟩) n n) (w.alloc (.cells (List.replicate (n * sz) d).toArray e)) := by
  obtain ⟨i, hi, hzz⟩ := Option.map_eq_some_iff.1 hinfo
  simp only [Prod.mk.injEq] at hzz
  obtain ⟨hz, hs, hb⟩ := hzz
  have hb' : (i.bytes : Int) * (n : Int) ≤ 281474976710656 := by
    have h : ((i.bytes * n : Nat) : Int) ≤ 281474976710656 := by rw [hb]; omega
    rwa [Int.natCast_mul] at h
  have hr := run_make (P := P) w t e i z ht hi hz .i64 .i64 n n (by omega) (Int.le_refl _) hb' (by omega)
  simp only [Int.toNat_natCast, hs, hz1] at hr
  rw [hr]
  congr 3
  apply Array.ext
  · rw [size_madeCells]; simp
  · intro j h1 h2
    have hj : j % sz < sz := Nat.mod_lt _ hsz
    simp [madeCells, hj]

theorem intCells_at (zs : List Int) (i : Nat) (h : i < zs.length) : (zs.map (Value.int .i64))[i]? = some (.int .i64 (zs.getD i 0)) := by simp [h]
theorem IsInts.asRow {w : World} {v : Value} {zs : List Int} (h : IsInts w v zs) (hs : roomy v) (hl : zs.length ≤ maxLen) : IsRow 1 w v zs.length (zs.map (Value.int .i64)) := by
  refine ⟨by simp, ⟨hl, hs⟩, ?_⟩
  rcases h.2.2 with ⟨rfl, h'⟩ | ⟨hne, b, off, cap, rfl, hlt, hc⟩
  · exact .inl ⟨rfl, h'⟩
  · refine .inr ⟨List.length_pos_iff.2 hne, b, off, cap, rfl, hlt, fun j hj => ?_⟩
    rw [Nat.mul_one] at hj
    rw [hc j hj, intCells_at zs j hj]
theorem IsRow.asInts {w : World} {v : Value} {zs : List Int} (h : IsRow 1 w v zs.length (zs.map (Value.int .i64))) (hz : ∀ x ∈ zs, -9223372036854775808 ≤ x ∧ x ≤ 9223372036854775807) : IsInts w v zs := by
  refine ⟨hz, by have := h.2.1.1; unfold maxLen at this; omega, ?_⟩
  rcases h.2.2 with ⟨h0, h⟩ | ⟨hp, b, off, cap, rfl, hlt, hc⟩
  · exact .inl ⟨List.eq_nil_of_length_eq_zero h0, h⟩
  · exact .inr ⟨List.length_pos_iff.1 hp, b, off, cap, rfl, hlt, fun i hi => by rw [hc i (by omega), intCells_at zs i hi]⟩
theorem IsInts.hit {w : World} {ao : Option Addr} {n cap : Nat} {zs : List Int} (h : IsInts w (.slice ao n cap) zs) (i : Nat) (hi : i < zs.length) : ∃ b off, ao = some ⟨b, off, none⟩ ∧ b < w.heap.size ∧ w.cell? ⟨b, off + i, none⟩ = some (.int .i64 (zs.getD i 0)) := by
  rcases h.2.2 with ⟨h0, _⟩ | ⟨_, b, off, c, e, hlt, hc⟩
  · rw [h0] at hi; cases hi
  · simp only [Value.slice.injEq] at e
    exact ⟨b, off, e.1, hlt, hc i hi⟩
/-- One element of one cell, laid down by the call. -/
theorem one_val (w : World) (x : Value) (t g : Nat) (hg : g = w.heap.size) : IsRow 1 (w.alloc (.cells #[x] t)) (.slice (some ⟨g, 0, none⟩) 1 1) 1 [x] := by
  subst hg
  exact IsRow.fresh w [x] 1 1 t 1 rfl (by omega) (by unfold maxLen; omega) (by omega)

end Go.Proofs.YtomhmndpjkfppaaDoor
