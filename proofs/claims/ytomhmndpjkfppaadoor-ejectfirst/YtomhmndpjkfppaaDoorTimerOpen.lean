/-
  How timers and rows of them that came in are opened.
-/
import Derived.Test.YtomhmndpjkfppaaDoorBase
import Derived.Test.YtomhmndpjkfppaaDoorFlatRow
import Derived.Test.YtomhmndpjkfppaaDoorChecked
import Derived.SizedLaws
namespace Go.Proofs.YtomhmndpjkfppaaDoor
open Go.RowKit Go.ChangeShapes Go.WideShapes

theorem timerCells_get (L : List TimerT) (i j : Nat) (h : i < L.length) (hj : j < 3) : (timerCells L)[i * 3 + j]? = (tcells (L.getD i noTimer)).toList[j]? := by
  obtain ⟨a0, a1, a2⟩ := timerCells_at L i h
  have : j = 0 ∨ j = 1 ∨ j = 2 := by omega
  rcases this with rfl | rfl | rfl
  · rw [Nat.add_zero, a0]; rfl
  · rw [a1]; rfl
  · rw [a2]; rfl

section
variable {H : Type} {enc : TypeId × Value → H} {W : World}
theorem c_tint : Tryd.prog.cellsOf 3 = 1 := by kernel_rfl
theorem c_timer : Tryd.prog.cellsOf 52 = 3 := by kernel_rfl
theorem bytes_timer : Tryd.prog.bytesOf 52 = 24 := by kernel_rfl

theorem list3v {l : List Value} (h : l.length = 3) : ∃ v0 v1 v2, l = [v0, v1, v2] := by
  match l, h with
  | [v0, v1, v2], _ => exact ⟨v0, v1, v2, rfl⟩
theorem timer_trod {fuel : Nat} {cs : List Value} {y : DataW H × List MemPlace} (h : DataW.trod enc Tryd.prog W 0 (fun _ => true) true fuel 52 cs = some y) :
    ∃ t : TimerT, cs = (tcells t).toList ∧ inT t := by
  obtain ⟨xs, n, _, hx, hl, hlen, hF⟩ := DataW.trod_struct Tryd.underlying52 h
  obtain ⟨v0, v1, v2, hcs⟩ := list3v (hl.trans c_timer)
  rw [hcs] at hF
  match xs, hlen with
  | [x0, x1, x2], _ =>
    obtain ⟨n0, g0, _, b0⟩ := DataW.trod_int (k := .i64) (x := x0) Tryd.underlying3 (hF 0 _ rfl)
    obtain ⟨n1, g1, _, b1⟩ := DataW.trod_int (k := .i64) (x := x1) Tryd.underlying3 (hF 1 _ rfl)
    obtain ⟨n2, g2, _, b2⟩ := DataW.trod_int (k := .i64) (x := x2) Tryd.underlying3 (hF 2 _ rfl)
    have k0 : v0 = .int .i64 n0 := by simpa [c_tint] using g0
    have k1 : v1 = .int .i64 n1 := by simpa [c_tint] using g1
    have k2 : v2 = .int .i64 n2 := by simpa [c_tint] using g2
    exact ⟨⟨n0, n1, n2⟩, by rw [hcs, k0, k1, k2], bounds_i64 b0, bounds_i64 b1, bounds_i64 b2⟩
/-- A timer that came in. -/
theorem open_timer {r : Reach} {b0 : Nat} {v : Value} {d : DataW H} {p : List MemPlace} (hval : Value.okWide Tryd.prog W r b0 52 v) (h : DataW.Trod enc Tryd.prog W 0 (fun _ => true) true 52 v d p) : ∃ t, v = tval t ∧ inT t := by
  obtain ⟨cs, rfl, _⟩ := okWide_struct Tryd.underlying52 hval
  obtain ⟨fuel, hf⟩ := h
  obtain ⟨t, e, ht⟩ := timer_trod (show DataW.trod enc Tryd.prog W 0 (fun _ => true) true fuel 52 cs.toList = some (d, p) from hf)
  exact ⟨t, congrArg Value.agg (Array.toList_inj.1 e), ht⟩
theorem open_timers {r : Reach} {b0 : Nat} {v : Value} {d : DataW H} {p : List MemPlace} (hval : Value.okWide Tryd.prog W r b0 36 v) (h : DataW.Trod enc Tryd.prog W 0 (fun _ => true) true 36 v d p) : ∃ L, IsTimers W v L := by
  obtain ⟨a0, len0, cap0, rfl⟩ := okWide_slice Tryd.underlying36 hval
  obtain ⟨fuel, hf⟩ := h
  rcases Deep.open_slice Tryd.underlying36 hf with ⟨hcs, _⟩ | ⟨a, len, cap, m, n, D, Pl, hcs, _, hl, hm, hmm, hx, hcell⟩
  · simp [Value.cells] at hcs
    obtain ⟨rfl, rfl, rfl⟩ := hcs
    exact ⟨[], isTimers_nil W⟩
  · simp [Value.cells] at hcs
    obtain ⟨rfl, rfl, rfl⟩ := hcs
    simp only [if_true] at hmm
    subst hmm
    have each : ∀ i, i < len0 → ∃ q : TimerT, inT q ∧ ∀ j, j < 3 → W.cell? (a.add (i * 3 + j)) = (tcells q).toList[j]? := fun i hi => by
      obtain ⟨cs', h1, h2⟩ := hcell i (by omega)
      rw [c_timer] at h1
      obtain ⟨_, _, h5⟩ := World.cells?_some h1
      obtain ⟨t, rfl, ht⟩ := timer_trod h2
      exact ⟨t, ht, fun j hj => by rw [← Deep.add_add]; exact h5 j (by simpa using hj)⟩
    obtain ⟨q, hq⟩ : ∃ q : Nat → TimerT, ∀ i, i < len0 → inT (q i) ∧ ∀ j, j < 3 → W.cell? (a.add (i * 3 + j)) = (tcells (q i)).toList[j]? :=
      ⟨fun i => if hi : i < len0 then (each i hi).choose else noTimer, fun i hi => by simp only [hi, dif_pos]; exact (each i hi).choose_spec⟩
    refine ⟨(List.range len0).map q, fun t ht => ?_, ?_⟩
    · simp only [List.mem_map, List.mem_range] at ht
      obtain ⟨i, hi, rfl⟩ := ht
      exact (hq i hi).1
    · have := flat_row (W := W) 3 (by omega) timerCells (fun t => (tcells t).toList) noTimer timerCells_length timerCells_get hl hm q fun i hi => (hq i hi).2
      rwa [show ((List.range len0).map q).length = len0 by simp]
end

end Go.Proofs.YtomhmndpjkfppaaDoor
