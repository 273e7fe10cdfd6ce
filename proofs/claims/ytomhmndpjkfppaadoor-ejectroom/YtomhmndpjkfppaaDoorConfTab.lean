/-
  The table of package config: as a value, as it lies in memory; how a configuration that came in is opened.
-/
import Derived.Test.YtomhmndpjkfppaaDoorRefConf
import Derived.ChangeArms
import Derived.OpenShut
import Derived.WideShapes
import Derived.LaidSub
import Derived.Stop.LaidErr
import Derived.Laws.Rows
namespace Go.Proofs.YtomhmndpjkfppaaDoor
open Go.RowKit Go.ChangeShapes Go.WideShapes

/-- A row of the table: its kind, its bounds, the word by itself. -/
def tabK : List (Int × Int × Int × List UInt8) := [
  (1, 10, 10000, [49, 48, 48]),
  (1, 1, 10000, [50, 48]),
  (1, 0, 1000, [48]),
  (1, 1, 10, [50]),
  (1, 1, 10, [51]),
  (1, 0, 100, [53, 48]),
  (1, 100, 1000, [49, 52, 48]),
  (1, 0, 100, [53]),
  (1, 10, 10000, [49, 48, 48, 48]),
  (1, 1, 64, [53]),
  (1, 1, 1000, [49, 48, 48]),
  (1, 0, 10000, [49, 57, 48, 48]),
  (1, 0, 100, [48]),
  (1, 1, 10000, [51, 48, 48, 48]),
  (1, 0, 100, [49, 48]),
  (2, 0, 0, [121, 101, 115]),
  (1, 0, 10000, [48]),
  (1, 1, 10000, [53, 48, 48, 48]),
  (1, 1, 1000, [49, 48, 48, 48]),
  (1, 1, 10000, [49, 48, 48, 48, 48]),
  (3, 1, 3, [114, 111, 117, 110, 100]),
  (4, 0, 0, [45]),
  (2, 0, 0, [110, 111])]
def rowK (i : Nat) : Int × Int × Int × List UInt8 := tabK.getD i (0, 0, 0, [])
def rowL (i : Nat) : List Value := [.string (nameC i), .int .i64 (rowK i).1, .int .i64 (rowK i).2.1, .int .i64 (rowK i).2.2.1, .string (mkS (rowK i).2.2.2)]
def rowA (i : Nat) : Value := .agg #[.string (nameC i), .int .i64 (rowK i).1, .int .i64 (rowK i).2.1, .int .i64 (rowK i).2.2.1, .string (mkS (rowK i).2.2.2)]
def tabL : List Value := (List.range 23).flatMap rowL
def tabArr : Array Value := tabL.toArray

theorem flat5 {α : Type} (f : Nat → List α) (n i : Nat) (hf : ∀ k, (f k).length = 5) (hi : i < n) : (((List.range n).flatMap f).drop (i * 5)).take 5 = f i := by
  induction n generalizing i with
  | zero => omega
  | succ n ih =>
    have hl : ((List.range n).flatMap f).length = n * 5 := by
      clear ih hi
      induction n with
      | zero => rfl
      | succ m ihm => rw [List.range_succ, List.flatMap_append, List.length_append, ihm]; simp [hf]; omega
    rw [List.range_succ, List.flatMap_append]
    rcases Nat.lt_or_ge i n with h | h
    · rw [List.drop_append_of_le_length (by omega), List.take_append_of_le_length (by rw [List.length_drop]; omega)]
      exact ih i h
    · have e : i = n := by omega
      subst e
      rw [List.drop_append, hl]
      have h1 : ((List.range i).flatMap f).drop (i * 5) = [] := List.drop_eq_nil_of_le (by omega)
      rw [h1]
      simp [List.take_of_length_le, hf]
theorem tab_row (i : Nat) (h : i < 23) : (tabL.drop (i * 5)).take 5 = rowL i := flat5 rowL 23 i (fun _ => rfl) h
theorem tabL_length : tabL.length = 115 := by decide
theorem list_of_fives {α : Type} {a b : List α} (n : Nat) (ha : a.length = n * 5) (hb : b.length = n * 5) (h : ∀ i, i < n → (a.drop (i * 5)).take 5 = (b.drop (i * 5)).take 5) : a = b := by
  apply List.ext_getElem? 
  intro k
  by_cases hk : k < n * 5
  · have h1 := congrArg (fun l => l[k % 5]?) (h (k / 5) (by omega))
    simp only [List.getElem?_take, List.getElem?_drop] at h1
    have e : k / 5 * 5 + k % 5 = k := by omega
    have h5 : k % 5 < 5 := Nat.mod_lt _ (by omega)
    simpa [e, h5] using h1
  · rw [List.getElem?_eq_none (by omega), List.getElem?_eq_none (by omega)]

theorem u_tab : Tryd.prog.underlying 65 = some (.array 23 64) := Tryd.underlying65
theorem c_tab : Tryd.prog.cellsOf 65 = 115 := by kernel_rfl
theorem c_row : Tryd.prog.cellsOf 64 = 5 := by kernel_rfl
theorem run_row (k : Nat) (hk : k < 23) (w : World) : (Instr.index 65 (.agg tabArr) (.int .i64 k)).run Tryd.prog w = .ok (rowA k) w := by
  have h1 : (0 : Int) ≤ (k : Int) ∧ (k : Int) < ((23 : Nat) : Int) := ⟨by omega, by omega⟩
  obtain ⟨i0, hi, hs⟩ : ∃ i, Tryd.prog.info? 64 = some i ∧ i.size = 5 := by
    have h : (Tryd.prog.info? 64).map (·.size) = some 5 := by kernel_rfl
    cases he : Tryd.prog.info? 64 with
    | none => rw [he] at h; simp at h
    | some i => rw [he] at h; exact ⟨i, rfl, by simpa using h⟩
  have e : tabArr.extract (k * 5) (k * 5 + 5) = (rowL k).toArray := by
    apply Array.toList_inj.1
    rw [Array.toList_extract, List.extract_eq_take_drop, Nat.add_sub_cancel_left]
    exact tab_row k hk
  simp [Instr.index, asIntOf, run_underlying u_tab, h1, part, isAgg, run_underlying Tryd.underlying64, sizeOf, typeInfo, hi, hs, go_sem]
  rw [if_pos hk, e]
  rfl

/-- The table as it lies. -/
def TabC (w : World) : Prop := ∃ t fr, w.heap[0]? = some (.cells tabArr t fr)
theorem TabC.lt {w : World} (h : TabC w) : 0 < w.heap.size := by
  obtain ⟨t, fr, h⟩ := h
  exact (Array.getElem?_eq_some_iff.1 h).1
theorem TabC.below {w w' : World} (h : TabC w) (hb : Below w.heap.size w w') : TabC w' := by
  have hl := h.lt
  obtain ⟨t, fr, h⟩ := h
  exact ⟨t, fr, (hb.block _ hl).trans h⟩
theorem TabC.alloc {w : World} (h : TabC w) (o : Obj) : TabC (w.alloc o) := h.below ((Below.refl _ _).alloc (Nat.le_refl _) _)

end Go.Proofs.YtomhmndpjkfppaaDoor
