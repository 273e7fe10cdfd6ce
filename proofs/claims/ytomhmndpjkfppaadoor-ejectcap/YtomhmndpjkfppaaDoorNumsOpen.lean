/-
  How a slice of numbers that came in is opened.
-/
import Derived.Test.YtomhmndpjkfppaaDoorFillRow
import Derived.Test.YtomhmndpjkfppaaDoorChecked
import Derived.SizedLaws
namespace Go.Proofs.YtomhmndpjkfppaaDoor
open Go.RowKit Go.ChangeShapes Go.WideShapes

section
variable {H : Type} {enc : TypeId × Value → H} {W : World}
/-- A slice of numbers that came in. -/
theorem open_nums {r : Reach} {b0 : Nat} {v : Value} {d : DataW H} {p : List MemPlace} (hval : Value.okWide Tryd.prog W r b0 24 v) (h : DataW.Trod enc Tryd.prog W 0 (fun _ => true) true 24 v d p) : ∃ zs, IsInts W v zs ∧ roomy v ∧ zs.length ≤ maxLen := by
  obtain ⟨a0, len0, cap0, rfl⟩ := okWide_slice Tryd.underlying24 hval
  obtain ⟨fuel, hf⟩ := h
  rcases open_ints Tryd.underlying24 Tryd.underlying3 (by kernel_rfl) hf with ⟨hcs, _⟩ | ⟨x, l, c, zs, hcs, _, hl, hm, hz, hx, hcell, hwz⟩
  · simp [Value.cells] at hcs
    obtain ⟨rfl, rfl, rfl⟩ := hcs
    exact ⟨[], isInts_nil W, by unfold roomy maxLen; omega, by simp⟩
  · simp [Value.cells] at hcs
    obtain ⟨rfl, rfl, rfl⟩ := hcs
    simp only [Prod.mk.injEq] at hx
    obtain ⟨rfl, rfl⟩ := hx
    have h1 := isInts_row (w := W) hl hm (by simpa using hz) hcell hwz
    obtain ⟨ao, cp, e⟩ := h1.shape
    simp only [Value.slice.injEq] at e
    exact ⟨_, h1, ⟨hl, hm⟩, by omega⟩
end

end Go.Proofs.YtomhmndpjkfppaaDoor
