/-
  A row of yeses and noes: how it lies, how it comes in.
-/
import Derived.Test.YthmfmeibjpgokaaRowKit
import Derived.Test.YthmfmeibjpgokaaChecked
import Derived.WalkSmall
import Derived.BigQuiet
import Derived.SizedLaws
import Derived.Deep.SlicePairs
namespace Go.Proofs.Ythmfmeibjpgokaa
open Go.RowKit Go.ChangeShapes Go.WideShapes

/-- A slice value that holds yeses and noes. -/
def IsBools (w : World) (v : Value) (l : List Bool) : Prop := IsRow 1 w v l.length (l.map Value.bool)
theorem IsBools.below {w w' : World} {v : Value} {l : List Bool} (h : IsBools w v l) (hb : Below w.heap.size w w') : IsBools w' v l := IsRow.below h hb
theorem IsBools.at {w : World} {ao : Option Addr} {n cap : Nat} {l : List Bool} (h : IsBools w (.slice ao n cap) l) (i : Nat) (hi : i < l.length) :
    ∃ b off, ao = some ⟨b, off, none⟩ ∧ b < w.heap.size ∧ w.cell? ⟨b, off + i, none⟩ = some (.bool (l.getD i false)) := by
  rcases h.2.2 with ⟨h0, _⟩ | ⟨_, b, off, c, e, hlt, hc⟩
  · omega
  · simp only [Value.slice.injEq] at e
    refine ⟨b, off, e.1, hlt, ?_⟩
    rw [hc i (by omega)]
    simp [hi]
theorem IsBools.shaped {w : World} {v : Value} {l : List Bool} (h : IsBools w v l) : ∃ ao cap, v = .slice ao l.length cap := by
  rcases h.2.2 with ⟨h0, ao, cap, rfl, _⟩ | ⟨_, b, off, cap, rfl, _⟩
  · exact ⟨ao, cap, by rw [h0]⟩
  · exact ⟨_, cap, rfl⟩

section
variable {H : Type} {enc : TypeId × Value → H} {W : World}
theorem c_pbool : Try.prog.cellsOf 4 = 1 := by kernel_rfl
end

end Go.Proofs.Ythmfmeibjpgokaa
