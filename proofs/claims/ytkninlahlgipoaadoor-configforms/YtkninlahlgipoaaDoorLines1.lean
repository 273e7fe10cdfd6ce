/-
  The contracts of package lines, as landed: Number, Name, Join (Split: LineSplit).
-/
import Derived.Test.YtkninlahlgipoaaDoorLineNum
import Derived.Test.YtkninlahlgipoaaDoorLineJoin
import Derived.Test.YtkninlahlgipoaaDoorLineSplit
namespace Go.Proofs.YtkninlahlgipoaaDoor
open Go.RowKit
theorem number_any (s : ByteArray) (w : World) (hs : s.size ≤ 9223372036854775807) :
    Calls Tryd.prog 44 #[.string s] w fun e w' => e = .returned (.tuple #[.int .i64 (numV s), .bool (numOK s)]) ∧ Below w.heap.size w w' := by
  refine (number_same s w hs).mono ?_
  rintro e w1 ⟨rfl, rfl⟩
  exact ⟨rfl, Below.refl _ _⟩
theorem name_any (s : ByteArray) (w : World) (hs : s.size ≤ 9223372036854775807) :
    Calls Tryd.prog 43 #[.string s] w fun e w' => e = .returned (.bool (nameOK s)) ∧ Below w.heap.size w w' := by
  refine (name_same s w hs).mono ?_
  rintro e w1 ⟨rfl, rfl⟩
  exact ⟨rfl, Below.refl _ _⟩
theorem join_any (L : List LineT) (vs : List Value) (v : Value) (w : World) (hv : IsLines w v vs L) (hlen : (textL L).length ≤ 1000000) :
    Calls Tryd.prog 23 #[v] w fun e w' => e = .returned (.string (mkS (textL L))) ∧ Below w.heap.size w w' := join_own L vs v w hv hlen
end Go.Proofs.YtkninlahlgipoaaDoor
