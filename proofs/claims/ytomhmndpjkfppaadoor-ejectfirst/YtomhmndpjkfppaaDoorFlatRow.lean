/-
  How a row of flat elements that came in lies in memory. No program stands in it.
-/
import Derived.Test.YtomhmndpjkfppaaDoorLineOpen
namespace Go.Proofs.YtomhmndpjkfppaaDoor
open Go.RowKit Go.ChangeShapes Go.WideShapes

section
variable {W : World}
/-- Rows of flat elements that came in: the cells one behind the other. -/
theorem flat_row {α : Type} (sz : Nat) (hs : 0 < sz) (cells : List α → List Value) (one : α → List Value) (d : α) (hlen : ∀ L, (cells L).length = L.length * sz) (hat : ∀ L i j, i < L.length → j < sz → (cells L)[i * sz + j]? = (one (L.getD i d))[j]?)
    {a : Addr} {len cap : Nat} (hl : len ≤ cap) (hm : cap ≤ maxLen) (q : Nat → α) (hq : ∀ i, i < len → ∀ j, j < sz → W.cell? (a.add (i * sz + j)) = (one (q i))[j]?) :
    IsRow sz W (.slice (some a) len cap) len (cells ((List.range len).map q)) := by
  have hL : ((List.range len).map q).length = len := by simp
  have hcl := hlen ((List.range len).map q)
  rw [hL] at hcl
  have key : ∀ j, j < len * sz → W.cell? (a.add j) = (cells ((List.range len).map q))[j]? := fun j hj => by
    have hi : j / sz < len := Nat.div_lt_of_lt_mul (by rw [Nat.mul_comm]; exact hj)
    have hr : j % sz < sz := Nat.mod_lt _ hs
    have e : j / sz * sz + j % sz = j := by rw [Nat.mul_comm]; exact Nat.div_add_mod j sz
    have h1 := hq (j / sz) hi (j % sz) hr
    have h2 := hat ((List.range len).map q) (j / sz) (j % sz) (by rw [hL]; exact hi) hr
    rw [e] at h1 h2
    rw [h1, h2]
    have : ((List.range len).map q).getD (j / sz) d = q (j / sz) := by simp [hi]
    rw [this]
  have row := isRow_cells (W := W) (sz := sz) hl hm hs (fun j => (cells ((List.range len).map q)).getD j nilW) (fun j hj => by
    rw [key j hj, List.getD_eq_getElem?_getD, List.getElem?_eq_getElem (by omega)]; rfl)
  have e : (List.range (len * sz)).map (fun j => (cells ((List.range len).map q)).getD j nilW) = cells ((List.range len).map q) := by
    apply List.ext_getElem?
    intro j
    rw [List.getElem?_map]
    rcases Nat.lt_or_ge j (len * sz) with hj | hj
    · rw [List.getElem?_range hj, Option.map_some, List.getD_eq_getElem?_getD, List.getElem?_eq_getElem (by omega)]; rfl
    · rw [List.getElem?_eq_none (by simpa using hj), List.getElem?_eq_none (by omega)]; rfl
  rw [← e]
  exact row
end

end Go.Proofs.YtomhmndpjkfppaaDoor
