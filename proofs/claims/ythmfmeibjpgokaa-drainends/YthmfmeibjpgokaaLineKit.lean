/-
  How lines (structs of a number and a slice of texts) lie in memory. No program stands in it.
-/
import Derived.Test.YthmfmeibjpgokaaSeqKit
import Derived.Test.YthmfmeibjpgokaaLinesPlain
namespace Go.Proofs.Ythmfmeibjpgokaa
open Go.RowKit Go.ChangeShapes

abbrev LineT := Int × List ByteArray
abbrev nilW : Value := .slice none 0 0
abbrev IsStrs (w : World) (v : Value) (ss : List ByteArray) : Prop := IsRow 1 w v ss.length (ss.map Value.string)

/-- The block that a slice lies in. -/
def blkOf : Value → Option Nat
  | .slice (some a) _ _ => some a.block
  | _ => none

theorem isStrs_nil (w : World) : IsStrs w nilW [] := ⟨rfl, ⟨by unfold maxLen; simp, by unfold roomy maxLen; omega⟩, .inl ⟨rfl, _, _, rfl, fun _ => rfl⟩⟩

theorem IsRow.shaped {w : World} {sz n : Nat} {v : Value} {cs : List Value} (h : IsRow sz w v n cs) : ∃ ao cap, v = .slice ao n cap := by
  rcases h.2.2 with ⟨h0, ao, cap, rfl, _⟩ | ⟨_, b, off, cap, rfl, _⟩
  · exact ⟨ao, cap, by rw [h0]⟩
  · exact ⟨_, cap, rfl⟩

theorem IsRow.grown {w w' : World} {sz n : Nat} {v : Value} {cs : List Value} {o : Option Nat} (h : IsRow sz w v n cs) (hg : w.grownBy w' o) (hne : 0 < n → blkOf v ≠ o) : IsRow sz w' v n cs := by
  obtain ⟨h1, h2, h3⟩ := h
  refine ⟨h1, h2, ?_⟩
  rcases h3 with h3 | ⟨h3, b, off, cap, rfl, hlt, hc⟩
  · exact .inl h3
  · have hb : some b ≠ o := hne h3
    exact .inr ⟨h3, b, off, cap, rfl, Nat.lt_of_lt_of_le hlt hg.size, fun j hj => by rw [hg.cell_far _ hlt hb]; exact hc j hj⟩

theorem IsRow.blk_lt {w : World} {sz n : Nat} {v : Value} {cs : List Value} (h : IsRow sz w v n cs) (h0 : 0 < n) : ∃ b, blkOf v = some b ∧ b < w.heap.size := by
  rcases h.2.2 with ⟨h1, _⟩ | ⟨_, b, off, cap, rfl, hlt, _⟩
  · omega
  · exact ⟨b, rfl, hlt⟩

theorem own_blkOf {w : World} {base e sz n : Nat} {v : Value} {cs : List Value} (h : w.ownsRow base e sz v n cs) : ∀ b, blkOf v = some b → base ≤ b := by
  intro b hb
  rcases h.2 with ⟨rfl, _⟩ | ⟨g, cap, cur, rfl, hg, _⟩
  · simp [blkOf] at hb
  · simp [blkOf] at hb; omega

/-- What the call owns stands while what was there stands. -/
theorem own_stays {w w' : World} {base e sz n : Nat} {v : Value} {cs : List Value} (h : w.ownsRow base e sz v n cs) (hb : Below w.heap.size w w') : w'.ownsRow base e sz v n cs := by
  refine ⟨h.1, ?_⟩
  rcases h.2 with h | ⟨g, cap, cur, h1, h2, h3, h4⟩
  · exact .inl h
  · exact .inr ⟨g, cap, cur, h1, h2, (hb.block g (Array.getElem?_eq_some_iff.1 h3).1).trans h3, h4⟩

theorem strsAt {w : World} {ao : Option Addr} {n cap : Nat} {ss : List ByteArray} (h : IsStrs w (.slice ao n cap) ss) (i : Nat) (hi : i < ss.length) :
    ∃ b off, ao = some ⟨b, off, none⟩ ∧ b < w.heap.size ∧ w.cell? ⟨b, off + i, none⟩ = some (.string (ss.getD i ByteArray.empty)) := by
  rcases h.2.2 with ⟨h0, _⟩ | ⟨_, b, off, c, e, hlt, hc⟩
  · omega
  · simp only [Value.slice.injEq] at e
    refine ⟨b, off, e.1, hlt, ?_⟩
    rw [hc i (by omega)]
    simp [hi]

/-- The cells of lines: each its number and its slice of words. -/
def lineCells : List LineT → List Value → List Value
  | l :: L, v :: vs => .int .i64 l.1 :: v :: lineCells L vs
  | _, _ => []
theorem lineCells_length (L : List LineT) (vs : List Value) (h : vs.length = L.length) : (lineCells L vs).length = L.length * 2 := by
  induction L generalizing vs with
  | nil => cases vs <;> rfl
  | cons l r ih =>
    cases vs with
    | nil => simp at h
    | cons v vr => simp only [lineCells, List.length_cons]; rw [ih vr (by simpa using h)]; omega
theorem lineCells_at (L : List LineT) (vs : List Value) (h : vs.length = L.length) (i : Nat) (hi : i < L.length) : (lineCells L vs)[i * 2]? = some (.int .i64 (L.getD i (0, [])).1) ∧ (lineCells L vs)[i * 2 + 1]? = some (vs.getD i nilW) := by
  induction L generalizing vs i with
  | nil => simp at hi
  | cons l r ih =>
    cases vs with
    | nil => simp at h
    | cons v vr =>
      cases i with
      | zero => exact ⟨rfl, rfl⟩
      | succ i =>
        have := ih vr (by simpa using h) i (by simpa using hi)
        rw [show (i + 1) * 2 = i * 2 + 2 by omega]
        simpa [lineCells] using this
theorem lineCells_snoc (L : List LineT) (vs : List Value) (h : vs.length = L.length) (l : LineT) (v : Value) : lineCells (L ++ [l]) (vs ++ [v]) = lineCells L vs ++ [.int .i64 l.1, v] := by
  induction L generalizing vs with
  | nil => cases vs with
    | nil => rfl
    | cons _ _ => simp at h
  | cons x r ih =>
    cases vs with
    | nil => simp at h
    | cons y vr => simp only [List.cons_append, lineCells]; rw [ih vr (by simpa using h)]

/-- A slice value that holds the lines L, their words in the slices vs. -/
def IsLines (w : World) (v : Value) (vs : List Value) (L : List LineT) : Prop :=
  vs.length = L.length ∧ IsRow 2 w v L.length (lineCells L vs) ∧ ∀ i, i < L.length → IsStrs w (vs.getD i nilW) (L.getD i (0, [])).2

/-- Lines, wherever their words lie. -/
def HasLines (w : World) (v : Value) (L : List LineT) : Prop := ∃ vs, IsLines w v vs L

theorem IsLines.below {w w' : World} {v : Value} {vs : List Value} {L : List LineT} (h : IsLines w v vs L) (hb : Below w.heap.size w w') : IsLines w' v vs L :=
  ⟨h.1, h.2.1.below hb, fun i hi => (h.2.2 i hi).below hb⟩
theorem isLines_nil (w : World) : IsLines w nilW [] [] := ⟨rfl, ⟨rfl, ⟨by unfold maxLen; simp, by unfold roomy maxLen; omega⟩, .inl ⟨rfl, _, _, rfl, fun _ => rfl⟩⟩, fun i hi => by simp at hi⟩

theorem IsLines.at {w : World} {ao : Option Addr} {n cap : Nat} {vs : List Value} {L : List LineT} (h : IsLines w (.slice ao n cap) vs L) (i : Nat) (hi : i < L.length) :
    ∃ b off, ao = some ⟨b, off, none⟩ ∧ b < w.heap.size ∧ w.cell? ⟨b, off + i * 2, none⟩ = some (.int .i64 (L.getD i (0, [])).1) ∧ w.cell? ⟨b, off + i * 2 + 1, none⟩ = some (vs.getD i nilW) := by
  obtain ⟨h1, h2, _⟩ := h
  rcases h2.2.2 with ⟨h0, _⟩ | ⟨_, b, off, c, e, hlt, hc⟩
  · omega
  · simp only [Value.slice.injEq] at e
    obtain ⟨a1, a2⟩ := lineCells_at L vs h1 i hi
    exact ⟨b, off, e.1, hlt, by rw [hc (i * 2) (by omega), a1], by rw [Nat.add_assoc, hc (i * 2 + 1) (by omega), a2]⟩

/-- Lines that the call collects: none of their words in the block of o. -/
def HeldL (w : World) (o : Value) (vs : List Value) (L : List LineT) : Prop :=
  vs.length = L.length ∧ ∀ j, j < L.length → IsStrs w (vs.getD j nilW) (L.getD j (0, [])).2 ∧ (0 < (L.getD j (0, [])).2.length → blkOf (vs.getD j nilW) ≠ o.ownBlock)
theorem heldL_nil (w : World) (o : Value) : HeldL w o [] [] := ⟨rfl, fun j h => by simp at h⟩
theorem HeldL.below {w w' : World} {o : Value} {vs : List Value} {L : List LineT} (h : HeldL w o vs L) (hb : Below w.heap.size w w') : HeldL w' o vs L :=
  ⟨h.1, fun j hj => ⟨(h.2 j hj).1.below hb, (h.2 j hj).2⟩⟩
theorem getD_snoc_left {α : Type} (a b : List α) (d : α) (i : Nat) (h : i < a.length) : (a ++ b).getD i d = a.getD i d := by
  rw [List.getD_eq_getElem?_getD, List.getElem?_append_left h, List.getD_eq_getElem?_getD]
theorem getD_snoc_last {α : Type} (a : List α) (x d : α) : (a ++ [x]).getD a.length d = x := by
  rw [List.getD_eq_getElem?_getD, List.getElem?_append_right (Nat.le_refl _), Nat.sub_self]
  rfl
theorem heldL_append {w w' : World} {o v' v : Value} {vs : List Value} {L : List LineT} {l : LineT} (h : HeldL w o vs L) (hg : w.grownBy w' o.ownBlock) (hat : v'.ownBlock = o.ownBlock ∨ v'.ownBlock = some w.heap.size)
    (hv : IsStrs w v l.2) (hvo : 0 < l.2.length → blkOf v ≠ o.ownBlock) : HeldL w' v' (vs ++ [v]) (L ++ [l]) := by
  have key : ∀ (u : Value) (q : List ByteArray), IsStrs w u q → (0 < q.length → blkOf u ≠ o.ownBlock) → IsStrs w' u q ∧ (0 < q.length → blkOf u ≠ v'.ownBlock) := fun u q hu hq =>
    ⟨hu.grown hg hq, fun hne => by
      rcases hat with h | h
      · rw [h]; exact hq hne
      · obtain ⟨b, hb, hlt⟩ := hu.blk_lt hne
        rw [h, hb]
        intro e
        simp at e
        omega⟩
  refine ⟨by simp [h.1], fun j hj => ?_⟩
  simp only [List.length_append, List.length_singleton] at hj
  rcases Nat.lt_or_ge j L.length with h1 | h1
  · rw [getD_snoc_left _ _ _ _ h1, getD_snoc_left _ _ _ _ (by rw [h.1]; exact h1)]; exact key _ _ (h.2 j h1).1 (h.2 j h1).2
  · have e : j = L.length := by omega
    subst e
    rw [getD_snoc_last, ← h.1, getD_snoc_last]; exact key _ _ hv hvo
theorem heldL_lines {w : World} {o : Value} {vs : List Value} {L : List LineT} (h : HeldL w o vs L) (ho : IsRow 2 w o L.length (lineCells L vs)) : IsLines w o vs L := ⟨h.1, ho, fun i hi => (h.2 i hi).1⟩

/-- One line, laid down by the call. -/
theorem one_line (w : World) (x : Int) (v : Value) (t g : Nat) (hg : g = w.heap.size) : IsRow 2 (w.alloc (.cells #[.int .i64 x, v] t)) (.slice (some ⟨g, 0, none⟩) 1 1) 1 [.int .i64 x, v] := by
  subst hg
  exact IsRow.fresh w [.int .i64 x, v] 2 1 t 1 rfl (by omega) (by unfold maxLen; omega) (by omega)

/-- The bytes of lines as a text. -/
def wordsL (ws : List ByteArray) : List UInt8 := joinL 32 (ws.map fun s => s.data.toList)
def textL (L : List LineT) : List UInt8 := L.flatMap fun l => wordsL l.2 ++ [10]
theorem textL_snoc (L : List LineT) (l : LineT) : textL (L ++ [l]) = textL L ++ (wordsL l.2 ++ [10]) := by unfold textL; simp
theorem textL_take (L : List LineT) (i : Nat) (h : i < L.length) : textL (L.take (i + 1)) = textL (L.take i) ++ (wordsL (L.getD i (0, [])).2 ++ [10]) := by
  rw [List.take_succ_eq_append_getElem h, textL_snoc]
  simp [h]
theorem textL_le (L : List LineT) (i : Nat) : (textL (L.take i)).length ≤ (textL L).length := by
  have h : textL L = textL (L.take i) ++ textL (L.drop i) := by unfold textL; rw [← List.flatMap_append, List.take_append_drop]
  rw [h, List.length_append]; omega
theorem wordsL_take (ws : List ByteArray) (k : Nat) (h : k < ws.length) : wordsL (ws.take (k + 1)) = wordsL (ws.take k) ++ ((if k = 0 then [] else [32]) ++ (ws.getD k ByteArray.empty).data.toList) := by
  unfold wordsL
  rw [List.map_take, List.map_take, joinL_step 32 _ k (by simpa using h)]
  simp [h]
theorem wordsL_le (ws : List ByteArray) (k : Nat) : (wordsL (ws.take k)).length ≤ (wordsL ws).length := by
  unfold wordsL
  rw [List.map_take]
  exact joinL_take_le 32 _ k

theorem mkS_append (a : List UInt8) (x : ByteArray) : mkS a ++ x = mkS (a ++ x.data.toList) := by
  apply ByteArray.ext
  unfold mkS
  simp
theorem mkS_size (a : List UInt8) : (mkS a).size = a.length := rfl

end Go.Proofs.Ythmfmeibjpgokaa
