/-
  How rows of texts and lines that came in are opened. No program stands in it.
-/
import Derived.Test.YthmfmeibjpgokaaLineKit
import Derived.Deep.SlicePairs
import Derived.SliceStrings
import Derived.Lib.SmallJoins
namespace Go.Proofs.Ythmfmeibjpgokaa
open Go.RowKit Go.ChangeShapes Go.WideShapes

/-- A slice value that holds rows of texts, each in the slice of its own. -/
def IsStrss (w : World) (v : Value) (vs : List Value) (R : List (List ByteArray)) : Prop :=
  vs.length = R.length ∧ IsRow 1 w v R.length vs ∧ ∀ i, i < R.length → IsStrs w (vs.getD i nilW) (R.getD i [])
theorem IsStrss.below {w w' : World} {v : Value} {vs : List Value} {R : List (List ByteArray)} (h : IsStrss w v vs R) (hb : Below w.heap.size w w') : IsStrss w' v vs R :=
  ⟨h.1, h.2.1.below hb, fun i hi => (h.2.2 i hi).below hb⟩
theorem IsStrss.at {w : World} {ao : Option Addr} {n cap : Nat} {vs : List Value} {R : List (List ByteArray)} (h : IsStrss w (.slice ao n cap) vs R) (i : Nat) (hi : i < R.length) :
    ∃ b off, ao = some ⟨b, off, none⟩ ∧ b < w.heap.size ∧ w.cell? ⟨b, off + i, none⟩ = some (vs.getD i nilW) := by
  obtain ⟨h1, h2, _⟩ := h
  rcases h2.2.2 with ⟨h0, _⟩ | ⟨_, b, off, c, e, hlt, hc⟩
  · omega
  · simp only [Value.slice.injEq] at e
    refine ⟨b, off, e.1, hlt, ?_⟩
    rw [hc i (by omega), List.getD_eq_getElem?_getD, List.getElem?_eq_getElem (by omega)]
    rfl

section
variable {H : Type} {enc : TypeId × Value → H} {P : Program} {W : World}

theorem isRow_cells {a : Addr} {len cap sz : Nat} (hl : len ≤ cap) (hm : cap ≤ maxLen) (hs : 0 < sz) (V : Nat → Value) (h : ∀ i, i < len * sz → W.cell? (a.add i) = some (V i)) : IsRow sz W (.slice (some a) len cap) len ((List.range (len * sz)).map V) := by
  refine ⟨by simp, ⟨Nat.le_trans hl hm, hl, hm⟩, ?_⟩
  by_cases h0 : len = 0
  · subst h0
    exact .inl ⟨rfl, _, _, rfl, fun h => by cases h⟩
  · obtain ⟨b, off, spot⟩ := a
    have hp : 0 < len * sz := Nat.mul_pos (by omega) hs
    have hc := h 0 hp
    have hspot : spot = none := by simpa [Addr.add] using World.cell?_spot hc
    subst hspot
    refine .inr ⟨by omega, b, off, cap, rfl, ?_, fun j hj => ?_⟩
    · have hc0 : W.cell? ⟨b, off, none⟩ = some (V 0) := by simpa [Addr.add] using hc
      exact World.block_lt_of_cell? _ _ hc0
    · have h1 := h j hj
      rw [List.getElem?_map, List.getElem?_range hj]
      by_cases e0 : j = 0
      · subst e0; simpa [Addr.add] using h1
      · simpa [Addr.add, e0] using h1

/-- A slice of texts, opened. -/
theorem open_strs {e e2 : TypeId} {fuel : Nat} {u : Value} {y : DataW H × List MemPlace} (he : P.underlying e = some (.slice e2)) (hs : P.underlying e2 = some .string) (hc : P.cellsOf e2 = 1)
    (h : DataW.trod enc P W 0 (fun _ => true) true fuel e [u] = some y) : ∃ ss : List ByteArray, IsStrs W u ss ∧ (∀ x ∈ ss, x.size ≤ maxLen) ∧ ((y.1 = .nil ∧ ss = []) ∨ ∃ sp, y.1 = .slice (strs ss) sp) := by
  rcases open_strings he hs hc h with ⟨hcs, rfl⟩ | ⟨a, len, cap, ss, hcs, _, hl, hm, hsl, rfl, hcell, hsz⟩
  · obtain rfl : u = .slice none 0 0 := by simpa using hcs
    exact ⟨[], isStrs_nil W, by simp, .inl ⟨rfl, rfl⟩⟩
  · obtain rfl : u = .slice (some a) len cap := by simpa using hcs
    simp only [if_true] at hsl
    refine ⟨ss.take len, ?_, fun x hx => hsz x (List.mem_of_mem_take hx), .inr ⟨_, rfl⟩⟩
    have hlen : (ss.take len).length = len := by rw [List.length_take]; omega
    have := isRow_cells (W := W) (sz := 1) hl hm (by omega) (fun i => .string (ss.getD i ByteArray.empty)) (fun i hi => hcell i (by omega))
    unfold IsStrs
    have key : (ss.take len).map Value.string = (List.range len).map fun i => Value.string (ss.getD i ByteArray.empty) := ?_
    · rw [hlen, key]
      rw [Nat.mul_one] at this
      exact this
    apply List.ext_getElem?
    intro j
    rw [List.getElem?_map, List.getElem?_map]
    rcases Nat.lt_or_ge j len with hj | hj
    · rw [List.getElem?_range hj, List.getElem?_take_of_lt hj]
      simp only [Option.map_some]
      rw [List.getD_eq_getElem?_getD, List.getElem?_eq_getElem (by omega)]
      rfl
    · rw [List.getElem?_eq_none (by simp; omega), List.getElem?_eq_none (by simp; omega)]
      rfl

theorem open_strss {t e e2 : TypeId} {v : Value} {d : DataW H} {p : List MemPlace} (ht : P.underlying t = some (.slice e)) (ce : P.cellsOf e = 1) (he : P.underlying e = some (.slice e2)) (hs : P.underlying e2 = some .string) (hc : P.cellsOf e2 = 1)
    {r : Reach} {b0 : Nat} (hval : Value.okWide P W r b0 t v) (h : DataW.Trod enc P W 0 (fun _ => true) true t v d p) : ∃ vs R, IsStrss W v vs R ∧ ∀ ws ∈ R, ∀ x ∈ ws, x.size ≤ maxLen := by
  obtain ⟨a0, len0, cap0, rfl⟩ := okWide_slice ht hval
  obtain ⟨fuel, hf⟩ := h
  rcases Deep.open_slice1 ht ce hf with ⟨hcs, _⟩ | ⟨a, len, cap, m, n, V, D, Pl, hcs, _, hl, hm, hmm, hx, hcell⟩
  · simp [Value.cells] at hcs
    obtain ⟨rfl, rfl, rfl⟩ := hcs
    exact ⟨[], [], ⟨rfl, isStrs_nil W, fun i hi => by simp at hi⟩, by simp⟩
  · simp [Value.cells] at hcs
    obtain ⟨rfl, rfl, rfl⟩ := hcs
    simp only [if_true] at hmm
    subst hmm
    have each : ∀ i, i < len0 → ∃ ss, IsStrs W (V i) ss ∧ ∀ x ∈ ss, x.size ≤ maxLen := fun i hi => by
      obtain ⟨ss, h1, h2, _⟩ := open_strs he hs hc (hcell i (by omega)).2
      exact ⟨ss, h1, h2⟩
    obtain ⟨q, hq⟩ : ∃ q : Nat → List ByteArray, ∀ i, i < len0 → IsStrs W (V i) (q i) ∧ ∀ x ∈ q i, x.size ≤ maxLen :=
      ⟨fun i => if hi : i < len0 then (each i hi).choose else [], fun i hi => by simp only [hi, dif_pos]; exact (each i hi).choose_spec⟩
    have := isRow_cells (W := W) (sz := 1) hl hm (by omega) V (fun i hi => (hcell i (by omega)).1)
    rw [Nat.mul_one] at this
    refine ⟨(List.range len0).map V, (List.range len0).map q, ⟨by simp, by simpa using this, fun i hi => ?_⟩, fun ws hws => ?_⟩
    rotate_left
    · simp only [List.mem_map, List.mem_range] at hws
      obtain ⟨i, hi, rfl⟩ := hws
      exact (hq i hi).2
    simp at hi
    have e1 : ((List.range len0).map V).getD i nilW = V i := by simp [hi]
    have e2 : ((List.range len0).map q).getD i [] = q i := by simp [hi]
    rw [e1, e2]
    exact (hq i hi).1

theorem open_lines {t e e2 : TypeId} {f0 f1 : Field} {v : Value} {d : DataW H} {p : List MemPlace} (ht : P.underlying t = some (.slice e)) (he : P.underlying e = some (.struct #[f0, f1]))
    (ce : P.cellsOf e = 2) (o0 : f0.offset = 0) (o1 : f1.offset = 1) (c0 : P.cellsOf f0.type = 1) (c1 : P.cellsOf f1.type = 1) (i0 : P.underlying f0.type = some (.int .i64)) (i1 : P.underlying f1.type = some (.slice e2)) (hs : P.underlying e2 = some .string) (hc : P.cellsOf e2 = 1)
    {r : Reach} {b0 : Nat} (hval : Value.okWide P W r b0 t v) (h : DataW.Trod enc P W 0 (fun _ => true) true t v d p) :
    ∃ vs L, IsLines W v vs L ∧ (∀ l ∈ L, (-9223372036854775808 ≤ l.1 ∧ l.1 ≤ 9223372036854775807) ∧ ∀ x ∈ l.2, x.size ≤ maxLen) ∧ ((d = .nil ∧ L = []) ∨ ∃ (sp : List (DataW H)) (dd : Nat → DataW H), d = .slice ((List.range L.length).map fun i => .agg [.lit (.int .i64 (L.getD i (0, [])).1), dd i]) sp ∧
      ∀ i, i < L.length → (dd i = .nil ∧ (L.getD i (0, [])).2 = []) ∨ ∃ sp', dd i = .slice (strs (L.getD i (0, [])).2) sp') := by
  obtain ⟨a0, len0, cap0, rfl⟩ := okWide_slice ht hval
  obtain ⟨fuel, hf⟩ := h
  rcases Deep.open_slice_pairs ht he ce o0 o1 c0 c1 hf with ⟨hcs, hx⟩ | ⟨a, len, cap, m, n, V0, V1, D0, D1, P0, P1, hcs, _, hl, hm, hmm, hx, hcell⟩
  · simp [Value.cells] at hcs
    obtain ⟨rfl, rfl, rfl⟩ := hcs
    exact ⟨[], [], isLines_nil W, by simp, .inl ⟨(Prod.ext_iff.1 hx).1, rfl⟩⟩
  · simp [Value.cells] at hcs
    obtain ⟨rfl, rfl, rfl⟩ := hcs
    simp only [if_true] at hmm
    subst hmm
    have each : ∀ i, i < len0 → ∃ l : LineT, ((-9223372036854775808 ≤ l.1 ∧ l.1 ≤ 9223372036854775807) ∧ ∀ x ∈ l.2, x.size ≤ maxLen) ∧ V0 i = .int .i64 l.1 ∧ D0 i = .lit (.int .i64 l.1) ∧ IsStrs W (V1 i) l.2 ∧ ((D1 i = .nil ∧ l.2 = []) ∨ ∃ sp', D1 i = .slice (strs l.2) sp') := by
      intro i hi
      obtain ⟨h1, h2, h3, h4⟩ := hcell i (by omega)
      obtain ⟨z0, e0, x0, w0⟩ := DataW.trod_int i0 h3
      obtain ⟨ss, h5, h7, h6⟩ := open_strs i1 hs hc h4
      exact ⟨(z0, ss), ⟨bounds_i64 w0, h7⟩, by simpa using e0, (Prod.ext_iff.1 x0).1, h5, h6⟩
    obtain ⟨q, hq⟩ : ∃ q : Nat → LineT, ∀ i, i < len0 → ((-9223372036854775808 ≤ (q i).1 ∧ (q i).1 ≤ 9223372036854775807) ∧ ∀ x ∈ (q i).2, x.size ≤ maxLen) ∧ V0 i = .int .i64 (q i).1 ∧ D0 i = .lit (.int .i64 (q i).1) ∧ IsStrs W (V1 i) (q i).2 ∧ ((D1 i = .nil ∧ (q i).2 = []) ∨ ∃ sp', D1 i = .slice (strs (q i).2) sp') :=
      ⟨fun i => if hi : i < len0 then (each i hi).choose else (0, []), fun i hi => by simp only [hi, dif_pos]; exact (each i hi).choose_spec⟩
    have hL : ((List.range len0).map q).length = len0 := by simp
    have hV : ((List.range len0).map V1).length = ((List.range len0).map q).length := by simp
    have hget : ∀ i, i < len0 → ((List.range len0).map q).getD i (0, []) = q i := fun i hi => by simp [hi]
    have hgetV : ∀ i, i < len0 → ((List.range len0).map V1).getD i nilW = V1 i := fun i hi => by simp [hi]
    refine ⟨(List.range len0).map V1, (List.range len0).map q, ⟨hV, ?_, fun i hi => ?_⟩, fun l hl => ?_, .inr ⟨(List.range (m - len0)).map fun j => .agg [D0 (len0 + j), D1 (len0 + j)], D1, ?_, fun i hi => ?_⟩⟩
    · have := isRow_cells (W := W) (sz := 2) hl hm (by omega) (fun j => if j % 2 = 0 then V0 (j / 2) else V1 (j / 2)) (fun j hj => by
        obtain ⟨h1, h2, _⟩ := hcell (j / 2) (by omega)
        by_cases hj2 : j % 2 = 0
        · rw [if_pos hj2, ← h1, show j / 2 * 2 = j by omega]
        · rw [if_neg hj2, ← h2, show j / 2 * 2 + 1 = j by omega])
      rw [hL]
      have key : lineCells ((List.range len0).map q) ((List.range len0).map V1) = (List.range (len0 * 2)).map (fun j => if j % 2 = 0 then V0 (j / 2) else V1 (j / 2)) := ?_
      · rw [key]; exact this
      apply List.ext_getElem?
      intro j
      rw [List.getElem?_map]
      rcases Nat.lt_or_ge j (len0 * 2) with hj | hj
      · have hi : j / 2 < len0 := by omega
        obtain ⟨a1, a2⟩ := lineCells_at _ _ hV (j / 2) (by omega)
        rw [List.getElem?_range hj, Option.map_some]
        by_cases hj2 : j % 2 = 0
        · rw [if_pos hj2, show j = j / 2 * 2 by omega, a1, hget _ hi, ← (hq _ hi).2.1]
          congr 2; omega
        · rw [if_neg hj2]
          conv => lhs; rw [show j = j / 2 * 2 + 1 by omega]
          rw [a2, hgetV _ hi]
      · rw [List.getElem?_eq_none (by rw [lineCells_length _ _ hV, hL]; exact hj), List.getElem?_eq_none (by simpa using hj)]
        rfl
    · rw [hL] at hi
      rw [hget i hi, hgetV i hi]
      exact (hq i hi).2.2.2.1
    · simp only [List.mem_map, List.mem_range] at hl
      obtain ⟨i, hi, rfl⟩ := hl
      exact (hq i hi).1
    · refine ((Prod.ext_iff.1 hx).1 : d = _).trans ?_
      simp only [hL]
      congr 1
      apply List.map_congr_left
      intro i hi
      rw [List.mem_range] at hi
      rw [hget i hi, (hq i hi).2.2.1]
    · rw [hL] at hi
      rw [hget i hi]
      exact (hq i hi).2.2.2.2
end

end Go.Proofs.Ythmfmeibjpgokaa
