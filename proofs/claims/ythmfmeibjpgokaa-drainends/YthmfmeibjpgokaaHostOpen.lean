/-
  How hosts and rows of pairs that came in are opened.
-/
import Derived.Test.YthmfmeibjpgokaaHostKit
import Derived.Test.YthmfmeibjpgokaaLineOpen
import Derived.Test.YthmfmeibjpgokaaChecked
import Derived.SizedLaws
namespace Go.Proofs.Ythmfmeibjpgokaa
open Go.RowKit Go.ChangeShapes Go.WideShapes

def pairD {H : Type} (p : PairT) : DataW H := .agg [.lit (.string p.1.data.toList), .lit (.string p.2.data.toList)]

/-- A row of pairs, as data. -/
def PairsD {H : Type} (d : DataW H) (ps : List PairT) : Prop := (d = .nil ∧ ps = []) ∨ ∃ sp, d = .slice (ps.map pairD) sp

section
variable {H : Type} {enc : TypeId × Value → H} {P : Program} {W : World}
theorem open_pairs {t e : TypeId} {f0 f1 : Field} {fuel : Nat} {u : Value} {d : DataW H} {p : List MemPlace} (ht : P.underlying t = some (.slice e)) (he : P.underlying e = some (.struct #[f0, f1]))
    (ce : P.cellsOf e = 2) (o0 : f0.offset = 0) (o1 : f1.offset = 1) (c0 : P.cellsOf f0.type = 1) (c1 : P.cellsOf f1.type = 1) (i0 : P.underlying f0.type = some .string) (i1 : P.underlying f1.type = some .string)
    (h : DataW.trod enc P W 0 (fun _ => true) true fuel t [u] = some (d, p)) : ∃ ps : List PairT, IsPairs W u ps ∧ PairsD d ps := by
  rcases Deep.open_slice_pairs ht he ce o0 o1 c0 c1 h with ⟨hcs, hx⟩ | ⟨a, len, cap, m, n, V0, V1, D0, D1, P0, P1, hcs, _, hl, hm, hmm, hx, hcell⟩
  · obtain rfl : u = .slice none 0 0 := by simpa using hcs
    exact ⟨[], isPairs_nil W, .inl ⟨(Prod.ext_iff.1 hx).1, rfl⟩⟩
  · obtain rfl : u = .slice (some a) len cap := by simpa using hcs
    simp only [if_true] at hmm
    subst hmm
    have each : ∀ i, i < len → ∃ q : PairT, okPair q ∧ V0 i = .string q.1 ∧ V1 i = .string q.2 ∧ D0 i = .lit (.string q.1.data.toList) ∧ D1 i = .lit (.string q.2.data.toList) := by
      intro i hi
      obtain ⟨h1, h2, h3, h4⟩ := hcell i (by omega)
      obtain ⟨s0, g0, x0, b0⟩ := DataW.trod_string i0 h3
      obtain ⟨s1, g1, x1, b1⟩ := DataW.trod_string i1 h4
      exact ⟨(s0, s1), ⟨b0, b1⟩, by simpa using g0, by simpa using g1, (Prod.ext_iff.1 x0).1, (Prod.ext_iff.1 x1).1⟩
    obtain ⟨q, hq⟩ : ∃ q : Nat → PairT, ∀ i, i < len → okPair (q i) ∧ V0 i = .string (q i).1 ∧ V1 i = .string (q i).2 ∧ D0 i = .lit (.string (q i).1.data.toList) ∧ D1 i = .lit (.string (q i).2.data.toList) :=
      ⟨fun i => if hi : i < len then (each i hi).choose else noP, fun i hi => by simp only [hi, dif_pos]; exact (each i hi).choose_spec⟩
    have hL : ((List.range len).map q).length = len := by simp
    have hget : ∀ i, i < len → ((List.range len).map q).getD i noP = q i := fun i hi => by simp [hi]
    refine ⟨(List.range len).map q, ⟨fun x hx => ?_, ?_⟩, .inr ⟨(List.range (m - len)).map fun j => .agg [D0 (len + j), D1 (len + j)], ?_⟩⟩
    · simp only [List.mem_map, List.mem_range] at hx
      obtain ⟨i, hi, rfl⟩ := hx
      exact (hq i hi).1
    · have := isRow_cells (W := W) (sz := 2) hl hm (by omega) (fun j => if j % 2 = 0 then V0 (j / 2) else V1 (j / 2)) (fun j hj => by
        obtain ⟨h1, h2, _⟩ := hcell (j / 2) (by omega)
        by_cases hj2 : j % 2 = 0
        · rw [if_pos hj2, ← h1, show j / 2 * 2 = j by omega]
        · rw [if_neg hj2, ← h2, show j / 2 * 2 + 1 = j by omega])
      rw [hL]
      have key : pairCells ((List.range len).map q) = (List.range (len * 2)).map (fun j => if j % 2 = 0 then V0 (j / 2) else V1 (j / 2)) := ?_
      · rw [key]; exact this
      apply List.ext_getElem?
      intro j
      rw [List.getElem?_map]
      rcases Nat.lt_or_ge j (len * 2) with hj | hj
      · have hi : j / 2 < len := by omega
        obtain ⟨a1, a2⟩ := pairCells_at ((List.range len).map q) (j / 2) (by omega)
        rw [List.getElem?_range hj, Option.map_some]
        by_cases hj2 : j % 2 = 0
        · rw [if_pos hj2]
          conv => lhs; rw [show j = j / 2 * 2 by omega]
          rw [a1, hget _ hi, ← (hq _ hi).2.1]
        · rw [if_neg hj2]
          conv => lhs; rw [show j = j / 2 * 2 + 1 by omega]
          rw [a2, hget _ hi, ← (hq _ hi).2.2.1]
      · rw [List.getElem?_eq_none (by rw [pairCells_length, hL]; exact hj), List.getElem?_eq_none (by simpa using hj)]
        rfl
    · refine ((Prod.ext_iff.1 hx).1 : d = _).trans ?_
      show DataW.slice _ _ = _
      congr 1
      rw [List.map_map]
      apply List.map_congr_left
      intro i hi
      rw [List.mem_range] at hi
      simp only [Function.comp_def, pairD]
      rw [(hq i hi).2.2.2.1, (hq i hi).2.2.2.2]
end

theorem c_hint : Try.prog.cellsOf 3 = 1 := by kernel_rfl
theorem c_hstr : Try.prog.cellsOf 9 = 1 := by kernel_rfl
theorem c_hpairs : Try.prog.cellsOf 22 = 1 := by kernel_rfl
theorem cells_host : Try.prog.cellsOf 24 = 6 := by kernel_rfl
theorem bytes_pair : Try.prog.bytesOf 42 = 32 := by kernel_rfl

/-- Rows of pairs that came in. -/
theorem open_prs {H : Type} {enc : TypeId × Value → H} {W : World} {r : Reach} {b0 : Nat} {v : Value} {d : DataW H} {p : List MemPlace} (hval : Value.okWide Try.prog W r b0 22 v) (h : DataW.Trod enc Try.prog W 0 (fun _ => true) true 22 v d p) :
    ∃ ps, IsPairs W v ps ∧ PairsD d ps := by
  obtain ⟨a0, len0, cap0, rfl⟩ := okWide_slice Try.underlying22 hval
  obtain ⟨fuel, hf⟩ := h
  exact open_pairs Try.underlying22 Try.underlying42 (by kernel_rfl) rfl rfl (by kernel_rfl) (by kernel_rfl) Try.underlying9 Try.underlying9 (by simpa [Value.cells] using hf)

def inI (n : Int) : Prop := -9223372036854775808 ≤ n ∧ n ≤ 9223372036854775807
/-- A host, as data. -/
def hostD {H : Type} (h : HostT) (dm : DataW H) : DataW H := .agg [.lit (.int .i64 h.id), .lit (.string h.addr.data.toList), .lit (.int .i64 h.prio), .lit (.string h.zone.data.toList), .lit (.int .i64 h.weight), dm]

theorem list6v {l : List Value} (h : l.length = 6) : ∃ v0 v1 v2 v3 v4 v5, l = [v0, v1, v2, v3, v4, v5] := by
  match l, h with
  | [v0, v1, v2, v3, v4, v5], _ => exact ⟨v0, v1, v2, v3, v4, v5, rfl⟩
theorem open_host {H : Type} {enc : TypeId × Value → H} {W : World} {r : Reach} {b0 : Nat} {v : Value} {d : DataW H} {p : List MemPlace} (hvl : Value.okWide Try.prog W r b0 24 v) (h : DataW.Trod enc Try.prog W 0 (fun _ => true) true 24 v d p) :
    ∃ (c : HostT) (mv : Value) (dm : DataW H), v = hval c mv ∧ okHost c ∧ (inI c.id ∧ inI c.prio ∧ inI c.weight) ∧ IsPairs W mv c.tags ∧ d = hostD c dm ∧ PairsD dm c.tags := by
  obtain ⟨cs, rfl, _⟩ := okWide_struct Try.underlying24 hvl
  obtain ⟨fuel, hf⟩ := h
  have hf' : DataW.trod enc Try.prog W 0 (fun _ => true) true fuel 24 cs.toList = some (d, p) := hf
  obtain ⟨xs, n, _, hx, hl, hlen, hF⟩ := DataW.trod_struct Try.underlying24 hf'
  obtain ⟨v0, v1, v2, v3, v4, v5, hcs⟩ := list6v (hl.trans cells_host)
  rw [hcs] at hF
  match xs, hlen with
  | [x0, x1, x2, x3, x4, x5], _ =>
    obtain ⟨n0, g0, e0, b0⟩ := DataW.trod_int (k := .i64) (x := x0) Try.underlying3 (hF 0 _ rfl)
    obtain ⟨n1, g1, e1, b1⟩ := DataW.trod_string (x := x1) Try.underlying9 (hF 1 _ rfl)
    obtain ⟨n2, g2, e2, b2⟩ := DataW.trod_int (k := .i64) (x := x2) Try.underlying3 (hF 2 _ rfl)
    obtain ⟨n3, g3, e3, b3⟩ := DataW.trod_string (x := x3) Try.underlying9 (hF 3 _ rfl)
    obtain ⟨n4, g4, e4, b4⟩ := DataW.trod_int (k := .i64) (x := x4) Try.underlying3 (hF 4 _ rfl)
    have f5 : DataW.trod enc Try.prog W 0 (fun _ => true) true n 22 [v5] = some x5 := by simpa [c_hint, c_hstr, c_hpairs] using hF 5 _ rfl
    obtain ⟨d5, p5⟩ := x5
    obtain ⟨ps, h5, h6⟩ := open_pairs Try.underlying22 Try.underlying42 (by kernel_rfl) rfl rfl (by kernel_rfl) (by kernel_rfl) Try.underlying9 Try.underlying9 f5
    refine ⟨⟨n0, n1, n2, n3, n4, ps⟩, v5, d5, ?_, ⟨b1, b3⟩, ⟨bounds_i64 b0, bounds_i64 b2, bounds_i64 b4⟩, h5, ?_, h6⟩
    · have k0 : v0 = .int .i64 n0 := by simpa [c_hint, c_hstr] using g0
      have k1 : v1 = .string n1 := by simpa [c_hint, c_hstr] using g1
      have k2 : v2 = .int .i64 n2 := by simpa [c_hint, c_hstr] using g2
      have k3 : v3 = .string n3 := by simpa [c_hint, c_hstr] using g3
      have k4 : v4 = .int .i64 n4 := by simpa [c_hint, c_hstr] using g4
      show Value.agg cs = .agg _
      congr 1
      apply Array.toList_inj.1
      rw [hcs, k0, k1, k2, k3, k4]
    · have := (Prod.ext_iff.1 hx).1
      simp only at this
      rw [this]
      simp only [hostD, List.map_cons, List.map_nil]
      rw [e0, e1, e2, e3, e4]

/-- What the reach says of rows of pairs. -/
theorem sized_pairs {H : Type} {ts : List TypeId} {ds : List (DataW H)} (h : (DataW.weightsEach Try.prog ts ds).all (· ≤ reachBytes) = true) {j : Nat} {d : DataW H} {ps : List PairT} (ht : ts[j]? = some 22) (hd : ds[j]? = some d) (hp : PairsD d ps) : ps.length ≤ 4398046510976 := by
  rcases hp with ⟨rfl, rfl⟩ | ⟨sp, rfl⟩
  · simp
  · have := sized_slice h ht hd Try.underlying22
    rw [bytes_pair, List.length_map] at this
    simp only [reachBytes] at this
    omega
theorem sized_host {H : Type} {ts : List TypeId} {ds : List (DataW H)} (h : (DataW.weightsEach Try.prog ts ds).all (· ≤ reachBytes) = true) {j : Nat} {c : HostT} {dm : DataW H} (ht : ts[j]? = some 24) (hd : ds[j]? = some (hostD c dm)) (hp : PairsD dm c.tags) : c.tags.length ≤ 4398046510976 := by
  rcases hp with ⟨rfl, e⟩ | ⟨sp, rfl⟩
  · rw [e]; simp
  · have := List.all_eq_true.1 h _ (DataW.weights_mem_each ht hd ((c.tags.length + sp.length) * 32) (by simp [hostD, DataW.weights, DataW.weightsEach, Try.underlying24, Try.underlying22, bytes_pair]))
    rw [decide_eq_true_eq] at this
    simp only [reachBytes] at this
    omega

end Go.Proofs.Ythmfmeibjpgokaa
