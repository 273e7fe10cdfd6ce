/-
  How rows of hosts and their buckets lie in memory, and how they come in.
-/
import Derived.Test.YtjknflpclniiiaaDoorBase
import Derived.Test.YtjknflpclniiiaaDoorFillRow
import Derived.Test.YtjknflpclniiiaaDoorBucket1
namespace Go.Proofs.YtjknflpclniiiaaDoor
open Go.RowKit Go.ChangeShapes Go.WideShapes

abbrev rcells (x : Rd) : Array Value := #[.int .i64 x.id, .int .i64 x.b.ok, .int .i64 x.b.all]
abbrev rval (x : Rd) : Value := .agg (rcells x)
def rdCells (L : List Rd) : List Value := L.flatMap fun x => [.int .i64 x.id, .int .i64 x.b.ok, .int .i64 x.b.all]
theorem rdCells_length (L : List Rd) : (rdCells L).length = L.length * 3 := by
  induction L with
  | nil => rfl
  | cons k r ih => simp [rdCells] at ih ⊢; omega
theorem rdCells_append (a b : List Rd) : rdCells (a ++ b) = rdCells a ++ rdCells b := by simp [rdCells]
theorem rdCells_get (L : List Rd) (i j : Nat) (h : i < L.length) (hj : j < 3) : (rdCells L)[i * 3 + j]? = (rcells (L.getD i noRd)).toList[j]? := by
  induction L generalizing i with
  | nil => simp at h
  | cons k r ih =>
    have e : rdCells (k :: r) = (rcells k).toList ++ rdCells r := rfl
    cases i with
    | zero =>
      rw [e, Nat.zero_mul, Nat.zero_add, List.getElem?_append_left (by simpa using hj)]
      rfl
    | succ i =>
      have := ih i (by simpa using h)
      rw [e, List.getElem?_append_right (by simp; omega)]
      rw [show (i + 1) * 3 + j - (rcells k).toList.length = i * 3 + j by simp; omega]
      simpa using this
theorem rdCells_one (L : List Rd) : ∀ u ∈ rdCells L, u.oneCell' = true := by
  intro u hu
  simp [rdCells] at hu
  obtain ⟨a, _, h | h | h⟩ := hu <;> subst h <;> rfl
/-- A slice value that holds hosts and their buckets. -/
structure IsRd (w : World) (v : Value) (L : List Rd) : Prop where
  ok : ∀ x ∈ L, inRd x
  row : IsRow 3 w v L.length (rdCells L)
theorem IsRd.below {w w' : World} {v : Value} {L : List Rd} (h : IsRd w v L) (hb : Below w.heap.size w w') : IsRd w' v L := ⟨h.ok, h.row.below hb⟩
theorem IsRd.shaped {w : World} {v : Value} {L : List Rd} (h : IsRd w v L) : ∃ ao cap, v = .slice ao L.length cap := h.row.shaped
theorem isRd_nil (w : World) : IsRd w (.slice none 0 0) [] := ⟨by simp, rfl, ⟨by unfold maxLen; simp, by unfold roomy maxLen; omega⟩, .inl ⟨rfl, _, _, rfl, fun _ => rfl⟩⟩
theorem IsRd.in {w : World} {v : Value} {L : List Rd} (h : IsRd w v L) (i : Nat) (hi : i < L.length) : inRd (L.getD i noRd) := h.ok _ (getD_mem noRd hi)
theorem IsRd.at {w : World} {ao : Option Addr} {n cap : Nat} {L : List Rd} (h : IsRd w (.slice ao n cap) L) (i : Nat) (hi : i < L.length) :
    ∃ b off, ao = some ⟨b, off, none⟩ ∧ b < w.heap.size ∧ w.cell? ⟨b, off + i * 3, none⟩ = some (.int .i64 (L.getD i noRd).id) ∧ w.cell? ⟨b, off + i * 3 + 1, none⟩ = some (.int .i64 (L.getD i noRd).b.ok) ∧ w.cell? ⟨b, off + i * 3 + 2, none⟩ = some (.int .i64 (L.getD i noRd).b.all) := by
  rcases h.row.2.2 with ⟨h0, _⟩ | ⟨_, b, off, c, e, hlt, hc⟩
  · omega
  · simp only [Value.slice.injEq] at e
    have g := fun j (hj : j < 3) => (hc (i * 3 + j) (by omega)).trans (rdCells_get L i j hi hj)
    refine ⟨b, off, e.1, hlt, ?_, ?_, ?_⟩
    · exact g 0 (by omega)
    · rw [Nat.add_assoc]; exact g 1 (by omega)
    · rw [Nat.add_assoc]; exact g 2 (by omega)
theorem IsRd.take {w : World} {ao : Option Addr} {cap : Nat} {L : List Rd} (h : IsRd w (.slice ao L.length cap) L) (k : Nat) (hk : k ≤ L.length) : IsRd w (.slice ao k cap) (L.take k) := by
  refine ⟨fun x hx => h.ok x (List.mem_of_mem_take hx), ?_⟩
  have hr := row_upto h.row k hk
  have e : rdCells (L.take k) = (rdCells L).take (k * 3) := by
    have h1 : rdCells L = rdCells (L.take k) ++ rdCells (L.drop k) := by rw [← rdCells_append, List.take_append_drop]
    have hl : k * 3 = (rdCells (L.take k)).length := by rw [rdCells_length, List.length_take]; omega
    rw [h1, hl, List.take_left]
  rw [e, List.length_take, Nat.min_eq_left hk]
  exact hr
/-- What the call owns, as a row of hosts. -/
theorem own_rd {w : World} {base e n : Nat} {v : Value} {L : List Rd} (h : w.ownsRow base e 3 v n (rdCells L)) (hn : n = L.length) (hk : ∀ x ∈ L, inRd x) : IsRd w v L := by
  subst hn
  exact ⟨hk, isRow_own h⟩
/-- One host, laid down by the call. -/
theorem one_rd (w : World) (x : Rd) (t g : Nat) (hg : g = w.heap.size) : IsRow 3 (w.alloc (.cells #[.int .i64 x.id, .int .i64 x.b.ok, .int .i64 x.b.all] t)) (.slice (some ⟨g, 0, none⟩) 1 1) 1 (rdCells [x]) := by
  subst hg
  exact IsRow.fresh w (rdCells [x]) 3 1 t 1 rfl (by omega) (by unfold maxLen; omega) (by omega)

section
variable {H : Type} {enc : TypeId × Value → H} {W : World}
theorem c_rint : Tryd.prog.cellsOf 3 = 1 := by kernel_rfl
theorem c_rbk : Tryd.prog.cellsOf 37 = 2 := by kernel_rfl
theorem c_rated : Tryd.prog.cellsOf 39 = 3 := by kernel_rfl
theorem infoRated : (Tryd.prog.info? 39).map (fun i => (i.zero, i.size, i.bytes)) = some (some (.agg #[.int .i64 0, .int .i64 0, .int .i64 0]), 3, 24) := by kernel_rfl
theorem list3r {l : List Value} (h : l.length = 3) : ∃ v0 v1 v2, l = [v0, v1, v2] := by
  match l, h with
  | [v0, v1, v2], _ => exact ⟨v0, v1, v2, rfl⟩
theorem list2r {l : List Value} (h : l.length = 2) : ∃ v0 v1, l = [v0, v1] := by
  match l, h with
  | [v0, v1], _ => exact ⟨v0, v1, rfl⟩
theorem bk_trod {fuel : Nat} {cs : List Value} {y : DataW H × List MemPlace} (h : DataW.trod enc Tryd.prog W 0 (fun _ => true) true fuel 37 cs = some y) :
    ∃ q : Bk, cs = [.int .i64 q.ok, .int .i64 q.all] ∧ inBk q := by
  obtain ⟨xs, n, _, hx, hl, hlen, hF⟩ := DataW.trod_struct Tryd.underlying37 h
  obtain ⟨v0, v1, hcs⟩ := list2r (hl.trans c_rbk)
  rw [hcs] at hF
  match xs, hlen with
  | [x0, x1], _ =>
    obtain ⟨n0, g0, _, b0⟩ := DataW.trod_int (k := .i64) (x := x0) Tryd.underlying3 (hF 0 _ rfl)
    obtain ⟨n1, g1, _, b1⟩ := DataW.trod_int (k := .i64) (x := x1) Tryd.underlying3 (hF 1 _ rfl)
    have k0 : v0 = .int .i64 n0 := by simpa [c_rint] using g0
    have k1 : v1 = .int .i64 n1 := by simpa [c_rint] using g1
    exact ⟨⟨n0, n1⟩, by rw [hcs, k0, k1], bounds_i64 b0, bounds_i64 b1⟩
theorem rd_trod {fuel : Nat} {cs : List Value} {y : DataW H × List MemPlace} (h : DataW.trod enc Tryd.prog W 0 (fun _ => true) true fuel 39 cs = some y) :
    ∃ x : Rd, cs = (rcells x).toList ∧ inRd x := by
  obtain ⟨xs, n, _, hx, hl, hlen, hF⟩ := DataW.trod_struct Tryd.underlying39 h
  obtain ⟨v0, v1, v2, hcs⟩ := list3r (hl.trans c_rated)
  rw [hcs] at hF
  match xs, hlen with
  | [x0, x1], _ =>
    obtain ⟨n0, g0, _, b0⟩ := DataW.trod_int (k := .i64) (x := x0) Tryd.underlying3 (hF 0 _ rfl)
    have k0 : v0 = .int .i64 n0 := by simpa [c_rint] using g0
    have f1 : DataW.trod enc Tryd.prog W 0 (fun _ => true) true n 37 [v1, v2] = some x1 := by simpa [c_rint, c_rbk] using hF 1 _ rfl
    obtain ⟨q, e, hq⟩ := bk_trod f1
    simp only [List.cons.injEq, and_true] at e
    obtain ⟨rfl, rfl⟩ := e
    exact ⟨⟨n0, q⟩, by rw [hcs, k0], bounds_i64 b0, hq⟩
theorem open_rated {r : Reach} {b0 : Nat} {v : Value} {d : DataW H} {p : List MemPlace} (hval : Value.okWide Tryd.prog W r b0 25 v) (h : DataW.Trod enc Tryd.prog W 0 (fun _ => true) true 25 v d p) : ∃ L, IsRd W v L := by
  obtain ⟨a0, len0, cap0, rfl⟩ := okWide_slice Tryd.underlying25 hval
  obtain ⟨fuel, hf⟩ := h
  rcases Deep.open_slice Tryd.underlying25 hf with ⟨hcs, _⟩ | ⟨a, len, cap, m, n, D, Pl, hcs, _, hl, hm, hmm, hx, hcell⟩
  · simp [Value.cells] at hcs
    obtain ⟨rfl, rfl, rfl⟩ := hcs
    exact ⟨[], isRd_nil W⟩
  · simp [Value.cells] at hcs
    obtain ⟨rfl, rfl, rfl⟩ := hcs
    simp only [if_true] at hmm
    subst hmm
    have each : ∀ i, i < len0 → ∃ q : Rd, inRd q ∧ ∀ j, j < 3 → W.cell? (a.add (i * 3 + j)) = (rcells q).toList[j]? := fun i hi => by
      obtain ⟨cs', h1, h2⟩ := hcell i (by omega)
      rw [c_rated] at h1
      obtain ⟨_, _, h5⟩ := World.cells?_some h1
      obtain ⟨t, rfl, ht⟩ := rd_trod h2
      exact ⟨t, ht, fun j hj => by rw [← Deep.add_add]; exact h5 j (by simpa using hj)⟩
    obtain ⟨q, hq⟩ : ∃ q : Nat → Rd, ∀ i, i < len0 → inRd (q i) ∧ ∀ j, j < 3 → W.cell? (a.add (i * 3 + j)) = (rcells (q i)).toList[j]? :=
      ⟨fun i => if hi : i < len0 then (each i hi).choose else noRd, fun i hi => by simp only [hi, dif_pos]; exact (each i hi).choose_spec⟩
    refine ⟨(List.range len0).map q, fun t ht => ?_, ?_⟩
    · simp only [List.mem_map, List.mem_range] at ht
      obtain ⟨i, hi, rfl⟩ := ht
      exact (hq i hi).1
    · have := flat_row (W := W) 3 (by omega) rdCells (fun t => (rcells t).toList) noRd rdCells_length rdCells_get hl hm q fun i hi => (hq i hi).2
      rwa [show ((List.range len0).map q).length = len0 by simp]
/-- A slice of numbers that came in. -/
theorem open_nums {r : Reach} {b0 : Nat} {v : Value} {d : DataW H} {p : List MemPlace} (hval : Value.okWide Tryd.prog W r b0 22 v) (h : DataW.Trod enc Tryd.prog W 0 (fun _ => true) true 22 v d p) : ∃ zs, IsInts W v zs ∧ roomy v ∧ zs.length ≤ maxLen := by
  obtain ⟨a0, len0, cap0, rfl⟩ := okWide_slice Tryd.underlying22 hval
  obtain ⟨fuel, hf⟩ := h
  rcases open_ints Tryd.underlying22 Tryd.underlying3 (by kernel_rfl) hf with ⟨hcs, _⟩ | ⟨x, l, c, zs, hcs, _, hl, hm, hz, hx, hcell, hwz⟩
  · simp [Value.cells] at hcs
    obtain ⟨rfl, rfl, rfl⟩ := hcs
    exact ⟨[], isInts_nil W, by unfold roomy maxLen; omega, by simp⟩
  · simp [Value.cells] at hcs
    obtain ⟨rfl, rfl, rfl⟩ := hcs
    simp only [Prod.mk.injEq] at hx
    obtain ⟨rfl, rfl⟩ := hx
    have h1 := isInts_row (w := W) hl hm (by simpa using hz) hcell hwz
    obtain ⟨ao, cp, e⟩ := h1.shape
    simp only [Value.slice.injEq] at e
    exact ⟨_, h1, ⟨hl, hm⟩, by omega⟩
end

end Go.Proofs.YtjknflpclniiiaaDoor
