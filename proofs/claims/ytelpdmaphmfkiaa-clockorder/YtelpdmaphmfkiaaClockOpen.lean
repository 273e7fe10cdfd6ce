/-
  How timers, calls and rows of them that came in are opened.
-/
import Derived.Test.YtelpdmaphmfkiaaTimerKit
import Derived.Test.YtelpdmaphmfkiaaLineOpen
import Derived.Test.YtelpdmaphmfkiaaChecked
import Derived.SizedLaws
namespace Go.Proofs.Ytelpdmaphmfkiaa
open Go.RowKit Go.ChangeShapes Go.WideShapes

/-- A call: what it does, and its timer. -/
structure CallT where
  do_ : Int
  t : TimerT
deriving DecidableEq
abbrev noCall : CallT := ⟨0, noTimer⟩
def inC (c : CallT) : Prop := (-9223372036854775808 ≤ c.do_ ∧ c.do_ ≤ 9223372036854775807) ∧ inT c.t
abbrev ccells (c : CallT) : Array Value := #[.int .i64 c.do_, .int .i64 c.t.at_, .int .i64 c.t.kind, .int .i64 c.t.id]
abbrev cval (c : CallT) : Value := .agg (ccells c)
def callCells (L : List CallT) : List Value := L.flatMap fun c => (ccells c).toList
theorem callCells_length (L : List CallT) : (callCells L).length = L.length * 4 := by
  induction L with
  | nil => rfl
  | cons k r ih => simp [callCells] at ih ⊢; omega
theorem callCells_at (L : List CallT) (i j : Nat) (h : i < L.length) (hj : j < 4) : (callCells L)[i * 4 + j]? = (ccells (L.getD i noCall)).toList[j]? := by
  induction L generalizing i with
  | nil => simp at h
  | cons k r ih =>
    have e : callCells (k :: r) = (ccells k).toList ++ callCells r := rfl
    cases i with
    | zero =>
      rw [e, Nat.zero_mul, Nat.zero_add, List.getElem?_append_left (by simpa using hj)]
      rfl
    | succ i =>
      have := ih i (by simpa using h)
      rw [e, List.getElem?_append_right (by simp; omega)]
      rw [show (i + 1) * 4 + j - (ccells k).toList.length = i * 4 + j by simp; omega]
      simpa using this
theorem timerCells_get (L : List TimerT) (i j : Nat) (h : i < L.length) (hj : j < 3) : (timerCells L)[i * 3 + j]? = (tcells (L.getD i noTimer)).toList[j]? := by
  obtain ⟨a0, a1, a2⟩ := timerCells_at L i h
  have : j = 0 ∨ j = 1 ∨ j = 2 := by omega
  rcases this with rfl | rfl | rfl
  · rw [Nat.add_zero, a0]; rfl
  · rw [a1]; rfl
  · rw [a2]; rfl

/-- A slice value that holds calls. -/
structure IsCalls (w : World) (v : Value) (L : List CallT) : Prop where
  ok : ∀ c ∈ L, inC c
  row : IsRow 4 w v L.length (callCells L)
theorem IsCalls.below {w w' : World} {v : Value} {L : List CallT} (h : IsCalls w v L) (hb : Below w.heap.size w w') : IsCalls w' v L := ⟨h.ok, h.row.below hb⟩
theorem IsCalls.shaped {w : World} {v : Value} {L : List CallT} (h : IsCalls w v L) : ∃ ao cap, v = .slice ao L.length cap := h.row.shaped
theorem IsCalls.at {w : World} {ao : Option Addr} {n cap : Nat} {L : List CallT} (h : IsCalls w (.slice ao n cap) L) (i : Nat) (hi : i < L.length) :
    ∃ b off, ao = some ⟨b, off, none⟩ ∧ b < w.heap.size ∧ w.cell? ⟨b, off + i * 4, none⟩ = some (.int .i64 (L.getD i noCall).do_) ∧ w.cell? ⟨b, off + i * 4 + 1, none⟩ = some (.int .i64 (L.getD i noCall).t.at_) ∧ w.cell? ⟨b, off + i * 4 + 2, none⟩ = some (.int .i64 (L.getD i noCall).t.kind) ∧ w.cell? ⟨b, off + i * 4 + 3, none⟩ = some (.int .i64 (L.getD i noCall).t.id) := by
  rcases h.row.2.2 with ⟨h0, _⟩ | ⟨_, b, off, c, e, hlt, hc⟩
  · omega
  · simp only [Value.slice.injEq] at e
    have g := fun j (hj : j < 4) => (hc (i * 4 + j) (by omega)).trans (callCells_at L i j hi hj)
    refine ⟨b, off, e.1, hlt, ?_, ?_, ?_, ?_⟩
    · exact g 0 (by omega)
    · rw [Nat.add_assoc]; exact g 1 (by omega)
    · rw [Nat.add_assoc]; exact g 2 (by omega)
    · rw [Nat.add_assoc]; exact g 3 (by omega)

section
variable {H : Type} {enc : TypeId × Value → H} {W : World}
theorem c_tint : Try.prog.cellsOf 3 = 1 := by kernel_rfl
theorem c_timer : Try.prog.cellsOf 29 = 3 := by kernel_rfl
theorem c_call : Try.prog.cellsOf 31 = 4 := by kernel_rfl
theorem bytes_timer : Try.prog.bytesOf 29 = 24 := by kernel_rfl
theorem bytes_call : Try.prog.bytesOf 31 = 32 := by kernel_rfl

theorem list3v {l : List Value} (h : l.length = 3) : ∃ v0 v1 v2, l = [v0, v1, v2] := by
  match l, h with
  | [v0, v1, v2], _ => exact ⟨v0, v1, v2, rfl⟩
theorem list4v {l : List Value} (h : l.length = 4) : ∃ v0 v1 v2 v3, l = [v0, v1, v2, v3] := by
  match l, h with
  | [v0, v1, v2, v3], _ => exact ⟨v0, v1, v2, v3, rfl⟩

theorem timer_trod {fuel : Nat} {cs : List Value} {y : DataW H × List MemPlace} (h : DataW.trod enc Try.prog W 0 (fun _ => true) true fuel 29 cs = some y) :
    ∃ t : TimerT, cs = (tcells t).toList ∧ inT t := by
  obtain ⟨xs, n, _, hx, hl, hlen, hF⟩ := DataW.trod_struct Try.underlying29 h
  obtain ⟨v0, v1, v2, hcs⟩ := list3v (hl.trans c_timer)
  rw [hcs] at hF
  match xs, hlen with
  | [x0, x1, x2], _ =>
    obtain ⟨n0, g0, _, b0⟩ := DataW.trod_int (k := .i64) (x := x0) Try.underlying3 (hF 0 _ rfl)
    obtain ⟨n1, g1, _, b1⟩ := DataW.trod_int (k := .i64) (x := x1) Try.underlying3 (hF 1 _ rfl)
    obtain ⟨n2, g2, _, b2⟩ := DataW.trod_int (k := .i64) (x := x2) Try.underlying3 (hF 2 _ rfl)
    have k0 : v0 = .int .i64 n0 := by simpa [c_tint] using g0
    have k1 : v1 = .int .i64 n1 := by simpa [c_tint] using g1
    have k2 : v2 = .int .i64 n2 := by simpa [c_tint] using g2
    exact ⟨⟨n0, n1, n2⟩, by rw [hcs, k0, k1, k2], bounds_i64 b0, bounds_i64 b1, bounds_i64 b2⟩
theorem call_trod {fuel : Nat} {cs : List Value} {y : DataW H × List MemPlace} (h : DataW.trod enc Try.prog W 0 (fun _ => true) true fuel 31 cs = some y) :
    ∃ c : CallT, cs = (ccells c).toList ∧ inC c := by
  obtain ⟨xs, n, _, hx, hl, hlen, hF⟩ := DataW.trod_struct Try.underlying31 h
  obtain ⟨v0, v1, v2, v3, hcs⟩ := list4v (hl.trans c_call)
  rw [hcs] at hF
  match xs, hlen with
  | [x0, x1], _ =>
    obtain ⟨n0, g0, _, b0⟩ := DataW.trod_int (k := .i64) (x := x0) Try.underlying3 (hF 0 _ rfl)
    have k0 : v0 = .int .i64 n0 := by simpa [c_tint] using g0
    have f1 : DataW.trod enc Try.prog W 0 (fun _ => true) true n 29 [v1, v2, v3] = some x1 := by simpa [c_tint, c_timer] using hF 1 _ rfl
    obtain ⟨t, e, ht⟩ := timer_trod f1
    simp only [List.cons.injEq, and_true] at e
    obtain ⟨rfl, rfl, rfl⟩ := e
    exact ⟨⟨n0, t⟩, by rw [hcs, k0], bounds_i64 b0, ht⟩

/-- A timer, a call that came in. -/
theorem open_timer {r : Reach} {b0 : Nat} {v : Value} {d : DataW H} {p : List MemPlace} (hval : Value.okWide Try.prog W r b0 29 v) (h : DataW.Trod enc Try.prog W 0 (fun _ => true) true 29 v d p) : ∃ t, v = tval t ∧ inT t := by
  obtain ⟨cs, rfl, _⟩ := okWide_struct Try.underlying29 hval
  obtain ⟨fuel, hf⟩ := h
  obtain ⟨t, e, ht⟩ := timer_trod (show DataW.trod enc Try.prog W 0 (fun _ => true) true fuel 29 cs.toList = some (d, p) from hf)
  exact ⟨t, congrArg Value.agg (Array.toList_inj.1 e), ht⟩
theorem open_call {r : Reach} {b0 : Nat} {v : Value} {d : DataW H} {p : List MemPlace} (hval : Value.okWide Try.prog W r b0 31 v) (h : DataW.Trod enc Try.prog W 0 (fun _ => true) true 31 v d p) : ∃ c, v = cval c ∧ inC c := by
  obtain ⟨cs, rfl, _⟩ := okWide_struct Try.underlying31 hval
  obtain ⟨fuel, hf⟩ := h
  obtain ⟨c, e, hc⟩ := call_trod (show DataW.trod enc Try.prog W 0 (fun _ => true) true fuel 31 cs.toList = some (d, p) from hf)
  exact ⟨c, congrArg Value.agg (Array.toList_inj.1 e), hc⟩

/-- Rows of flat elements that came in: the cells one behind the other. -/
theorem flat_row {α : Type} (sz : Nat) (hs : 0 < sz) (cells : List α → List Value) (one : α → List Value) (d : α) (hlen : ∀ L, (cells L).length = L.length * sz) (hat : ∀ L i j, i < L.length → j < sz → (cells L)[i * sz + j]? = (one (L.getD i d))[j]?)
    {a : Addr} {len cap : Nat} (hl : len ≤ cap) (hm : cap ≤ maxLen) (q : Nat → α) (hq : ∀ i, i < len → ∀ j, j < sz → W.cell? (a.add (i * sz + j)) = (one (q i))[j]?) :
    IsRow sz W (.slice (some a) len cap) len (cells ((List.range len).map q)) := by
  have hL : ((List.range len).map q).length = len := by simp
  have hcl := hlen ((List.range len).map q)
  rw [hL] at hcl
  have key : ∀ j, j < len * sz → W.cell? (a.add j) = (cells ((List.range len).map q))[j]? := fun j hj => by
    have hi : j / sz < len := Nat.div_lt_of_lt_mul (by rw [Nat.mul_comm]; exact hj)
    have hr : j % sz < sz := Nat.mod_lt _ hs
    have e : j / sz * sz + j % sz = j := by rw [Nat.mul_comm]; exact Nat.div_add_mod j sz
    have h1 := hq (j / sz) hi (j % sz) hr
    have h2 := hat ((List.range len).map q) (j / sz) (j % sz) (by rw [hL]; exact hi) hr
    rw [e] at h1 h2
    rw [h1, h2]
    have : ((List.range len).map q).getD (j / sz) d = q (j / sz) := by simp [hi]
    rw [this]
  have row := isRow_cells (W := W) (sz := sz) hl hm hs (fun j => (cells ((List.range len).map q)).getD j nilW) (fun j hj => by
    rw [key j hj, List.getD_eq_getElem?_getD, List.getElem?_eq_getElem (by omega)]; rfl)
  have e : (List.range (len * sz)).map (fun j => (cells ((List.range len).map q)).getD j nilW) = cells ((List.range len).map q) := by
    apply List.ext_getElem?
    intro j
    rw [List.getElem?_map]
    rcases Nat.lt_or_ge j (len * sz) with hj | hj
    · rw [List.getElem?_range hj, Option.map_some, List.getD_eq_getElem?_getD, List.getElem?_eq_getElem (by omega)]; rfl
    · rw [List.getElem?_eq_none (by simpa using hj), List.getElem?_eq_none (by omega)]; rfl
  rw [← e]
  exact row
theorem open_timers {r : Reach} {b0 : Nat} {v : Value} {d : DataW H} {p : List MemPlace} (hval : Value.okWide Try.prog W r b0 40 v) (h : DataW.Trod enc Try.prog W 0 (fun _ => true) true 40 v d p) : ∃ L, IsTimers W v L := by
  obtain ⟨a0, len0, cap0, rfl⟩ := okWide_slice Try.underlying40 hval
  obtain ⟨fuel, hf⟩ := h
  rcases Deep.open_slice Try.underlying40 hf with ⟨hcs, _⟩ | ⟨a, len, cap, m, n, D, Pl, hcs, _, hl, hm, hmm, hx, hcell⟩
  · simp [Value.cells] at hcs
    obtain ⟨rfl, rfl, rfl⟩ := hcs
    exact ⟨[], isTimers_nil W⟩
  · simp [Value.cells] at hcs
    obtain ⟨rfl, rfl, rfl⟩ := hcs
    simp only [if_true] at hmm
    subst hmm
    have each : ∀ i, i < len0 → ∃ q : TimerT, inT q ∧ ∀ j, j < 3 → W.cell? (a.add (i * 3 + j)) = (tcells q).toList[j]? := fun i hi => by
      obtain ⟨cs', h1, h2⟩ := hcell i (by omega)
      rw [c_timer] at h1
      obtain ⟨_, _, h5⟩ := World.cells?_some h1
      obtain ⟨t, rfl, ht⟩ := timer_trod h2
      exact ⟨t, ht, fun j hj => by rw [← Deep.add_add]; exact h5 j (by simpa using hj)⟩
    obtain ⟨q, hq⟩ : ∃ q : Nat → TimerT, ∀ i, i < len0 → inT (q i) ∧ ∀ j, j < 3 → W.cell? (a.add (i * 3 + j)) = (tcells (q i)).toList[j]? :=
      ⟨fun i => if hi : i < len0 then (each i hi).choose else noTimer, fun i hi => by simp only [hi, dif_pos]; exact (each i hi).choose_spec⟩
    refine ⟨(List.range len0).map q, fun t ht => ?_, ?_⟩
    · simp only [List.mem_map, List.mem_range] at ht
      obtain ⟨i, hi, rfl⟩ := ht
      exact (hq i hi).1
    · have := flat_row (W := W) 3 (by omega) timerCells (fun t => (tcells t).toList) noTimer timerCells_length timerCells_get hl hm q fun i hi => (hq i hi).2
      rwa [show ((List.range len0).map q).length = len0 by simp]
theorem open_calls {r : Reach} {b0 : Nat} {v : Value} {d : DataW H} {p : List MemPlace} (hval : Value.okWide Try.prog W r b0 22 v) (h : DataW.Trod enc Try.prog W 0 (fun _ => true) true 22 v d p) : ∃ L, IsCalls W v L := by
  obtain ⟨a0, len0, cap0, rfl⟩ := okWide_slice Try.underlying22 hval
  obtain ⟨fuel, hf⟩ := h
  rcases Deep.open_slice Try.underlying22 hf with ⟨hcs, _⟩ | ⟨a, len, cap, m, n, D, Pl, hcs, _, hl, hm, hmm, hx, hcell⟩
  · simp [Value.cells] at hcs
    obtain ⟨rfl, rfl, rfl⟩ := hcs
    exact ⟨[], by simp, rfl, ⟨by unfold maxLen; simp, by unfold roomy maxLen; omega⟩, .inl ⟨rfl, _, _, rfl, fun _ => rfl⟩⟩
  · simp [Value.cells] at hcs
    obtain ⟨rfl, rfl, rfl⟩ := hcs
    simp only [if_true] at hmm
    subst hmm
    have each : ∀ i, i < len0 → ∃ q : CallT, inC q ∧ ∀ j, j < 4 → W.cell? (a.add (i * 4 + j)) = (ccells q).toList[j]? := fun i hi => by
      obtain ⟨cs', h1, h2⟩ := hcell i (by omega)
      rw [c_call] at h1
      obtain ⟨_, _, h5⟩ := World.cells?_some h1
      obtain ⟨c, rfl, hc⟩ := call_trod h2
      exact ⟨c, hc, fun j hj => by rw [← Deep.add_add]; exact h5 j (by simpa using hj)⟩
    obtain ⟨q, hq⟩ : ∃ q : Nat → CallT, ∀ i, i < len0 → inC (q i) ∧ ∀ j, j < 4 → W.cell? (a.add (i * 4 + j)) = (ccells (q i)).toList[j]? :=
      ⟨fun i => if hi : i < len0 then (each i hi).choose else noCall, fun i hi => by simp only [hi, dif_pos]; exact (each i hi).choose_spec⟩
    refine ⟨(List.range len0).map q, fun c hc => ?_, ?_⟩
    · simp only [List.mem_map, List.mem_range] at hc
      obtain ⟨i, hi, rfl⟩ := hc
      exact (hq i hi).1
    · have := flat_row (W := W) 4 (by omega) callCells (fun c => (ccells c).toList) noCall callCells_length callCells_at hl hm q fun i hi => (hq i hi).2
      rwa [show ((List.range len0).map q).length = len0 by simp]
end

end Go.Proofs.Ytelpdmaphmfkiaa
