/-
  How a slice of keys, and a key, that came in are opened. No program stands in it.
-/
import Derived.Test.YtciolgnmdlgilaaKeyKit
import Derived.Deep.SlicePairs
import Derived.Lib.SmallJoins
namespace Go.Proofs.Ytciolgnmdlgilaa
open Go.RowKit Go.ChangeShapes Go.WideShapes

section
variable {H : Type} {enc : TypeId × Value → H} {P : Program} {W : World}

theorem open_keys {t e : TypeId} {f0 f1 : Field} {v : Value} {d : DataW H} {p : List MemPlace} (ht : P.underlying t = some (.slice e)) (he : P.underlying e = some (.struct #[f0, f1]))
    (ce : P.cellsOf e = 2) (o0 : f0.offset = 0) (o1 : f1.offset = 1) (c0 : P.cellsOf f0.type = 1) (c1 : P.cellsOf f1.type = 1) (i0 : P.underlying f0.type = some (.int .i64)) (i1 : P.underlying f1.type = some (.int .i64))
    {r : Reach} {b0 : Nat} (hval : Value.okWide P W r b0 t v) (h : DataW.Trod enc P W 0 (fun _ => true) true t v d p) :
    ∃ ks : List (Int × Int), (ks.length ≤ 4611686018427387903 → IsKeys W v ks) ∧ (ks = [] ∨ ∃ elems spare, d = .slice elems spare ∧ elems.length = ks.length) := by
  obtain ⟨a0, len0, cap0, rfl⟩ := okWide_slice ht hval
  obtain ⟨fuel, hf⟩ := h
  rcases Deep.open_slice_pairs ht he ce o0 o1 c0 c1 hf with ⟨hcs, _⟩ | ⟨a, len, cap, m, n, V0, V1, D0, D1, P0, P1, hcs, _, hl, hm, hmm, hx, hcell⟩
  · simp [Value.cells] at hcs
    obtain ⟨rfl, rfl, rfl⟩ := hcs
    exact ⟨[], fun _ => isKeys_nil W, .inl rfl⟩
  · simp [Value.cells] at hcs
    obtain ⟨rfl, rfl, rfl⟩ := hcs
    simp only [if_true] at hmm
    subst hmm
    have each : ∀ i, i < len0 → ∃ k : Int × Int, inK k ∧ W.cell? (a.add (i * 2)) = some (.int .i64 k.1) ∧ W.cell? (a.add (i * 2 + 1)) = some (.int .i64 k.2) := by
      intro i hi
      obtain ⟨h1, h2, h3, h4⟩ := hcell i (by omega)
      obtain ⟨z0, e0, _, w0⟩ := DataW.trod_int i0 h3
      obtain ⟨z1, e1, _, w1⟩ := DataW.trod_int i1 h4
      simp at e0 e1
      rw [e0] at h1
      rw [e1] at h2
      exact ⟨(z0, z1), ⟨bounds_i64 w0, bounds_i64 w1⟩, h1, h2⟩
    obtain ⟨q, hq⟩ : ∃ q : Nat → Int × Int, ∀ i, i < len0 → inK (q i) ∧ W.cell? (a.add (i * 2)) = some (.int .i64 (q i).1) ∧ W.cell? (a.add (i * 2 + 1)) = some (.int .i64 (q i).2) :=
      ⟨fun i => if hi : i < len0 then (each i hi).choose else (0, 0), fun i hi => by simp only [hi, dif_pos]; exact (each i hi).choose_spec⟩
    have hlen : ((List.range len0).map q).length = len0 := by simp
    have hget : ∀ i, i < len0 → ((List.range len0).map q).getD i (0, 0) = q i := fun i hi => by simp [hi]
    refine ⟨(List.range len0).map q, fun hb => ⟨?_, ⟨hb, hl, hm⟩, ?_⟩, .inr ⟨_, _, (Prod.ext_iff.1 hx).1, by simp⟩⟩
    · intro k hk
      simp only [List.mem_map, List.mem_range] at hk
      obtain ⟨i, hi, rfl⟩ := hk
      exact (hq i hi).1
    · by_cases h0 : len0 = 0
      · subst h0
        exact .inl ⟨by simp, _, _, rfl, fun h => by cases h⟩
      · obtain ⟨b, off, spot⟩ := a
        have hc := (hq 0 (by omega)).2.1
        have hspot : spot = none := by simpa [Addr.add] using World.cell?_spot hc
        subst hspot
        refine .inr ⟨fun h => by rw [h] at hlen; simp at hlen; omega, b, off, _, by rw [hlen], ?_, fun i hi => ?_⟩
        · have hc0 : W.cell? ⟨b, off, none⟩ = some (.int .i64 (q 0).1) := by simpa [Addr.add] using hc
          exact World.block_lt_of_cell? _ _ hc0
        · rw [hlen] at hi
          rw [hget i hi]
          obtain ⟨_, h1, h2⟩ := hq i hi
          refine ⟨?_, ?_⟩
          · by_cases e0 : i = 0
            · subst e0; simpa [Addr.add] using h1
            · have : i * 2 ≠ 0 := by omega
              simpa [Addr.add, this, e0] using h1
          · rw [Nat.add_assoc]
            simpa [Addr.add] using h2

theorem open_key {t : TypeId} {f0 f1 : Field} {v : Value} {d : DataW H} {p : List MemPlace} (hs : P.underlying t = some (.struct #[f0, f1])) (hone : Go.Deep.oneCellFields P #[f0, f1] = true) (hC : P.cellsOf t = 2)
    (i0 : P.underlying f0.type = some (.int .i64)) (i1 : P.underlying f1.type = some (.int .i64)) {r : Reach} {b0 : Nat} (hval : Value.okWide P W r b0 t v) (h : DataW.Trod enc P W 0 (fun _ => true) true t v d p) :
    ∃ k : Int × Int, v = kval k ∧ inK k ∧ p = [] := by
  obtain ⟨v0, v1, y0, y1, n, rfl, _, hp, h0, h1⟩ := Go.Joins.open_agg2 hs hone hC hval h
  obtain ⟨z0, e0, x0, w0⟩ := DataW.trod_int i0 h0
  obtain ⟨z1, e1, x1, w1⟩ := DataW.trod_int i1 h1
  simp at e0 e1
  refine ⟨(z0, z1), by rw [e0, e1]; rfl, ⟨bounds_i64 w0, bounds_i64 w1⟩, ?_⟩
  rw [hp, x0, x1]
  rfl
end

end Go.Proofs.Ytciolgnmdlgilaa
