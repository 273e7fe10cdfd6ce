/-
  How rows of hosts that came in are opened.
-/
import Derived.Test.YtcafjjfaamjipaaHostOpen
import Derived.Test.YtcafjjfaamjipaaHostsKit
namespace Go.Proofs.Ytcafjjfaamjipaa
open Go.RowKit Go.ChangeShapes Go.WideShapes

section
variable {H : Type} {enc : TypeId × Value → H} {W : World}

/-- Six cells that read as a host. -/
theorem host_cells {fuel : Nat} {cs : List Value} {y : DataW H × List MemPlace} (h : DataW.trod enc Try.prog W 0 (fun _ => true) true fuel 25 cs = some y) :
    ∃ (c : HostT) (mv : Value), cs = (hcells c mv).toList ∧ okHost c ∧ (inI c.id ∧ inI c.prio ∧ inI c.weight) ∧ IsPairs W mv c.tags := by
  obtain ⟨xs, n, _, hx, hl, hlen, hF⟩ := DataW.trod_struct Try.underlying25 h
  obtain ⟨v0, v1, v2, v3, v4, v5, hcs⟩ := list6v (hl.trans cells_host)
  rw [hcs] at hF
  match xs, hlen with
  | [x0, x1, x2, x3, x4, x5], _ =>
    obtain ⟨n0, g0, e0, b0⟩ := DataW.trod_int (k := .i64) (x := x0) Try.underlying3 (hF 0 _ rfl)
    obtain ⟨n1, g1, e1, b1⟩ := DataW.trod_string (x := x1) Try.underlying9 (hF 1 _ rfl)
    obtain ⟨n2, g2, e2, b2⟩ := DataW.trod_int (k := .i64) (x := x2) Try.underlying3 (hF 2 _ rfl)
    obtain ⟨n3, g3, e3, b3⟩ := DataW.trod_string (x := x3) Try.underlying9 (hF 3 _ rfl)
    obtain ⟨n4, g4, e4, b4⟩ := DataW.trod_int (k := .i64) (x := x4) Try.underlying3 (hF 4 _ rfl)
    have f5 : DataW.trod enc Try.prog W 0 (fun _ => true) true n 23 [v5] = some x5 := by simpa [c_hint, c_hstr, c_hpairs] using hF 5 _ rfl
    obtain ⟨d5, p5⟩ := x5
    obtain ⟨ps, h5, h6⟩ := open_pairs Try.underlying23 Try.underlying48 (by kernel_rfl) rfl rfl (by kernel_rfl) (by kernel_rfl) Try.underlying9 Try.underlying9 f5
    refine ⟨⟨n0, n1, n2, n3, n4, ps⟩, v5, ?_, ⟨b1, b3⟩, ⟨bounds_i64 b0, bounds_i64 b2, bounds_i64 b4⟩, h5⟩
    have k0 : v0 = .int .i64 n0 := by simpa [c_hint, c_hstr] using g0
    have k1 : v1 = .string n1 := by simpa [c_hint, c_hstr] using g1
    have k2 : v2 = .int .i64 n2 := by simpa [c_hint, c_hstr] using g2
    have k3 : v3 = .string n3 := by simpa [c_hint, c_hstr] using g3
    have k4 : v4 = .int .i64 n4 := by simpa [c_hint, c_hstr] using g4
    rw [hcs, k0, k1, k2, k3, k4]

/-- Rows of hosts that came in. -/
theorem open_hosts {r : Reach} {b0 : Nat} {v : Value} {d : DataW H} {p : List MemPlace} (hval : Value.okWide Try.prog W r b0 22 v) (h : DataW.Trod enc Try.prog W 0 (fun _ => true) true 22 v d p) :
    ∃ vs hs, IsHosts W v vs hs ∧ ∀ i, i < hs.length → inI (hs.getD i noHost).id := by
  obtain ⟨a0, len0, cap0, rfl⟩ := okWide_slice Try.underlying22 hval
  obtain ⟨fuel, hf⟩ := h
  rcases Deep.open_slice Try.underlying22 hf with ⟨hcs, _⟩ | ⟨a, len, cap, m, n, D, Pl, hcs, _, hl, hm, hmm, hx, hcell⟩
  · simp [Value.cells] at hcs
    obtain ⟨rfl, rfl, rfl⟩ := hcs
    exact ⟨[], [], isHosts_nil W, fun i hi => by simp at hi⟩
  · simp [Value.cells] at hcs
    obtain ⟨rfl, rfl, rfl⟩ := hcs
    simp only [if_true] at hmm
    subst hmm
    have each : ∀ i, i < len0 → ∃ q : HostT × Value, (okHost q.1 ∧ inI q.1.id ∧ IsPairs W q.2 q.1.tags) ∧ ∀ j, j < 6 → W.cell? (a.add (i * 6 + j)) = (hcells q.1 q.2).toList[j]? := fun i hi => by
      obtain ⟨cs', h1, h2⟩ := hcell i (by omega)
      rw [cells_host] at h1
      obtain ⟨_, _, h5⟩ := World.cells?_some h1
      obtain ⟨c, mv, rfl, h6, h7, h8⟩ := host_cells h2
      refine ⟨(c, mv), ⟨h6, h7.1, h8⟩, fun j hj => ?_⟩
      rw [← Deep.add_add]
      exact h5 j (by simpa using hj)
    obtain ⟨q, hq⟩ : ∃ q : Nat → HostT × Value, ∀ i, i < len0 → (okHost (q i).1 ∧ inI (q i).1.id ∧ IsPairs W (q i).2 (q i).1.tags) ∧ ∀ j, j < 6 → W.cell? (a.add (i * 6 + j)) = (hcells (q i).1 (q i).2).toList[j]? :=
      ⟨fun i => if hi : i < len0 then (each i hi).choose else (noHost, nilW), fun i hi => by simp only [hi, dif_pos]; exact (each i hi).choose_spec⟩
    have hL : ((List.range len0).map fun i => (q i).1).length = len0 := by simp
    have hV : ((List.range len0).map fun i => (q i).2).length = ((List.range len0).map fun i => (q i).1).length := by simp
    have hget : ∀ i, i < len0 → ((List.range len0).map fun i => (q i).1).getD i noHost = (q i).1 := fun i hi => by simp [hi]
    have hgetV : ∀ i, i < len0 → ((List.range len0).map fun i => (q i).2).getD i nilW = (q i).2 := fun i hi => by simp [hi]
    have hsz : (hostCells ((List.range len0).map fun i => (q i).1) ((List.range len0).map fun i => (q i).2)).length = len0 * 6 := by rw [hostCells_length _ _ hV, hL]
    refine ⟨(List.range len0).map fun i => (q i).2, (List.range len0).map fun i => (q i).1, ⟨hV, fun i hi => ?_, ?_, fun i hi => ?_⟩, fun i hi => ?_⟩
    · rw [hL] at hi
      rw [hget i hi]
      exact (hq i hi).1.1
    · have key : ∀ j, j < len0 * 6 → W.cell? (a.add j) = (hostCells ((List.range len0).map fun i => (q i).1) ((List.range len0).map fun i => (q i).2))[j]? := fun j hj => by
        have hi : j / 6 < len0 := by omega
        obtain ⟨a0, a1, a2, a3, a4, a5⟩ := hostCells_at _ _ hV (j / 6) (by rw [hL]; exact hi)
        rw [hget _ hi] at a0 a1 a2 a3 a4
        rw [hgetV _ hi] at a5
        have hj' := (hq _ hi).2 (j % 6) (by omega)
        rw [show j / 6 * 6 + j % 6 = j by omega] at hj'
        rw [hj']
        have h6 : j % 6 = 0 ∨ j % 6 = 1 ∨ j % 6 = 2 ∨ j % 6 = 3 ∨ j % 6 = 4 ∨ j % 6 = 5 := by omega
        rcases h6 with e | e | e | e | e | e
        · rw [show j = j / 6 * 6 by omega] ; rw [show (j / 6 * 6) / 6 = j / 6 by omega, show j / 6 * 6 % 6 = 0 by omega, a0]; rfl
        · conv => rhs; rw [show j = j / 6 * 6 + 1 by omega]
          rw [a1, e]; rfl
        · conv => rhs; rw [show j = j / 6 * 6 + 2 by omega]
          rw [a2, e]; rfl
        · conv => rhs; rw [show j = j / 6 * 6 + 3 by omega]
          rw [a3, e]; rfl
        · conv => rhs; rw [show j = j / 6 * 6 + 4 by omega]
          rw [a4, e]; rfl
        · conv => rhs; rw [show j = j / 6 * 6 + 5 by omega]
          rw [a5, e]; rfl
      have row := isRow_cells (W := W) (sz := 6) hl hm (by omega) (fun j => (hostCells ((List.range len0).map fun i => (q i).1) ((List.range len0).map fun i => (q i).2)).getD j nilW) (fun j hj => by
        rw [key j hj, List.getD_eq_getElem?_getD, List.getElem?_eq_getElem (by omega)]; rfl)
      rw [hL]
      have e : (List.range (len0 * 6)).map (fun j => (hostCells ((List.range len0).map fun i => (q i).1) ((List.range len0).map fun i => (q i).2)).getD j nilW) = hostCells ((List.range len0).map fun i => (q i).1) ((List.range len0).map fun i => (q i).2) := by
        apply List.ext_getElem?
        intro j
        rw [List.getElem?_map]
        rcases Nat.lt_or_ge j (len0 * 6) with hj | hj
        · rw [List.getElem?_range hj, Option.map_some, List.getD_eq_getElem?_getD, List.getElem?_eq_getElem (by omega)]; rfl
        · rw [List.getElem?_eq_none (by simpa using hj), List.getElem?_eq_none (by omega)]; rfl
      rw [← e]
      exact row
    · rw [hL] at hi
      rw [hget i hi, hgetV i hi]
      exact (hq i hi).1.2.2
    · rw [hL] at hi
      rw [hget i hi]
      exact (hq i hi).1.2.1
end

end Go.Proofs.Ytcafjjfaamjipaa
