/-
  How a probing and a row of yeses and noes that came in are opened.
-/
import Derived.Test.YtejjilnanmomcaaDoorRowKit
import Derived.Test.YtejjilnanmomcaaDoorChecked
import Derived.WalkSmall
import Derived.BigQuiet
import Derived.SizedLaws
import Derived.Deep.SlicePairs
namespace Go.Proofs.YtejjilnanmomcaaDoor
open Go.RowKit Go.ChangeShapes Go.WideShapes

/-- What is known of a host by its probes. -/
structure ProbeT where
  up : Bool
  run : Int
  forced : Int
  wait : Int
deriving DecidableEq
def inP (p : ProbeT) : Prop := (-9223372036854775808 ≤ p.run ∧ p.run ≤ 9223372036854775807) ∧ (-9223372036854775808 ≤ p.forced ∧ p.forced ≤ 9223372036854775807) ∧ (-9223372036854775808 ≤ p.wait ∧ p.wait ≤ 9223372036854775807)
abbrev pcells (p : ProbeT) : Array Value := #[.bool p.up, .int .i64 p.run, .int .i64 p.forced, .int .i64 p.wait]
abbrev pval (p : ProbeT) : Value := .agg (pcells p)
/-- A slice value that holds yeses and noes. -/
def IsBools (w : World) (v : Value) (l : List Bool) : Prop := IsRow 1 w v l.length (l.map Value.bool)
theorem IsBools.below {w w' : World} {v : Value} {l : List Bool} (h : IsBools w v l) (hb : Below w.heap.size w w') : IsBools w' v l := IsRow.below h hb
theorem IsBools.at {w : World} {ao : Option Addr} {n cap : Nat} {l : List Bool} (h : IsBools w (.slice ao n cap) l) (i : Nat) (hi : i < l.length) :
    ∃ b off, ao = some ⟨b, off, none⟩ ∧ b < w.heap.size ∧ w.cell? ⟨b, off + i, none⟩ = some (.bool (l.getD i false)) := by
  rcases h.2.2 with ⟨h0, _⟩ | ⟨_, b, off, c, e, hlt, hc⟩
  · omega
  · simp only [Value.slice.injEq] at e
    refine ⟨b, off, e.1, hlt, ?_⟩
    rw [hc i (by omega)]
    simp [hi]
theorem IsBools.shaped {w : World} {v : Value} {l : List Bool} (h : IsBools w v l) : ∃ ao cap, v = .slice ao l.length cap := by
  rcases h.2.2 with ⟨h0, ao, cap, rfl, _⟩ | ⟨_, b, off, cap, rfl, _⟩
  · exact ⟨ao, cap, by rw [h0]⟩
  · exact ⟨_, cap, rfl⟩

section
variable {H : Type} {enc : TypeId × Value → H} {W : World}
theorem c_pint : Tryd.prog.cellsOf 3 = 1 := by kernel_rfl
theorem c_pbool : Tryd.prog.cellsOf 4 = 1 := by kernel_rfl
theorem c_probing : Tryd.prog.cellsOf 25 = 4 := by kernel_rfl
theorem list4p {l : List Value} (h : l.length = 4) : ∃ v0 v1 v2 v3, l = [v0, v1, v2, v3] := by
  match l, h with
  | [v0, v1, v2, v3], _ => exact ⟨v0, v1, v2, v3, rfl⟩

theorem open_probing {r : Reach} {b0 : Nat} {v : Value} {d : DataW H} {p : List MemPlace} (hval : Value.okWide Tryd.prog W r b0 25 v) (h : DataW.Trod enc Tryd.prog W 0 (fun _ => true) true 25 v d p) : ∃ q, v = pval q ∧ inP q := by
  obtain ⟨cs, rfl, _⟩ := okWide_struct Tryd.underlying25 hval
  obtain ⟨fuel, hf⟩ := h
  have hf' : DataW.trod enc Tryd.prog W 0 (fun _ => true) true fuel 25 cs.toList = some (d, p) := hf
  obtain ⟨xs, n, _, hx, hl, hlen, hF⟩ := DataW.trod_struct Tryd.underlying25 hf'
  obtain ⟨v0, v1, v2, v3, hcs⟩ := list4p (hl.trans c_probing)
  rw [hcs] at hF
  match xs, hlen with
  | [x0, x1, x2, x3], _ =>
    obtain ⟨q0, g0, _⟩ := DataW.trod_bool (x := x0) Tryd.underlying4 (hF 0 _ rfl)
    obtain ⟨n1, g1, _, b1⟩ := DataW.trod_int (k := .i64) (x := x1) Tryd.underlying3 (hF 1 _ rfl)
    obtain ⟨n2, g2, _, b2⟩ := DataW.trod_int (k := .i64) (x := x2) Tryd.underlying3 (hF 2 _ rfl)
    obtain ⟨n3, g3, _, b3⟩ := DataW.trod_int (k := .i64) (x := x3) Tryd.underlying3 (hF 3 _ rfl)
    have k0 : v0 = .bool q0 := by simpa [c_pint, c_pbool] using g0
    have k1 : v1 = .int .i64 n1 := by simpa [c_pint, c_pbool] using g1
    have k2 : v2 = .int .i64 n2 := by simpa [c_pint, c_pbool] using g2
    have k3 : v3 = .int .i64 n3 := by simpa [c_pint, c_pbool] using g3
    exact ⟨⟨q0, n1, n2, n3⟩, congrArg Value.agg (Array.toList_inj.1 (by rw [hcs, k0, k1, k2, k3])), bounds_i64 b1, bounds_i64 b2, bounds_i64 b3⟩
theorem open_bools {r : Reach} {b0 : Nat} {v : Value} {d : DataW H} {p : List MemPlace} (hval : Value.okWide Tryd.prog W r b0 26 v) (h : DataW.Trod enc Tryd.prog W 0 (fun _ => true) true 26 v d p) : ∃ l, IsBools W v l := by
  obtain ⟨a0, len0, cap0, rfl⟩ := okWide_slice Tryd.underlying26 hval
  obtain ⟨fuel, hf⟩ := h
  rcases Deep.open_slice Tryd.underlying26 hf with ⟨hcs, _⟩ | ⟨a, len, cap, m, n, D, Pl, hcs, _, hl, hm, hmm, hx, hcell⟩
  · simp [Value.cells] at hcs
    obtain ⟨rfl, rfl, rfl⟩ := hcs
    exact ⟨[], rfl, ⟨by unfold maxLen; simp, by unfold roomy maxLen; omega⟩, .inl ⟨rfl, _, _, rfl, fun _ => rfl⟩⟩
  · simp [Value.cells] at hcs
    obtain ⟨rfl, rfl, rfl⟩ := hcs
    simp only [if_true] at hmm
    subst hmm
    have each : ∀ i, i < len0 → ∃ q : Bool, W.cell? (a.add i) = some (.bool q) := fun i hi => by
      obtain ⟨cs', h1, h2⟩ := hcell i (by omega)
      rw [c_pbool] at h1
      obtain ⟨_, _, h5⟩ := World.cells?_some h1
      obtain ⟨q, rfl, _⟩ := DataW.trod_bool Tryd.underlying4 h2
      have := h5 0 (by simp)
      rw [Deep.add_add, Nat.mul_one, Nat.add_zero] at this
      exact ⟨q, by simpa using this⟩
    obtain ⟨q, hq⟩ : ∃ q : Nat → Bool, ∀ i, i < len0 → W.cell? (a.add i) = some (.bool (q i)) :=
      ⟨fun i => if hi : i < len0 then (each i hi).choose else false, fun i hi => by simp only [hi, dif_pos]; exact (each i hi).choose_spec⟩
    refine ⟨(List.range len0).map q, ?_⟩
    have hlen : ((List.range len0).map q).length = len0 := by simp
    unfold IsBools
    rw [hlen]
    refine ⟨by simp, ⟨Nat.le_trans hl hm, hl, hm⟩, ?_⟩
    by_cases h0 : len0 = 0
    · subst h0
      exact .inl ⟨rfl, _, _, rfl, fun e => by cases e⟩
    · obtain ⟨b, off, spot⟩ := a
      have hc0 := hq 0 (by omega)
      have hspot : spot = none := by simpa [Addr.add] using World.cell?_spot hc0
      subst hspot
      have hadd : ∀ j, (⟨b, off, none⟩ : Addr).add j = ⟨b, off + j, none⟩ := fun j => by unfold Addr.add; split <;> simp_all
      refine .inr ⟨by omega, b, off, _, rfl, ?_, fun j hj => ?_⟩
      · rw [hadd] at hc0
        exact World.block_lt_of_cell? _ _ hc0
      · rw [← hadd, hq j (by omega)]
        simp [show j < len0 by omega]
end

end Go.Proofs.YtejjilnanmomcaaDoor
