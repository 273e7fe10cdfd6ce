/-
  A row of yeses and noes: how it lies, how it comes in.
-/
import Derived.Test.YtjknflpclniiiaaDoorBase
import Derived.Test.YtjknflpclniiiaaDoorChecked
import Derived.WalkSmall
import Derived.BigQuiet
import Derived.SizedLaws
import Derived.Deep.SlicePairs
namespace Go.Proofs.YtjknflpclniiiaaDoor
open Go.RowKit Go.ChangeShapes Go.WideShapes

/-- A slice value that holds yeses and noes. -/
def IsBools (w : World) (v : Value) (l : List Bool) : Prop := IsRow 1 w v l.length (l.map Value.bool)
theorem IsBools.below {w w' : World} {v : Value} {l : List Bool} (h : IsBools w v l) (hb : Below w.heap.size w w') : IsBools w' v l := IsRow.below h hb
theorem IsBools.at {w : World} {ao : Option Addr} {n cap : Nat} {l : List Bool} (h : IsBools w (.slice ao n cap) l) (i : Nat) (hi : i < l.length) :
    ∃ b off, ao = some ⟨b, off, none⟩ ∧ b < w.heap.size ∧ w.cell? ⟨b, off + i, none⟩ = some (.bool (l.getD i false)) := by
  rcases h.2.2 with ⟨h0, _⟩ | ⟨_, b, off, c, e, hlt, hc⟩
  · omega
  · simp only [Value.slice.injEq] at e
    refine ⟨b, off, e.1, hlt, ?_⟩
    rw [hc i (by omega)]
    simp [hi]
theorem IsBools.shaped {w : World} {v : Value} {l : List Bool} (h : IsBools w v l) : ∃ ao cap, v = .slice ao l.length cap := by
  rcases h.2.2 with ⟨h0, ao, cap, rfl, _⟩ | ⟨_, b, off, cap, rfl, _⟩
  · exact ⟨ao, cap, by rw [h0]⟩
  · exact ⟨_, cap, rfl⟩

section
variable {H : Type} {enc : TypeId × Value → H} {W : World}
theorem c_pbool : Tryd.prog.cellsOf 4 = 1 := by kernel_rfl
theorem open_bools {r : Reach} {b0 : Nat} {v : Value} {d : DataW H} {p : List MemPlace} (hval : Value.okWide Tryd.prog W r b0 28 v) (h : DataW.Trod enc Tryd.prog W 0 (fun _ => true) true 28 v d p) : ∃ l, IsBools W v l := by
  obtain ⟨a0, len0, cap0, rfl⟩ := okWide_slice Tryd.underlying28 hval
  obtain ⟨fuel, hf⟩ := h
  rcases Deep.open_slice Tryd.underlying28 hf with ⟨hcs, _⟩ | ⟨a, len, cap, m, n, D, Pl, hcs, _, hl, hm, hmm, hx, hcell⟩
  · simp [Value.cells] at hcs
    obtain ⟨rfl, rfl, rfl⟩ := hcs
    exact ⟨[], rfl, ⟨by unfold maxLen; simp, by unfold roomy maxLen; omega⟩, .inl ⟨rfl, _, _, rfl, fun _ => rfl⟩⟩
  · simp [Value.cells] at hcs
    obtain ⟨rfl, rfl, rfl⟩ := hcs
    simp only [if_true] at hmm
    subst hmm
    have each : ∀ i, i < len0 → ∃ q : Bool, W.cell? (a.add i) = some (.bool q) := fun i hi => by
      obtain ⟨cs', h1, h2⟩ := hcell i (by omega)
      rw [c_pbool] at h1
      obtain ⟨_, _, h5⟩ := World.cells?_some h1
      obtain ⟨q, rfl, _⟩ := DataW.trod_bool Tryd.underlying4 h2
      have := h5 0 (by simp)
      rw [Deep.add_add, Nat.mul_one, Nat.add_zero] at this
      exact ⟨q, by simpa using this⟩
    obtain ⟨q, hq⟩ : ∃ q : Nat → Bool, ∀ i, i < len0 → W.cell? (a.add i) = some (.bool (q i)) :=
      ⟨fun i => if hi : i < len0 then (each i hi).choose else false, fun i hi => by simp only [hi, dif_pos]; exact (each i hi).choose_spec⟩
    refine ⟨(List.range len0).map q, ?_⟩
    have hlen : ((List.range len0).map q).length = len0 := by simp
    unfold IsBools
    rw [hlen]
    refine ⟨by simp, ⟨Nat.le_trans hl hm, hl, hm⟩, ?_⟩
    by_cases h0 : len0 = 0
    · subst h0
      exact .inl ⟨rfl, _, _, rfl, fun e => by cases e⟩
    · obtain ⟨b, off, spot⟩ := a
      have hc0 := hq 0 (by omega)
      have hspot : spot = none := by simpa [Addr.add] using World.cell?_spot hc0
      subst hspot
      have hadd : ∀ j, (⟨b, off, none⟩ : Addr).add j = ⟨b, off + j, none⟩ := fun j => by unfold Addr.add; split <;> simp_all
      refine .inr ⟨by omega, b, off, _, rfl, ?_, fun j hj => ?_⟩
      · rw [hadd] at hc0
        exact World.block_lt_of_cell? _ _ hc0
      · rw [← hadd, hq j (by omega)]
        simp [show j < len0 by omega]
end

end Go.Proofs.YtjknflpclniiiaaDoor
