/-
  What is known of a host (api.Status), as a value and as it lies in memory; parts of a box, read and written.
-/
import Derived.Test.YthmfmeibjpgokaaBoxKit
import Derived.Test.YthmfmeibjpgokaaTimePlain
import Derived.Test.YthmfmeibjpgokaaBucketMath
import Derived.Test.YthmfmeibjpgokaaProbeOpen
import Derived.Deep.MidRow
namespace Go.Proofs.Ythmfmeibjpgokaa
open Go.RowKit Go.ChangeShapes

/-- What is known of a host, but for where its Meta lies. -/
structure StatT where
  host : HostT
  pr : ProbeT
  errors : Int
  bk : Bk
  og : Og
  drains : Bool
  gone : Int
  since : Int
  active : Int
deriving DecidableEq
/-- Its cells. -/
def StatT.arr (s : StatT) (mv : Value) : Array Value :=
  #[.int .i64 s.host.id, .string s.host.addr, .int .i64 s.host.prio, .string s.host.zone, .int .i64 s.host.weight, mv, .bool s.pr.up, .int .i64 s.pr.run, .int .i64 s.pr.forced, .int .i64 s.pr.wait,
    .int .i64 s.errors, .int .i64 s.bk.ok, .int .i64 s.bk.all, .bool s.og.out, .int .i64 s.og.from_, .int .i64 s.og.until_, .int .i64 s.og.times, .bool s.drains, .int .i64 s.gone, .int .i64 s.since, .int .i64 s.active]
abbrev noStat : StatT := ⟨noHost, ⟨false, 0, 0, 0⟩, 0, ⟨0, 0⟩, noOg, false, 0, 0, 0⟩
theorem st_size (s : StatT) (mv : Value) : (s.arr mv).size = 21 := rfl
theorem st_one (s : StatT) (ao : Option Addr) (n c : Nat) : (s.arr (.slice ao n c)).all (·.oneCell') = true := by unfold StatT.arr; simp [Value.oneCell']
theorem st_inf (s : StatT) (mv : Value) : (Try.prog.info? 32).map (·.size) = some (s.arr mv).size := by rw [st_size]; kernel_rfl
def inS (s : StatT) : Prop :=
  (-9223372036854775808 ≤ s.errors ∧ s.errors ≤ 9223372036854775807) ∧ (-9223372036854775808 ≤ s.gone ∧ s.gone ≤ 9223372036854775807) ∧ (-9223372036854775808 ≤ s.since ∧ s.since ≤ 9223372036854775807) ∧ (-9223372036854775808 ≤ s.active ∧ s.active ≤ 9223372036854775807)

/-! ### Parts of a box -/
theorem HasBox.range {w : World} {g t o : Nat} {cs : Array Value} {l : List Value} (h : HasBox w g t cs) (hl : ∀ j v, l[j]? = some v → cs[o + j]? = some v) : w.rangeAt g o l := fun j v hv => (h.cell (o + j)).trans (hl j v hv)
theorem HasBox.there {w : World} {g t o n : Nat} {cs : Array Value} (h : HasBox w g t cs) (hn : o + n ≤ cs.size) : w.there g o n := fun j hj =>
  ⟨by rw [h.cell (o + j), Array.getElem?_eq_getElem (by omega)]; rfl, h.frozen _⟩
/-- Cells, set one behind the other. -/
def setsA (cs : Array Value) : Nat → List Value → Array Value
  | _, [] => cs
  | o, v :: r => setsA (cs.setIfInBounds o v) (o + 1) r
theorem HasBox.sets {g t : Nat} : ∀ (vs : List Value) (o : Nat) {w : World} {cs : Array Value}, HasBox w g t cs → HasBox (w.setCells g o vs) g t (setsA cs o vs)
  | [], _, _, _, h => h
  | v :: r, o, _, _, h => HasBox.sets r (o + 1) (h.set o v)
theorem HasBox.setsOther {b g t : Nat} (hg : b ≠ g) : ∀ (vs : List Value) (o : Nat) {w : World} {cs : Array Value}, HasBox w b t cs → HasBox (w.setCells g o vs) b t cs
  | [], _, _, _, h => h
  | v :: r, o, _, _, h => HasBox.setsOther hg r (o + 1) (h.setOther ⟨g, o, none⟩ hg v)
theorem below_sets {B g : Nat} (hB : B ≤ g) : ∀ (vs : List Value) (o : Nat) {a w : World}, Below B a w → Below B a (w.setCells g o vs)
  | [], _, _, _, h => h
  | v :: r, o, _, _, h => below_sets hB r (o + 1) (h.setCell (p := ⟨g, o, none⟩) hB v)
theorem heap_setCell (w : World) (p : Addr) (v : Value) {b : Nat} (hb : b ≠ p.block) : (w.setCell p v).heap[b]? = w.heap[b]? := by
  simp [World.setCell, Array.getElem?_modify, Ne.symm hb]
theorem heap_sets {g b : Nat} (hb : b ≠ g) : ∀ (vs : List Value) (o : Nat) (w : World), (w.setCells g o vs).heap[b]? = w.heap[b]?
  | [], _, _ => rfl
  | v :: r, o, w => (heap_sets hb r (o + 1) (w.setCell ⟨g, o, none⟩ v)).trans (heap_setCell w _ _ hb)

/-- A part of a box is loaded. -/
theorem wpList_load_part {P : Program} {ops : Array Oper} {rest : List Oper} {o : Oper} {a : Act} {w : World} {Q : Exit → Act → World → Prop} (hw : Region.wanted o (yielded ops a.tmps) = true) (ty : TypeId) (x : Operand) (ho : o.op = .load ty x)
    (g k : Nat) (hx : a.eval x = .pointer (some ⟨g, k, none⟩)) (cs : List Value) (d : TypeDesc) (hg : w.rangeAt g k cs)
    (hu : P.underlying ty = some d) (hd : d.isRow = true) (hi : (P.info? ty).map (·.size) = some cs.length)
    (h : wpList P ops Q rest (a.put o.dst (.agg cs.toArray)) w) : wpList P ops Q (o :: rest) a w :=
  BigFrame.wpList_want hw fun _ hK => wp_load_mid ty x ho g k hx cs d hg hu hd hi (hK _ _ h)
/-- A box is loaded whole. -/
theorem wpList_load_all {P : Program} {ops : Array Oper} {rest : List Oper} {o : Oper} {a : Act} {w : World} {Q : Exit → Act → World → Prop} (hw : Region.wanted o (yielded ops a.tmps) = true) (ty : TypeId) (x : Operand) (ho : o.op = .load ty x)
    (g : Nat) (hx : a.eval x = .pointer (some ⟨g, 0, none⟩)) (t : TypeId) (cs : Array Value) (d : TypeDesc) (hg : HasBox w g t cs)
    (hu : P.underlying ty = some d) (hd : (match d with | .struct _ | .array _ _ => true | _ => false) = true) (hi : (P.info? ty).map (·.size) = some cs.size)
    (h : wpList P ops Q rest (a.put o.dst (.agg cs)) w) : wpList P ops Q (o :: rest) a w :=
  BigFrame.wpList_want hw fun _ hK => wp_load_row ty x ho g hx t cs _ d hg hu hd hi (hK _ _ h)

/-- The host, the probing, the bucket, the outing within. -/
theorem st_host (s : StatT) (mv : Value) {w : World} {g t : Nat} (h : HasBox w g t (s.arr mv)) : w.rangeAt g 0 [.int .i64 s.host.id, .string s.host.addr, .int .i64 s.host.prio, .string s.host.zone, .int .i64 s.host.weight, mv] :=
  h.range fun j v hv => by match j, hv with | 0, hv | 1, hv | 2, hv | 3, hv | 4, hv | 5, hv => exact hv
theorem st_probe (s : StatT) (mv : Value) {w : World} {g t : Nat} (h : HasBox w g t (s.arr mv)) : w.rangeAt g 6 [.bool s.pr.up, .int .i64 s.pr.run, .int .i64 s.pr.forced, .int .i64 s.pr.wait] :=
  h.range fun j v hv => by match j, hv with | 0, hv | 1, hv | 2, hv | 3, hv => exact hv
theorem st_bucket (s : StatT) (mv : Value) {w : World} {g t : Nat} (h : HasBox w g t (s.arr mv)) : w.rangeAt g 11 [.int .i64 s.bk.ok, .int .i64 s.bk.all] :=
  h.range fun j v hv => by match j, hv with | 0, hv | 1, hv => exact hv
theorem st_outing (s : StatT) (mv : Value) {w : World} {g t : Nat} (h : HasBox w g t (s.arr mv)) : w.rangeAt g 13 [.bool s.og.out, .int .i64 s.og.from_, .int .i64 s.og.until_, .int .i64 s.og.times] :=
  h.range fun j v hv => by match j, hv with | 0, hv | 1, hv | 2, hv | 3, hv => exact hv

end Go.Proofs.Ythmfmeibjpgokaa
