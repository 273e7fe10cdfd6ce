/-
  What every proof of a row of this seat uses: how a number, a slice of numbers, that came in is opened.
-/
import Derived.Test.YtkhklfbgfikeoaaRows
import Derived.Test.YtkhklfbgfikeoaaAwake
import Derived.ProofKit
import Derived.OpenShut
import Derived.ShutString
import Derived.ChangeOld
import Derived.Below
import Derived.BigQuiet
namespace Go.Proofs.Ytkhklfbgfikeoaa
open Go.ChangeShapes Go.WideShapes Go.ChangeAt Go.RowKit
open Go.ChangeMaps (open_string shut_string)

theorem own : ownKnob Try.prog.godebug = none := by kernel_rfl
theorem laidOut : laidOutB Try.prog = true := by kernel_rfl

theorem wf_i64 {n : Int} (h : (Lit.int .i64 n).wf = true) : -9223372036854775808 ≤ n ∧ n ≤ 9223372036854775807 := bounds_i64 h

theorem isInts_nil (w : World) : IsInts w (.slice none 0 0) [] := ⟨by simp, by simp, .inl ⟨rfl, _, _, rfl⟩⟩

theorem isInts_row {w : World} {x : Addr} {len cap : Nat} {zs : List Int} (hl : len ≤ cap) (hm : cap ≤ maxLen) (hz : zs.length = cap)
    (hcell : ∀ i, i < zs.length → w.cell? (x.add i) = some (.int .i64 (zs.getD i 0))) (hwz : ∀ n ∈ zs, (Lit.int .i64 n).wf = true) : IsInts w (.slice (some x) len cap) (zs.take len) := by
  have e : (zs.take len).length = len := by simp; omega
  unfold maxLen at hm
  refine ⟨fun n hn => wf_i64 (hwz n (List.mem_of_mem_take hn)), by omega, ?_⟩
  by_cases h0 : len = 0
  · subst h0
    exact .inl ⟨by simp, _, _, rfl⟩
  · obtain ⟨b, off, spot⟩ := x
    have hc := hcell 0 (by omega)
    have hspot : spot = none := by simpa [Addr.add] using World.cell?_spot hc
    subst hspot
    refine .inr ⟨fun h => by rw [h] at e; simp at e; omega, b, off, cap, by rw [e], ?_, fun i hi => ?_⟩
    · have hc0 : w.cell? ⟨b, off, none⟩ = some (.int .i64 (zs.getD 0 0)) := by simpa [Addr.add] using hc
      exact World.block_lt_of_cell? _ _ hc0
    · have h1 := hcell i (by omega)
      have h2 : (zs.take len).getD i 0 = zs.getD i 0 := by
        rw [getD_get _ _ hi, getD_get _ _ (by omega)]; simp
      rw [h2, ← h1]
      by_cases e0 : i = 0
      · subst e0; simp [Addr.add]
      · simp [Addr.add, e0]

/-- A world that is as w0 was below block B. -/
structure WB (B : Nat) (w0 : World) where
  w : World
  h : Below B w0 w

/-- A region that draws its order, and whose operations yield one value each in whatever world that is as w0 was below block B: one walk, in the order of the text. -/
theorem wp_region_below {P : Program} {id : Nat} {Q : Exit → Act → World → Prop} {a : Act} {w : World} {l : List Oper} (B : Nat) (w0 : World) (hm : P.follows .mixedOrders = true) (hB : Region.lexB .any l.toArray = true)
    (hb : Below B w0 w) (h : wpQuiet P l.toArray (fun w' => ∃ s : WB B w0, w' = s.w) (fun a' => ∀ w', (∃ s : WB B w0, w' = s.w) → Q .normal a' w') l a) : (Code.region id l.toArray true).wp P Q a w :=
  wp_region_quiet (C := fun w' => ∃ s : WB B w0, w' = s.w) hm hB ⟨⟨_, hb.drew⟩, rfl⟩ (by simpa using h)

/-- A callee that makes memory and turns none. -/
theorem calls_below {P : Program} {f : FuncId} {args : Array Value} {B : Nat} {w0 : World} {s : WB B w0} {v : Value} (hB : B ≤ w0.heap.size)
    (h : Calls P f args s.w fun e w' => e = .returned v ∧ Below s.w.heap.size s.w w') : Calls P f args s.w fun e w'' => e = .returned v ∧ ∃ s' : WB B w0, w'' = s'.w :=
  h.mono fun _ _ ⟨he, hb⟩ => ⟨he, ⟨_, s.h.trans (hb.mono (Nat.le_trans hB s.h.size))⟩, rfl⟩
/-- A callee that leaves the world as it is. -/
theorem calls_same {P : Program} {f : FuncId} {args : Array Value} {B : Nat} {w0 : World} {s : WB B w0} {v : Value}
    (h : Calls P f args s.w fun e w' => e = .returned v ∧ w' = s.w) : Calls P f args s.w fun e w'' => e = .returned v ∧ ∃ s' : WB B w0, w'' = s'.w :=
  h.mono fun _ _ ⟨he, hb⟩ => ⟨he, s, hb⟩

end Go.Proofs.Ytkhklfbgfikeoaa
