/-
  How a probing and a row of yeses and noes that came in are opened.
-/
import Derived.Test.YthmfmeibjpgokaaBoolsOpen
import Derived.Test.YthmfmeibjpgokaaChecked
import Derived.WalkSmall
import Derived.BigQuiet
import Derived.SizedLaws
import Derived.Deep.SlicePairs
namespace Go.Proofs.Ythmfmeibjpgokaa
open Go.RowKit Go.ChangeShapes Go.WideShapes

/-- What is known of a host by its probes. -/
structure ProbeT where
  up : Bool
  run : Int
  forced : Int
  wait : Int
deriving DecidableEq
def inP (p : ProbeT) : Prop := (-9223372036854775808 ≤ p.run ∧ p.run ≤ 9223372036854775807) ∧ (-9223372036854775808 ≤ p.forced ∧ p.forced ≤ 9223372036854775807) ∧ (-9223372036854775808 ≤ p.wait ∧ p.wait ≤ 9223372036854775807)
abbrev pcells (p : ProbeT) : Array Value := #[.bool p.up, .int .i64 p.run, .int .i64 p.forced, .int .i64 p.wait]
abbrev pval (p : ProbeT) : Value := .agg (pcells p)
section
variable {H : Type} {enc : TypeId × Value → H} {W : World}
theorem c_pint : Try.prog.cellsOf 3 = 1 := by kernel_rfl
theorem c_probing : Try.prog.cellsOf 26 = 4 := by kernel_rfl
theorem list4p {l : List Value} (h : l.length = 4) : ∃ v0 v1 v2 v3, l = [v0, v1, v2, v3] := by
  match l, h with
  | [v0, v1, v2, v3], _ => exact ⟨v0, v1, v2, v3, rfl⟩

theorem open_probing {r : Reach} {b0 : Nat} {v : Value} {d : DataW H} {p : List MemPlace} (hval : Value.okWide Try.prog W r b0 26 v) (h : DataW.Trod enc Try.prog W 0 (fun _ => true) true 26 v d p) : ∃ q, v = pval q ∧ inP q := by
  obtain ⟨cs, rfl, _⟩ := okWide_struct Try.underlying26 hval
  obtain ⟨fuel, hf⟩ := h
  have hf' : DataW.trod enc Try.prog W 0 (fun _ => true) true fuel 26 cs.toList = some (d, p) := hf
  obtain ⟨xs, n, _, hx, hl, hlen, hF⟩ := DataW.trod_struct Try.underlying26 hf'
  obtain ⟨v0, v1, v2, v3, hcs⟩ := list4p (hl.trans c_probing)
  rw [hcs] at hF
  match xs, hlen with
  | [x0, x1, x2, x3], _ =>
    obtain ⟨q0, g0, _⟩ := DataW.trod_bool (x := x0) Try.underlying4 (hF 0 _ rfl)
    obtain ⟨n1, g1, _, b1⟩ := DataW.trod_int (k := .i64) (x := x1) Try.underlying3 (hF 1 _ rfl)
    obtain ⟨n2, g2, _, b2⟩ := DataW.trod_int (k := .i64) (x := x2) Try.underlying3 (hF 2 _ rfl)
    obtain ⟨n3, g3, _, b3⟩ := DataW.trod_int (k := .i64) (x := x3) Try.underlying3 (hF 3 _ rfl)
    have k0 : v0 = .bool q0 := by simpa [c_pint, c_pbool] using g0
    have k1 : v1 = .int .i64 n1 := by simpa [c_pint, c_pbool] using g1
    have k2 : v2 = .int .i64 n2 := by simpa [c_pint, c_pbool] using g2
    have k3 : v3 = .int .i64 n3 := by simpa [c_pint, c_pbool] using g3
    exact ⟨⟨q0, n1, n2, n3⟩, congrArg Value.agg (Array.toList_inj.1 (by rw [hcs, k0, k1, k2, k3])), bounds_i64 b1, bounds_i64 b2, bounds_i64 b3⟩
end

end Go.Proofs.Ythmfmeibjpgokaa
