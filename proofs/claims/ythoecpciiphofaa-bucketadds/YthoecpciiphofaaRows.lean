/-
  No cell of these rows narrows 'for every input' (looked for: loops, veiled, ifaces, maps, wideKeys, modest, calm, conditions, laid).
  DERIVED. THE GIVEN ROWS OF THIS SEAT. 4 by the template 'for every input the law returns true; each argument reads behind the call as it read before'; 0 by the template 'total and deterministic' (their statements: YthoecpciiphofaaTotals.lean).
  GIVEN WITH THE SEED: the statements are not yours to turn. If you find one false, say at which input.
  Laid BY PROGRAM, IN A SANDBOX (cutbox-rows.mjs): the forced cells as the released guide's own fill.sh prints them over the translation 0a3b2330379d444f… (all of the seat's roots in one cut). By AI agents, Wed Nov 11 2026. No macro, syntax, notation, axiom, sorry.
-/
import Derived.Test.YthoecpciiphofaaChecked
import GoSem.Claim
import GoSem.ClaimJoined
import GoSem.ClaimMapViews
import Derived.JoinedTies
import Derived.KernelRfl
namespace Go.Proofs.Ythoecpciiphofaa
/- THE CELL 'sum', in the pinned program and in every row, IS THE sha256 OF THE DUMP (.gsa) THAT YthoecpciiphofaaProg.lean LOADS. Nothing in Lean hashes anything: it is a label: what it is worth is what the hold of that sum in a sandbox is worth. -/
noncomputable def Try.pinned : Pinned := { name := "ythoecpciiphofaa", sum := "0a3b2330379d444fa28e548d6ce72aafbd4e4c82193929bc7b9483de392a5807", checked := Try.checked }
namespace Rows
def none {H : Type} : Left H := { results := [], args := [] }

/-- 'triagelaw12.BucketForms': WHATEVER THE INPUT: true; the input reads as it did. -/
def bucketFormsSpec : ChangeSpec := { name := "bucketForms", fn := fun _ => fun
  | [d1, d2, d3, d4] => { results := [.lit (.bool true)], args := [d1, d2, d3, d4] }
  | _ => none }
def bucketFormsRow : OpenClaim := { program := "ythoecpciiphofaa", sum := "0a3b2330379d444fa28e548d6ce72aafbd4e4c82193929bc7b9483de392a5807", func := "triage/triagelaw12.BucketForms", spec := "bucketForms", apart := false }
def BucketFormsSaid : Prop := bucketFormsRow.holds Try.pinned (OpenSpec.ofChange bucketFormsSpec)

/-- ITS FALSE NEIGHBOUR: 'it returns false'. Refute it at one input. -/
def bucketFormsWrong : ChangeSpec := { name := "bucketForms", fn := fun _ => fun
  | [d1, d2, d3, d4] => { results := [.lit (.bool false)], args := [d1, d2, d3, d4] }
  | _ => none }
def BucketFormsWrongFalsely : Prop := bucketFormsRow.holds Try.pinned (OpenSpec.ofChange bucketFormsWrong)

/-- 'triagelaw12.BucketRates': WHATEVER THE INPUT: true; the input reads as it did. -/
def bucketRatesSpec : ChangeSpec := { name := "bucketRates", fn := fun _ => fun
  | [d] => { results := [.lit (.bool true)], args := [d] }
  | _ => none }
def bucketRatesRow : OpenClaim := { program := "ythoecpciiphofaa", sum := "0a3b2330379d444fa28e548d6ce72aafbd4e4c82193929bc7b9483de392a5807", func := "triage/triagelaw12.BucketRates", spec := "bucketRates", apart := false }
def BucketRatesSaid : Prop := bucketRatesRow.holds Try.pinned (OpenSpec.ofChange bucketRatesSpec)

/-- ITS FALSE NEIGHBOUR: 'it returns false'. Refute it at one input. -/
def bucketRatesWrong : ChangeSpec := { name := "bucketRates", fn := fun _ => fun
  | [d] => { results := [.lit (.bool false)], args := [d] }
  | _ => none }
def BucketRatesWrongFalsely : Prop := bucketRatesRow.holds Try.pinned (OpenSpec.ofChange bucketRatesWrong)

/-- 'triagelaw12.BucketFails': WHATEVER THE INPUT: true; the input reads as it did. -/
def bucketFailsSpec : ChangeSpec := { name := "bucketFails", fn := fun _ => fun
  | [d1, d2, d3] => { results := [.lit (.bool true)], args := [d1, d2, d3] }
  | _ => none }
def bucketFailsRow : OpenClaim := { program := "ythoecpciiphofaa", sum := "0a3b2330379d444fa28e548d6ce72aafbd4e4c82193929bc7b9483de392a5807", func := "triage/triagelaw12.BucketFails", spec := "bucketFails", apart := false }
def BucketFailsSaid : Prop := bucketFailsRow.holds Try.pinned (OpenSpec.ofChange bucketFailsSpec)

/-- ITS FALSE NEIGHBOUR: 'it returns false'. Refute it at one input. -/
def bucketFailsWrong : ChangeSpec := { name := "bucketFails", fn := fun _ => fun
  | [d1, d2, d3] => { results := [.lit (.bool false)], args := [d1, d2, d3] }
  | _ => none }
def BucketFailsWrongFalsely : Prop := bucketFailsRow.holds Try.pinned (OpenSpec.ofChange bucketFailsWrong)

/-- 'triagelaw12.BucketAdds': WHATEVER THE INPUT: true; the input reads as it did. -/
def bucketAddsSpec : ChangeSpec := { name := "bucketAdds", fn := fun _ => fun
  | [d1, d2, d3] => { results := [.lit (.bool true)], args := [d1, d2, d3] }
  | _ => none }
def bucketAddsRow : OpenClaim := { program := "ythoecpciiphofaa", sum := "0a3b2330379d444fa28e548d6ce72aafbd4e4c82193929bc7b9483de392a5807", func := "triage/triagelaw12.BucketAdds", spec := "bucketAdds", apart := false }
def BucketAddsSaid : Prop := bucketAddsRow.holds Try.pinned (OpenSpec.ofChange bucketAddsSpec)

/-- ITS FALSE NEIGHBOUR: 'it returns false'. Refute it at one input. -/
def bucketAddsWrong : ChangeSpec := { name := "bucketAdds", fn := fun _ => fun
  | [d1, d2, d3] => { results := [.lit (.bool false)], args := [d1, d2, d3] }
  | _ => none }
def BucketAddsWrongFalsely : Prop := bucketAddsRow.holds Try.pinned (OpenSpec.ofChange bucketAddsWrong)

/- THE SECOND FORM. 'bulk': how many values and letters a reading holds, each counted each time it is reached (what is shared counts as often as it is met; a slice's spare places count too). A statement '..UptoSaid' is the law's where the arguments, and the package variables that the reading takes, are together of bulk at most 1048576: NARROWER than '..Said'. Prove '..Said' where nothing that the law and all that it calls make is longer than what came in: it says more and counts as full. Else prove '..UptoSaid'. A law counts once. -/
mutual
def uptoBulk {H : Type} : DataW H → Nat
  | .lit (.string bytes) => bytes.length + 1
  | .lit _ => 1
  | .nil => 1
  | .ptr d => uptoBulk d + 1
  | .slice elems spare => uptoBulkAll elems + uptoBulkAll spare + 1
  | .agg parts => uptoBulkAll parts + 1
  | .iface _ d => uptoBulk d + 1
  | .map entries => uptoBulkEntries entries + 1
  | .held _ => 1
def uptoBulkAll {H : Type} : List (DataW H) → Nat
  | [] => 0
  | d :: r => uptoBulk d + uptoBulkAll r
def uptoBulkEntries {H : Type} : List (Lit × DataW H) → Nat
  | [] => 0
  | x :: r => uptoBulkEntry x + uptoBulkEntries r
def uptoBulkEntry {H : Type} : Lit × DataW H → Nat
  | (.string bytes, d) => bytes.length + uptoBulk d + 1
  | (_, d) => uptoBulk d + 1
 end
def uptoSmall : (H : Type) → List (DataW H) → Bool := fun _ ds => decide (uptoBulkAll ds ≤ 1048576)
def OpenSpec.upto (s : _root_.Go.ChangeSpec) : _root_.Go.OpenSpec := { _root_.Go.OpenSpec.ofChange s with cond := some uptoSmall }

/-- 'triagelaw12.BucketForms', WHERE WHAT IT READS IS OF BULK AT MOST 1048576: true; the input reads as it did. -/
def bucketFormsUptoRow : OpenClaim := { program := "ythoecpciiphofaa", sum := "0a3b2330379d444fa28e548d6ce72aafbd4e4c82193929bc7b9483de392a5807", func := "triage/triagelaw12.BucketForms", spec := "bucketForms", apart := false, narrowed := true }
def BucketFormsUptoSaid : Prop := bucketFormsUptoRow.holds Try.pinned (OpenSpec.upto bucketFormsSpec)

/-- 'triagelaw12.BucketRates', WHERE WHAT IT READS IS OF BULK AT MOST 1048576: true; the input reads as it did. -/
def bucketRatesUptoRow : OpenClaim := { program := "ythoecpciiphofaa", sum := "0a3b2330379d444fa28e548d6ce72aafbd4e4c82193929bc7b9483de392a5807", func := "triage/triagelaw12.BucketRates", spec := "bucketRates", apart := false, narrowed := true }
def BucketRatesUptoSaid : Prop := bucketRatesUptoRow.holds Try.pinned (OpenSpec.upto bucketRatesSpec)

/-- 'triagelaw12.BucketFails', WHERE WHAT IT READS IS OF BULK AT MOST 1048576: true; the input reads as it did. -/
def bucketFailsUptoRow : OpenClaim := { program := "ythoecpciiphofaa", sum := "0a3b2330379d444fa28e548d6ce72aafbd4e4c82193929bc7b9483de392a5807", func := "triage/triagelaw12.BucketFails", spec := "bucketFails", apart := false, narrowed := true }
def BucketFailsUptoSaid : Prop := bucketFailsUptoRow.holds Try.pinned (OpenSpec.upto bucketFailsSpec)

/-- 'triagelaw12.BucketAdds', WHERE WHAT IT READS IS OF BULK AT MOST 1048576: true; the input reads as it did. -/
def bucketAddsUptoRow : OpenClaim := { program := "ythoecpciiphofaa", sum := "0a3b2330379d444fa28e548d6ce72aafbd4e4c82193929bc7b9483de392a5807", func := "triage/triagelaw12.BucketAdds", spec := "bucketAdds", apart := false, narrowed := true }
def BucketAddsUptoSaid : Prop := bucketAddsUptoRow.holds Try.pinned (OpenSpec.upto bucketAddsSpec)

end Rows
end Go.Proofs.Ythoecpciiphofaa
