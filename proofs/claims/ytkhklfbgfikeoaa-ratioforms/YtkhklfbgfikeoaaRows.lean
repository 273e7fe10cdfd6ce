/-
  No cell of these rows narrows 'for every input' (looked for: loops, veiled, ifaces, maps, wideKeys, modest, calm, conditions, laid).
  DERIVED. THE GIVEN ROWS OF THIS SEAT. 6 by the template 'for every input the law returns true; each argument reads behind the call as it read before'; 0 by the template 'total and deterministic' (their statements: YtkhklfbgfikeoaaTotals.lean).
  GIVEN WITH THE SEED: the statements are not yours to turn. If you find one false, say at which input.
  Laid BY PROGRAM, IN A SANDBOX (cutbox-rows.mjs): the forced cells as the released guide's own fill.sh prints them over the translation 5aa29969bc4be91f… (all of the seat's roots in one cut). By AI agents, Wed Nov 11 2026. No macro, syntax, notation, axiom, sorry.
-/
import Derived.Test.YtkhklfbgfikeoaaChecked
import GoSem.Claim
import GoSem.ClaimJoined
import GoSem.ClaimMapViews
import Derived.JoinedTies
import Derived.KernelRfl
namespace Go.Proofs.Ytkhklfbgfikeoaa
/- THE CELL 'sum', in the pinned program and in every row, IS THE sha256 OF THE DUMP (.gsa) THAT YtkhklfbgfikeoaaProg.lean LOADS. Nothing in Lean hashes anything: it is a label: what it is worth is what the hold of that sum in a sandbox is worth. -/
noncomputable def Try.pinned : Pinned := { name := "ytkhklfbgfikeoaa", sum := "5aa29969bc4be91f196eea2f814f984dc71ffc86088916cc5c59855831c2e7cd", checked := Try.checked }
namespace Rows
def none {H : Type} : Left H := { results := [], args := [] }

/-- 'triagelaw1.RatioForms': WHATEVER THE INPUT: true; the input reads as it did. -/
def ratioFormsSpec : ChangeSpec := { name := "ratioForms", fn := fun _ => fun
  | [d1, d2, d3, d4, d5] => { results := [.lit (.bool true)], args := [d1, d2, d3, d4, d5] }
  | _ => none }
def ratioFormsRow : OpenClaim := { program := "ytkhklfbgfikeoaa", sum := "5aa29969bc4be91f196eea2f814f984dc71ffc86088916cc5c59855831c2e7cd", func := "triage/triagelaw1.RatioForms", spec := "ratioForms", named := ["math/bits.divideError", "math/bits.overflowError"], apart := false }
def RatioFormsSaid : Prop := ratioFormsRow.holds Try.pinned (OpenSpec.ofChange ratioFormsSpec)

/-- ITS FALSE NEIGHBOUR: 'it returns false'. Refute it at one input. -/
def ratioFormsWrong : ChangeSpec := { name := "ratioForms", fn := fun _ => fun
  | [d1, d2, d3, d4, d5] => { results := [.lit (.bool false)], args := [d1, d2, d3, d4, d5] }
  | _ => none }
def RatioFormsWrongFalsely : Prop := ratioFormsRow.holds Try.pinned (OpenSpec.ofChange ratioFormsWrong)

/-- 'triagelaw1.RatioSpreads': WHATEVER THE INPUT: true; the input reads as it did. -/
def ratioSpreadsSpec : ChangeSpec := { name := "ratioSpreads", fn := fun _ => fun
  | [d1, d2] => { results := [.lit (.bool true)], args := [d1, d2] }
  | _ => none }
def ratioSpreadsRow : OpenClaim := { program := "ytkhklfbgfikeoaa", sum := "5aa29969bc4be91f196eea2f814f984dc71ffc86088916cc5c59855831c2e7cd", func := "triage/triagelaw1.RatioSpreads", spec := "ratioSpreads", apart := false }
def RatioSpreadsSaid : Prop := ratioSpreadsRow.holds Try.pinned (OpenSpec.ofChange ratioSpreadsSpec)

/-- ITS FALSE NEIGHBOUR: 'it returns false'. Refute it at one input. -/
def ratioSpreadsWrong : ChangeSpec := { name := "ratioSpreads", fn := fun _ => fun
  | [d1, d2] => { results := [.lit (.bool false)], args := [d1, d2] }
  | _ => none }
def RatioSpreadsWrongFalsely : Prop := ratioSpreadsRow.holds Try.pinned (OpenSpec.ofChange ratioSpreadsWrong)

/-- 'triagelaw1.RatioParts': WHATEVER THE INPUT: true; the input reads as it did. -/
def ratioPartsSpec : ChangeSpec := { name := "ratioParts", fn := fun _ => fun
  | [d1, d2, d3] => { results := [.lit (.bool true)], args := [d1, d2, d3] }
  | _ => none }
def ratioPartsRow : OpenClaim := { program := "ytkhklfbgfikeoaa", sum := "5aa29969bc4be91f196eea2f814f984dc71ffc86088916cc5c59855831c2e7cd", func := "triage/triagelaw1.RatioParts", spec := "ratioParts", apart := false }
def RatioPartsSaid : Prop := ratioPartsRow.holds Try.pinned (OpenSpec.ofChange ratioPartsSpec)

/-- ITS FALSE NEIGHBOUR: 'it returns false'. Refute it at one input. -/
def ratioPartsWrong : ChangeSpec := { name := "ratioParts", fn := fun _ => fun
  | [d1, d2, d3] => { results := [.lit (.bool false)], args := [d1, d2, d3] }
  | _ => none }
def RatioPartsWrongFalsely : Prop := ratioPartsRow.holds Try.pinned (OpenSpec.ofChange ratioPartsWrong)

/-- 'triagelaw1.RatioCompares': WHATEVER THE INPUT: true; the input reads as it did. -/
def ratioComparesSpec : ChangeSpec := { name := "ratioCompares", fn := fun _ => fun
  | [d1, d2, d3, d4, d5, d6] => { results := [.lit (.bool true)], args := [d1, d2, d3, d4, d5, d6] }
  | _ => none }
def ratioComparesRow : OpenClaim := { program := "ytkhklfbgfikeoaa", sum := "5aa29969bc4be91f196eea2f814f984dc71ffc86088916cc5c59855831c2e7cd", func := "triage/triagelaw1.RatioCompares", spec := "ratioCompares", apart := false }
def RatioComparesSaid : Prop := ratioComparesRow.holds Try.pinned (OpenSpec.ofChange ratioComparesSpec)

/-- ITS FALSE NEIGHBOUR: 'it returns false'. Refute it at one input. -/
def ratioComparesWrong : ChangeSpec := { name := "ratioCompares", fn := fun _ => fun
  | [d1, d2, d3, d4, d5, d6] => { results := [.lit (.bool false)], args := [d1, d2, d3, d4, d5, d6] }
  | _ => none }
def RatioComparesWrongFalsely : Prop := ratioComparesRow.holds Try.pinned (OpenSpec.ofChange ratioComparesWrong)

/-- 'triagelaw1.RatioDraws': WHATEVER THE INPUT: true; the input reads as it did. -/
def ratioDrawsSpec : ChangeSpec := { name := "ratioDraws", fn := fun _ => fun
  | [d1, d2] => { results := [.lit (.bool true)], args := [d1, d2] }
  | _ => none }
def ratioDrawsRow : OpenClaim := { program := "ytkhklfbgfikeoaa", sum := "5aa29969bc4be91f196eea2f814f984dc71ffc86088916cc5c59855831c2e7cd", func := "triage/triagelaw1.RatioDraws", spec := "ratioDraws", apart := false }
def RatioDrawsSaid : Prop := ratioDrawsRow.holds Try.pinned (OpenSpec.ofChange ratioDrawsSpec)

/-- ITS FALSE NEIGHBOUR: 'it returns false'. Refute it at one input. -/
def ratioDrawsWrong : ChangeSpec := { name := "ratioDraws", fn := fun _ => fun
  | [d1, d2] => { results := [.lit (.bool false)], args := [d1, d2] }
  | _ => none }
def RatioDrawsWrongFalsely : Prop := ratioDrawsRow.holds Try.pinned (OpenSpec.ofChange ratioDrawsWrong)

/-- 'triagelaw1.RatioSums': WHATEVER THE INPUT: true; the input reads as it did. -/
def ratioSumsSpec : ChangeSpec := { name := "ratioSums", fn := fun _ => fun
  | [d1, d2] => { results := [.lit (.bool true)], args := [d1, d2] }
  | _ => none }
def ratioSumsRow : OpenClaim := { program := "ytkhklfbgfikeoaa", sum := "5aa29969bc4be91f196eea2f814f984dc71ffc86088916cc5c59855831c2e7cd", func := "triage/triagelaw1.RatioSums", spec := "ratioSums", apart := false }
def RatioSumsSaid : Prop := ratioSumsRow.holds Try.pinned (OpenSpec.ofChange ratioSumsSpec)

/-- ITS FALSE NEIGHBOUR: 'it returns false'. Refute it at one input. -/
def ratioSumsWrong : ChangeSpec := { name := "ratioSums", fn := fun _ => fun
  | [d1, d2] => { results := [.lit (.bool false)], args := [d1, d2] }
  | _ => none }
def RatioSumsWrongFalsely : Prop := ratioSumsRow.holds Try.pinned (OpenSpec.ofChange ratioSumsWrong)

/- THE SECOND FORM. 'bulk': how many values and letters a reading holds, each counted each time it is reached (what is shared counts as often as it is met; a slice's spare places count too). A statement '..UptoSaid' is the law's where the arguments, and the package variables that the reading takes, are together of bulk at most 1048576: NARROWER than '..Said'. Prove '..Said' where nothing that the law and all that it calls make is longer than what came in: it says more and counts as full. Else prove '..UptoSaid'. A law counts once. -/
mutual
def uptoBulk {H : Type} : DataW H → Nat
  | .lit (.string bytes) => bytes.length + 1
  | .lit _ => 1
  | .nil => 1
  | .ptr d => uptoBulk d + 1
  | .slice elems spare => uptoBulkAll elems + uptoBulkAll spare + 1
  | .agg parts => uptoBulkAll parts + 1
  | .iface _ d => uptoBulk d + 1
  | .map entries => uptoBulkEntries entries + 1
  | .held _ => 1
def uptoBulkAll {H : Type} : List (DataW H) → Nat
  | [] => 0
  | d :: r => uptoBulk d + uptoBulkAll r
def uptoBulkEntries {H : Type} : List (Lit × DataW H) → Nat
  | [] => 0
  | x :: r => uptoBulkEntry x + uptoBulkEntries r
def uptoBulkEntry {H : Type} : Lit × DataW H → Nat
  | (.string bytes, d) => bytes.length + uptoBulk d + 1
  | (_, d) => uptoBulk d + 1
 end
def uptoSmall : (H : Type) → List (DataW H) → Bool := fun _ ds => decide (uptoBulkAll ds ≤ 1048576)
def OpenSpec.upto (s : _root_.Go.ChangeSpec) : _root_.Go.OpenSpec := { _root_.Go.OpenSpec.ofChange s with cond := some uptoSmall }

/-- 'triagelaw1.RatioForms', WHERE WHAT IT READS IS OF BULK AT MOST 1048576: true; the input reads as it did. -/
def ratioFormsUptoRow : OpenClaim := { program := "ytkhklfbgfikeoaa", sum := "5aa29969bc4be91f196eea2f814f984dc71ffc86088916cc5c59855831c2e7cd", func := "triage/triagelaw1.RatioForms", spec := "ratioForms", named := ["math/bits.divideError", "math/bits.overflowError"], apart := false, narrowed := true }
def RatioFormsUptoSaid : Prop := ratioFormsUptoRow.holds Try.pinned (OpenSpec.upto ratioFormsSpec)

/-- 'triagelaw1.RatioSpreads', WHERE WHAT IT READS IS OF BULK AT MOST 1048576: true; the input reads as it did. -/
def ratioSpreadsUptoRow : OpenClaim := { program := "ytkhklfbgfikeoaa", sum := "5aa29969bc4be91f196eea2f814f984dc71ffc86088916cc5c59855831c2e7cd", func := "triage/triagelaw1.RatioSpreads", spec := "ratioSpreads", apart := false, narrowed := true }
def RatioSpreadsUptoSaid : Prop := ratioSpreadsUptoRow.holds Try.pinned (OpenSpec.upto ratioSpreadsSpec)

/-- 'triagelaw1.RatioParts', WHERE WHAT IT READS IS OF BULK AT MOST 1048576: true; the input reads as it did. -/
def ratioPartsUptoRow : OpenClaim := { program := "ytkhklfbgfikeoaa", sum := "5aa29969bc4be91f196eea2f814f984dc71ffc86088916cc5c59855831c2e7cd", func := "triage/triagelaw1.RatioParts", spec := "ratioParts", apart := false, narrowed := true }
def RatioPartsUptoSaid : Prop := ratioPartsUptoRow.holds Try.pinned (OpenSpec.upto ratioPartsSpec)

/-- 'triagelaw1.RatioCompares', WHERE WHAT IT READS IS OF BULK AT MOST 1048576: true; the input reads as it did. -/
def ratioComparesUptoRow : OpenClaim := { program := "ytkhklfbgfikeoaa", sum := "5aa29969bc4be91f196eea2f814f984dc71ffc86088916cc5c59855831c2e7cd", func := "triage/triagelaw1.RatioCompares", spec := "ratioCompares", apart := false, narrowed := true }
def RatioComparesUptoSaid : Prop := ratioComparesUptoRow.holds Try.pinned (OpenSpec.upto ratioComparesSpec)

/-- 'triagelaw1.RatioDraws', WHERE WHAT IT READS IS OF BULK AT MOST 1048576: true; the input reads as it did. -/
def ratioDrawsUptoRow : OpenClaim := { program := "ytkhklfbgfikeoaa", sum := "5aa29969bc4be91f196eea2f814f984dc71ffc86088916cc5c59855831c2e7cd", func := "triage/triagelaw1.RatioDraws", spec := "ratioDraws", apart := false, narrowed := true }
def RatioDrawsUptoSaid : Prop := ratioDrawsUptoRow.holds Try.pinned (OpenSpec.upto ratioDrawsSpec)

/-- 'triagelaw1.RatioSums', WHERE WHAT IT READS IS OF BULK AT MOST 1048576: true; the input reads as it did. -/
def ratioSumsUptoRow : OpenClaim := { program := "ytkhklfbgfikeoaa", sum := "5aa29969bc4be91f196eea2f814f984dc71ffc86088916cc5c59855831c2e7cd", func := "triage/triagelaw1.RatioSums", spec := "ratioSums", apart := false, narrowed := true }
def RatioSumsUptoSaid : Prop := ratioSumsUptoRow.holds Try.pinned (OpenSpec.upto ratioSumsSpec)

end Rows
end Go.Proofs.Ytkhklfbgfikeoaa
