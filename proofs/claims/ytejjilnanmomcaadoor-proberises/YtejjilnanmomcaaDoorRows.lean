/-
  NARROWER THAN 'FOR EVERY INPUT', by the rows' own cells (each row's printed sentence says how): ProbeRises: laid · ProbeForced: laid · ProbeWaits: laid · ProbeTurns: laid.
  DERIVED. THE GIVEN ROWS OF THIS SEAT. 4 by the template 'for every input the law returns true; each argument reads behind the call as it read before'; 0 by the template 'total and deterministic' (their statements: YtejjilnanmomcaaDoorTotals.lean).
  GIVEN WITH THE SEED: the statements are not yours to turn. If you find one false, say at which input.
  Laid BY PROGRAM, IN A SANDBOX (cutbox-rows.mjs): the forced cells as the released guide's own fill.sh prints them over the translation a17e1b25411227d7… (all of the seat's roots in one cut). By AI agents, Wed Nov 11 2026. No macro, syntax, notation, axiom, sorry.
-/
import Derived.Test.YtejjilnanmomcaaDoorChecked
import GoSem.Claim
import GoSem.ClaimJoined
import GoSem.ClaimMapViews
import Derived.JoinedTies
import Derived.KernelRfl
namespace Go.Proofs.YtejjilnanmomcaaDoor
/- THE CELL 'sum', in the pinned program and in every row, IS THE sha256 OF THE DUMP (.gsa) THAT YtejjilnanmomcaaDoorProg.lean LOADS. Nothing in Lean hashes anything: it is a label: what it is worth is what the hold of that sum in a sandbox is worth. -/
noncomputable def Tryd.pinned : Pinned := { name := "ytejjilnanmomcaadoor", sum := "a17e1b25411227d77a6ab57231bde2cb70a86568eba36d24933450cbebea727b", checked := Tryd.checked }
namespace Rows
def none {H : Type} : Left H := { results := [], args := [] }

/- WHAT THE LISTED PACKAGE-LEVEL VARIABLES READ AS WHEN THE CALL BEGINS. Each datum BY PROGRAM (the guide's laid-datum.mjs) off the statement by which the dump's own 'gosem.cut.vars' lays the variable. In a bare row this is a premise. The card (YtejjilnanmomcaaDoorCards.lean) ties it to the program's text. -/
def laid_math_bits_deBruijn32tab {H : Type} : DataW H := .agg [.lit (.int .u8 0), .lit (.int .u8 1), .lit (.int .u8 28), .lit (.int .u8 2), .lit (.int .u8 29), .lit (.int .u8 14), .lit (.int .u8 24), .lit (.int .u8 3), .lit (.int .u8 30), .lit (.int .u8 22), .lit (.int .u8 20), .lit (.int .u8 15), .lit (.int .u8 25), .lit (.int .u8 17), .lit (.int .u8 4), .lit (.int .u8 8), .lit (.int .u8 31), .lit (.int .u8 27), .lit (.int .u8 13), .lit (.int .u8 23), .lit (.int .u8 21), .lit (.int .u8 19), .lit (.int .u8 16), .lit (.int .u8 7), .lit (.int .u8 26), .lit (.int .u8 12), .lit (.int .u8 18), .lit (.int .u8 6), .lit (.int .u8 11), .lit (.int .u8 5), .lit (.int .u8 10), .lit (.int .u8 9)]
def laid_math_bits_deBruijn64tab {H : Type} : DataW H := .agg [.lit (.int .u8 0), .lit (.int .u8 1), .lit (.int .u8 56), .lit (.int .u8 2), .lit (.int .u8 57), .lit (.int .u8 49), .lit (.int .u8 28), .lit (.int .u8 3), .lit (.int .u8 61), .lit (.int .u8 58), .lit (.int .u8 42), .lit (.int .u8 50), .lit (.int .u8 38), .lit (.int .u8 29), .lit (.int .u8 17), .lit (.int .u8 4), .lit (.int .u8 62), .lit (.int .u8 47), .lit (.int .u8 59), .lit (.int .u8 36), .lit (.int .u8 45), .lit (.int .u8 43), .lit (.int .u8 51), .lit (.int .u8 22), .lit (.int .u8 53), .lit (.int .u8 39), .lit (.int .u8 33), .lit (.int .u8 30), .lit (.int .u8 24), .lit (.int .u8 18), .lit (.int .u8 12), .lit (.int .u8 5), .lit (.int .u8 63), .lit (.int .u8 55), .lit (.int .u8 48), .lit (.int .u8 27), .lit (.int .u8 60), .lit (.int .u8 41), .lit (.int .u8 37), .lit (.int .u8 16), .lit (.int .u8 46), .lit (.int .u8 35), .lit (.int .u8 44), .lit (.int .u8 21), .lit (.int .u8 52), .lit (.int .u8 32), .lit (.int .u8 23), .lit (.int .u8 11), .lit (.int .u8 54), .lit (.int .u8 26), .lit (.int .u8 40), .lit (.int .u8 15), .lit (.int .u8 34), .lit (.int .u8 20), .lit (.int .u8 31), .lit (.int .u8 10), .lit (.int .u8 25), .lit (.int .u8 14), .lit (.int .u8 19), .lit (.int .u8 9), .lit (.int .u8 13), .lit (.int .u8 8), .lit (.int .u8 7), .lit (.int .u8 6)]
def laid_internal_strconv_uint64pow10 {H : Type} : DataW H := .agg [.lit (.int .u64 1), .lit (.int .u64 10), .lit (.int .u64 100), .lit (.int .u64 1000), .lit (.int .u64 10000), .lit (.int .u64 100000), .lit (.int .u64 1000000), .lit (.int .u64 10000000), .lit (.int .u64 100000000), .lit (.int .u64 1000000000), .lit (.int .u64 10000000000), .lit (.int .u64 100000000000), .lit (.int .u64 1000000000000), .lit (.int .u64 10000000000000), .lit (.int .u64 100000000000000), .lit (.int .u64 1000000000000000), .lit (.int .u64 10000000000000000), .lit (.int .u64 100000000000000000), .lit (.int .u64 1000000000000000000), .lit (.int .u64 10000000000000000000)]
def laid_triage_config_table {H : Type} : DataW H := .agg [.agg [.lit (.string [105, 110, 116, 101, 114, 118, 97, 108]), .lit (.int .i64 1), .lit (.int .i64 10), .lit (.int .i64 10000), .lit (.string [49, 48, 48])], .agg [.lit (.string [116, 105, 109, 101, 111, 117, 116]), .lit (.int .i64 1), .lit (.int .i64 1), .lit (.int .i64 10000), .lit (.string [50, 48])], .agg [.lit (.string [106, 105, 116, 116, 101, 114]), .lit (.int .i64 1), .lit (.int .i64 0), .lit (.int .i64 1000), .lit (.string [48])], .agg [.lit (.string [114, 105, 115, 101]), .lit (.int .i64 1), .lit (.int .i64 1), .lit (.int .i64 10), .lit (.string [50])], .agg [.lit (.string [102, 97, 108, 108]), .lit (.int .i64 1), .lit (.int .i64 1), .lit (.int .i64 10), .lit (.string [51])], .agg [.lit (.string [112, 97, 110, 105, 99]), .lit (.int .i64 1), .lit (.int .i64 0), .lit (.int .i64 100), .lit (.string [53, 48])], .agg [.lit (.string [111, 118, 101, 114]), .lit (.int .i64 1), .lit (.int .i64 100), .lit (.int .i64 1000), .lit (.string [49, 52, 48])], .agg [.lit (.string [101, 114, 114, 111, 114, 115]), .lit (.int .i64 1), .lit (.int .i64 0), .lit (.int .i64 100), .lit (.string [53])], .agg [.lit (.string [115, 119, 101, 101, 112]), .lit (.int .i64 1), .lit (.int .i64 10), .lit (.int .i64 10000), .lit (.string [49, 48, 48, 48])], .agg [.lit (.string [104, 111, 115, 116, 115]), .lit (.int .i64 1), .lit (.int .i64 1), .lit (.int .i64 64), .lit (.string [53])], .agg [.lit (.string [114, 101, 113, 117, 101, 115, 116, 115]), .lit (.int .i64 1), .lit (.int .i64 1), .lit (.int .i64 1000), .lit (.string [49, 48, 48])], .agg [.lit (.string [102, 97, 99, 116, 111, 114]), .lit (.int .i64 1), .lit (.int .i64 0), .lit (.int .i64 10000), .lit (.string [49, 57, 48, 48])], .agg [.lit (.string [102, 97, 105, 108, 115]), .lit (.int .i64 1), .lit (.int .i64 0), .lit (.int .i64 100), .lit (.string [48])], .agg [.lit (.string [98, 97, 115, 101]), .lit (.int .i64 1), .lit (.int .i64 1), .lit (.int .i64 10000), .lit (.string [51, 48, 48, 48])], .agg [.lit (.string [101, 106, 101, 99, 116]), .lit (.int .i64 1), .lit (.int .i64 0), .lit (.int .i64 100), .lit (.string [49, 48])], .agg [.lit (.string [111, 110, 101]), .lit (.int .i64 2), .lit (.int .i64 0), .lit (.int .i64 0), .lit (.string [121, 101, 115])], .agg [.lit (.string [115, 108, 111, 119]), .lit (.int .i64 1), .lit (.int .i64 0), .lit (.int .i64 10000), .lit (.string [48])], .agg [.lit (.string [100, 114, 97, 105, 110]), .lit (.int .i64 1), .lit (.int .i64 1), .lit (.int .i64 10000), .lit (.string [53, 48, 48, 48])], .agg [.lit (.string [104, 111, 115, 116, 108, 105, 109, 105, 116]), .lit (.int .i64 1), .lit (.int .i64 1), .lit (.int .i64 1000), .lit (.string [49, 48, 48, 48])], .agg [.lit (.string [112, 111, 111, 108, 108, 105, 109, 105, 116]), .lit (.int .i64 1), .lit (.int .i64 1), .lit (.int .i64 10000), .lit (.string [49, 48, 48, 48, 48])], .agg [.lit (.string [112, 111, 108, 105, 99, 121]), .lit (.int .i64 3), .lit (.int .i64 1), .lit (.int .i64 3), .lit (.string [114, 111, 117, 110, 100])], .agg [.lit (.string [122, 111, 110, 101]), .lit (.int .i64 4), .lit (.int .i64 0), .lit (.int .i64 0), .lit (.string [45])], .agg [.lit (.string [102, 97, 108, 108, 98, 97, 99, 107]), .lit (.int .i64 2), .lit (.int .i64 0), .lit (.int .i64 0), .lit (.string [110, 111])]]

/-- 'triagelaw10.ProbeRises': WHATEVER THE INPUT: true; the input reads as it did. -/
def probeRisesSpec : ChangeSpec := { name := "probeRises", fn := fun _ => fun
  | [d1, d2, d3, d4, d5] => { results := [.lit (.bool true)], args := [d1, d2, d3, d4, d5] }
  | _ => none }
def probeRisesRow : OpenClaim := { program := "ytejjilnanmomcaadoor", sum := "a17e1b25411227d77a6ab57231bde2cb70a86568eba36d24933450cbebea727b", func := "triage/triagelaw10.ProbeRises", spec := "probeRises", named := ["triage/config.table", "internal/strconv.uint64pow10", "math/bits.deBruijn32tab", "math/bits.deBruijn64tab"], apart := false, laid := [("math/bits.deBruijn32tab", laid_math_bits_deBruijn32tab), ("math/bits.deBruijn64tab", laid_math_bits_deBruijn64tab), ("internal/strconv.uint64pow10", laid_internal_strconv_uint64pow10), ("triage/config.table", laid_triage_config_table)] }
def ProbeRisesSaid : Prop := probeRisesRow.holds Tryd.pinned (OpenSpec.ofChange probeRisesSpec)

/-- ITS FALSE NEIGHBOUR: 'it returns false'. Refute it at one input. -/
def probeRisesWrong : ChangeSpec := { name := "probeRises", fn := fun _ => fun
  | [d1, d2, d3, d4, d5] => { results := [.lit (.bool false)], args := [d1, d2, d3, d4, d5] }
  | _ => none }
def ProbeRisesWrongFalsely : Prop := probeRisesRow.holds Tryd.pinned (OpenSpec.ofChange probeRisesWrong)

/-- 'triagelaw10.ProbeForced': WHATEVER THE INPUT: true; the input reads as it did. -/
def probeForcedSpec : ChangeSpec := { name := "probeForced", fn := fun _ => fun
  | [d1, d2, d3] => { results := [.lit (.bool true)], args := [d1, d2, d3] }
  | _ => none }
def probeForcedRow : OpenClaim := { program := "ytejjilnanmomcaadoor", sum := "a17e1b25411227d77a6ab57231bde2cb70a86568eba36d24933450cbebea727b", func := "triage/triagelaw10.ProbeForced", spec := "probeForced", named := ["triage/config.table", "internal/strconv.uint64pow10", "math/bits.deBruijn32tab", "math/bits.deBruijn64tab"], apart := false, laid := [("math/bits.deBruijn32tab", laid_math_bits_deBruijn32tab), ("math/bits.deBruijn64tab", laid_math_bits_deBruijn64tab), ("internal/strconv.uint64pow10", laid_internal_strconv_uint64pow10), ("triage/config.table", laid_triage_config_table)] }
def ProbeForcedSaid : Prop := probeForcedRow.holds Tryd.pinned (OpenSpec.ofChange probeForcedSpec)

/-- ITS FALSE NEIGHBOUR: 'it returns false'. Refute it at one input. -/
def probeForcedWrong : ChangeSpec := { name := "probeForced", fn := fun _ => fun
  | [d1, d2, d3] => { results := [.lit (.bool false)], args := [d1, d2, d3] }
  | _ => none }
def ProbeForcedWrongFalsely : Prop := probeForcedRow.holds Tryd.pinned (OpenSpec.ofChange probeForcedWrong)

/-- 'triagelaw10.ProbeWaits': WHATEVER THE INPUT: true; the input reads as it did. -/
def probeWaitsSpec : ChangeSpec := { name := "probeWaits", fn := fun _ => fun
  | [d1, d2, d3] => { results := [.lit (.bool true)], args := [d1, d2, d3] }
  | _ => none }
def probeWaitsRow : OpenClaim := { program := "ytejjilnanmomcaadoor", sum := "a17e1b25411227d77a6ab57231bde2cb70a86568eba36d24933450cbebea727b", func := "triage/triagelaw10.ProbeWaits", spec := "probeWaits", named := ["triage/config.table", "internal/strconv.uint64pow10", "math/bits.deBruijn32tab", "math/bits.deBruijn64tab"], apart := false, laid := [("math/bits.deBruijn32tab", laid_math_bits_deBruijn32tab), ("math/bits.deBruijn64tab", laid_math_bits_deBruijn64tab), ("internal/strconv.uint64pow10", laid_internal_strconv_uint64pow10), ("triage/config.table", laid_triage_config_table)] }
def ProbeWaitsSaid : Prop := probeWaitsRow.holds Tryd.pinned (OpenSpec.ofChange probeWaitsSpec)

/-- ITS FALSE NEIGHBOUR: 'it returns false'. Refute it at one input. -/
def probeWaitsWrong : ChangeSpec := { name := "probeWaits", fn := fun _ => fun
  | [d1, d2, d3] => { results := [.lit (.bool false)], args := [d1, d2, d3] }
  | _ => none }
def ProbeWaitsWrongFalsely : Prop := probeWaitsRow.holds Tryd.pinned (OpenSpec.ofChange probeWaitsWrong)

/-- 'triagelaw10.ProbeTurns': WHATEVER THE INPUT: true; the input reads as it did. -/
def probeTurnsSpec : ChangeSpec := { name := "probeTurns", fn := fun _ => fun
  | [d1, d2] => { results := [.lit (.bool true)], args := [d1, d2] }
  | _ => none }
def probeTurnsRow : OpenClaim := { program := "ytejjilnanmomcaadoor", sum := "a17e1b25411227d77a6ab57231bde2cb70a86568eba36d24933450cbebea727b", func := "triage/triagelaw10.ProbeTurns", spec := "probeTurns", named := ["triage/config.table", "internal/strconv.uint64pow10", "math/bits.deBruijn32tab", "math/bits.deBruijn64tab"], apart := false, laid := [("math/bits.deBruijn32tab", laid_math_bits_deBruijn32tab), ("math/bits.deBruijn64tab", laid_math_bits_deBruijn64tab), ("internal/strconv.uint64pow10", laid_internal_strconv_uint64pow10), ("triage/config.table", laid_triage_config_table)] }
def ProbeTurnsSaid : Prop := probeTurnsRow.holds Tryd.pinned (OpenSpec.ofChange probeTurnsSpec)

/-- ITS FALSE NEIGHBOUR: 'it returns false'. Refute it at one input. -/
def probeTurnsWrong : ChangeSpec := { name := "probeTurns", fn := fun _ => fun
  | [d1, d2] => { results := [.lit (.bool false)], args := [d1, d2] }
  | _ => none }
def ProbeTurnsWrongFalsely : Prop := probeTurnsRow.holds Tryd.pinned (OpenSpec.ofChange probeTurnsWrong)

/- THE SECOND FORM. 'bulk': how many values and letters a reading holds, each counted each time it is reached (what is shared counts as often as it is met; a slice's spare places count too). A statement '..UptoSaid' is the law's where the arguments, and the package variables that the reading takes, are together of bulk at most 1048576: NARROWER than '..Said'. Prove '..Said' where nothing that the law and all that it calls make is longer than what came in: it says more and counts as full. Else prove '..UptoSaid'. A law counts once. -/
mutual
def uptoBulk {H : Type} : DataW H → Nat
  | .lit (.string bytes) => bytes.length + 1
  | .lit _ => 1
  | .nil => 1
  | .ptr d => uptoBulk d + 1
  | .slice elems spare => uptoBulkAll elems + uptoBulkAll spare + 1
  | .agg parts => uptoBulkAll parts + 1
  | .iface _ d => uptoBulk d + 1
  | .map entries => uptoBulkEntries entries + 1
  | .held _ => 1
def uptoBulkAll {H : Type} : List (DataW H) → Nat
  | [] => 0
  | d :: r => uptoBulk d + uptoBulkAll r
def uptoBulkEntries {H : Type} : List (Lit × DataW H) → Nat
  | [] => 0
  | x :: r => uptoBulkEntry x + uptoBulkEntries r
def uptoBulkEntry {H : Type} : Lit × DataW H → Nat
  | (.string bytes, d) => bytes.length + uptoBulk d + 1
  | (_, d) => uptoBulk d + 1
 end
def uptoSmall : (H : Type) → List (DataW H) → Bool := fun _ ds => decide (uptoBulkAll ds ≤ 1048576)
def OpenSpec.upto (s : _root_.Go.ChangeSpec) : _root_.Go.OpenSpec := { _root_.Go.OpenSpec.ofChange s with cond := some uptoSmall }

/-- 'triagelaw10.ProbeRises', WHERE WHAT IT READS IS OF BULK AT MOST 1048576: true; the input reads as it did. -/
def probeRisesUptoRow : OpenClaim := { program := "ytejjilnanmomcaadoor", sum := "a17e1b25411227d77a6ab57231bde2cb70a86568eba36d24933450cbebea727b", func := "triage/triagelaw10.ProbeRises", spec := "probeRises", named := ["triage/config.table", "internal/strconv.uint64pow10", "math/bits.deBruijn32tab", "math/bits.deBruijn64tab"], apart := false, laid := [("math/bits.deBruijn32tab", laid_math_bits_deBruijn32tab), ("math/bits.deBruijn64tab", laid_math_bits_deBruijn64tab), ("internal/strconv.uint64pow10", laid_internal_strconv_uint64pow10), ("triage/config.table", laid_triage_config_table)], narrowed := true }
def ProbeRisesUptoSaid : Prop := probeRisesUptoRow.holds Tryd.pinned (OpenSpec.upto probeRisesSpec)

/-- 'triagelaw10.ProbeForced', WHERE WHAT IT READS IS OF BULK AT MOST 1048576: true; the input reads as it did. -/
def probeForcedUptoRow : OpenClaim := { program := "ytejjilnanmomcaadoor", sum := "a17e1b25411227d77a6ab57231bde2cb70a86568eba36d24933450cbebea727b", func := "triage/triagelaw10.ProbeForced", spec := "probeForced", named := ["triage/config.table", "internal/strconv.uint64pow10", "math/bits.deBruijn32tab", "math/bits.deBruijn64tab"], apart := false, laid := [("math/bits.deBruijn32tab", laid_math_bits_deBruijn32tab), ("math/bits.deBruijn64tab", laid_math_bits_deBruijn64tab), ("internal/strconv.uint64pow10", laid_internal_strconv_uint64pow10), ("triage/config.table", laid_triage_config_table)], narrowed := true }
def ProbeForcedUptoSaid : Prop := probeForcedUptoRow.holds Tryd.pinned (OpenSpec.upto probeForcedSpec)

/-- 'triagelaw10.ProbeWaits', WHERE WHAT IT READS IS OF BULK AT MOST 1048576: true; the input reads as it did. -/
def probeWaitsUptoRow : OpenClaim := { program := "ytejjilnanmomcaadoor", sum := "a17e1b25411227d77a6ab57231bde2cb70a86568eba36d24933450cbebea727b", func := "triage/triagelaw10.ProbeWaits", spec := "probeWaits", named := ["triage/config.table", "internal/strconv.uint64pow10", "math/bits.deBruijn32tab", "math/bits.deBruijn64tab"], apart := false, laid := [("math/bits.deBruijn32tab", laid_math_bits_deBruijn32tab), ("math/bits.deBruijn64tab", laid_math_bits_deBruijn64tab), ("internal/strconv.uint64pow10", laid_internal_strconv_uint64pow10), ("triage/config.table", laid_triage_config_table)], narrowed := true }
def ProbeWaitsUptoSaid : Prop := probeWaitsUptoRow.holds Tryd.pinned (OpenSpec.upto probeWaitsSpec)

/-- 'triagelaw10.ProbeTurns', WHERE WHAT IT READS IS OF BULK AT MOST 1048576: true; the input reads as it did. -/
def probeTurnsUptoRow : OpenClaim := { program := "ytejjilnanmomcaadoor", sum := "a17e1b25411227d77a6ab57231bde2cb70a86568eba36d24933450cbebea727b", func := "triage/triagelaw10.ProbeTurns", spec := "probeTurns", named := ["triage/config.table", "internal/strconv.uint64pow10", "math/bits.deBruijn32tab", "math/bits.deBruijn64tab"], apart := false, laid := [("math/bits.deBruijn32tab", laid_math_bits_deBruijn32tab), ("math/bits.deBruijn64tab", laid_math_bits_deBruijn64tab), ("internal/strconv.uint64pow10", laid_internal_strconv_uint64pow10), ("triage/config.table", laid_triage_config_table)], narrowed := true }
def ProbeTurnsUptoSaid : Prop := probeTurnsUptoRow.holds Tryd.pinned (OpenSpec.upto probeTurnsSpec)

end Rows
end Go.Proofs.YtejjilnanmomcaaDoor
