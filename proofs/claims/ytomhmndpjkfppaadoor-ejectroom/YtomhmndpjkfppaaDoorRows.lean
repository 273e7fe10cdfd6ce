/-
  NARROWER THAN 'FOR EVERY INPUT', by the rows' own cells (each row's printed sentence says how): EjectCap: laid · EjectLonger: laid · EjectFirst: laid · EjectRoom: laid.
  DERIVED. THE GIVEN ROWS OF THIS SEAT. 4 by the template 'for every input the law returns true; each argument reads behind the call as it read before'; 0 by the template 'total and deterministic' (their statements: YtomhmndpjkfppaaDoorTotals.lean).
  GIVEN WITH THE SEED: the statements are not yours to turn. If you find one false, say at which input.
  Laid BY PROGRAM, IN A SANDBOX (cutbox-rows.mjs): the forced cells as the released guide's own fill.sh prints them over the translation d77e86d5f6f2d946… (all of the seat's roots in one cut). By AI agents, Wed Nov 11 2026. No macro, syntax, notation, axiom, sorry.
-/
import Derived.Test.YtomhmndpjkfppaaDoorChecked
import GoSem.Claim
import GoSem.ClaimJoined
import GoSem.ClaimMapViews
import Derived.JoinedTies
import Derived.KernelRfl
namespace Go.Proofs.YtomhmndpjkfppaaDoor
/- THE CELL 'sum', in the pinned program and in every row, IS THE sha256 OF THE DUMP (.gsa) THAT YtomhmndpjkfppaaDoorProg.lean LOADS. Nothing in Lean hashes anything: it is a label: what it is worth is what the hold of that sum in a sandbox is worth. -/
noncomputable def Tryd.pinned : Pinned := { name := "ytomhmndpjkfppaadoor", sum := "d77e86d5f6f2d9467e700ce70717d98afebb3ee8ac94caceeed85c71e7029008", checked := Tryd.checked }
namespace Rows
def none {H : Type} : Left H := { results := [], args := [] }

/- WHAT THE LISTED PACKAGE-LEVEL VARIABLES READ AS WHEN THE CALL BEGINS. Each datum BY PROGRAM (the guide's laid-datum.mjs) off the statement by which the dump's own 'gosem.cut.vars' lays the variable. In a bare row this is a premise. The card (YtomhmndpjkfppaaDoorCards.lean) ties it to the program's text. -/
def laid_triage_config_table {H : Type} : DataW H := .agg [.agg [.lit (.string [105, 110, 116, 101, 114, 118, 97, 108]), .lit (.int .i64 1), .lit (.int .i64 10), .lit (.int .i64 10000), .lit (.string [49, 48, 48])], .agg [.lit (.string [116, 105, 109, 101, 111, 117, 116]), .lit (.int .i64 1), .lit (.int .i64 1), .lit (.int .i64 10000), .lit (.string [50, 48])], .agg [.lit (.string [106, 105, 116, 116, 101, 114]), .lit (.int .i64 1), .lit (.int .i64 0), .lit (.int .i64 1000), .lit (.string [48])], .agg [.lit (.string [114, 105, 115, 101]), .lit (.int .i64 1), .lit (.int .i64 1), .lit (.int .i64 10), .lit (.string [50])], .agg [.lit (.string [102, 97, 108, 108]), .lit (.int .i64 1), .lit (.int .i64 1), .lit (.int .i64 10), .lit (.string [51])], .agg [.lit (.string [112, 97, 110, 105, 99]), .lit (.int .i64 1), .lit (.int .i64 0), .lit (.int .i64 100), .lit (.string [53, 48])], .agg [.lit (.string [111, 118, 101, 114]), .lit (.int .i64 1), .lit (.int .i64 100), .lit (.int .i64 1000), .lit (.string [49, 52, 48])], .agg [.lit (.string [101, 114, 114, 111, 114, 115]), .lit (.int .i64 1), .lit (.int .i64 0), .lit (.int .i64 100), .lit (.string [53])], .agg [.lit (.string [115, 119, 101, 101, 112]), .lit (.int .i64 1), .lit (.int .i64 10), .lit (.int .i64 10000), .lit (.string [49, 48, 48, 48])], .agg [.lit (.string [104, 111, 115, 116, 115]), .lit (.int .i64 1), .lit (.int .i64 1), .lit (.int .i64 64), .lit (.string [53])], .agg [.lit (.string [114, 101, 113, 117, 101, 115, 116, 115]), .lit (.int .i64 1), .lit (.int .i64 1), .lit (.int .i64 1000), .lit (.string [49, 48, 48])], .agg [.lit (.string [102, 97, 99, 116, 111, 114]), .lit (.int .i64 1), .lit (.int .i64 0), .lit (.int .i64 10000), .lit (.string [49, 57, 48, 48])], .agg [.lit (.string [102, 97, 105, 108, 115]), .lit (.int .i64 1), .lit (.int .i64 0), .lit (.int .i64 100), .lit (.string [48])], .agg [.lit (.string [98, 97, 115, 101]), .lit (.int .i64 1), .lit (.int .i64 1), .lit (.int .i64 10000), .lit (.string [51, 48, 48, 48])], .agg [.lit (.string [101, 106, 101, 99, 116]), .lit (.int .i64 1), .lit (.int .i64 0), .lit (.int .i64 100), .lit (.string [49, 48])], .agg [.lit (.string [111, 110, 101]), .lit (.int .i64 2), .lit (.int .i64 0), .lit (.int .i64 0), .lit (.string [121, 101, 115])], .agg [.lit (.string [115, 108, 111, 119]), .lit (.int .i64 1), .lit (.int .i64 0), .lit (.int .i64 10000), .lit (.string [48])], .agg [.lit (.string [100, 114, 97, 105, 110]), .lit (.int .i64 1), .lit (.int .i64 1), .lit (.int .i64 10000), .lit (.string [53, 48, 48, 48])], .agg [.lit (.string [104, 111, 115, 116, 108, 105, 109, 105, 116]), .lit (.int .i64 1), .lit (.int .i64 1), .lit (.int .i64 1000), .lit (.string [49, 48, 48, 48])], .agg [.lit (.string [112, 111, 111, 108, 108, 105, 109, 105, 116]), .lit (.int .i64 1), .lit (.int .i64 1), .lit (.int .i64 10000), .lit (.string [49, 48, 48, 48, 48])], .agg [.lit (.string [112, 111, 108, 105, 99, 121]), .lit (.int .i64 3), .lit (.int .i64 1), .lit (.int .i64 3), .lit (.string [114, 111, 117, 110, 100])], .agg [.lit (.string [122, 111, 110, 101]), .lit (.int .i64 4), .lit (.int .i64 0), .lit (.int .i64 0), .lit (.string [45])], .agg [.lit (.string [102, 97, 108, 108, 98, 97, 99, 107]), .lit (.int .i64 2), .lit (.int .i64 0), .lit (.int .i64 0), .lit (.string [110, 111])]]

/-- 'triagelaw14.EjectCap': WHATEVER THE INPUT: true; the input reads as it did. -/
def ejectCapSpec : ChangeSpec := { name := "ejectCap", fn := fun _ => fun
  | [d1, d2] => { results := [.lit (.bool true)], args := [d1, d2] }
  | _ => none }
def ejectCapRow : OpenClaim := { program := "ytomhmndpjkfppaadoor", sum := "d77e86d5f6f2d9467e700ce70717d98afebb3ee8ac94caceeed85c71e7029008", func := "triage/triagelaw14.EjectCap", spec := "ejectCap", named := ["triage/config.table"], apart := false, laid := [("triage/config.table", laid_triage_config_table)] }
def EjectCapSaid : Prop := ejectCapRow.holds Tryd.pinned (OpenSpec.ofChange ejectCapSpec)

/-- ITS FALSE NEIGHBOUR: 'it returns false'. Refute it at one input. -/
def ejectCapWrong : ChangeSpec := { name := "ejectCap", fn := fun _ => fun
  | [d1, d2] => { results := [.lit (.bool false)], args := [d1, d2] }
  | _ => none }
def EjectCapWrongFalsely : Prop := ejectCapRow.holds Tryd.pinned (OpenSpec.ofChange ejectCapWrong)

/-- 'triagelaw14.EjectLonger': WHATEVER THE INPUT: true; the input reads as it did. -/
def ejectLongerSpec : ChangeSpec := { name := "ejectLonger", fn := fun _ => fun
  | [d1, d2, d3] => { results := [.lit (.bool true)], args := [d1, d2, d3] }
  | _ => none }
def ejectLongerRow : OpenClaim := { program := "ytomhmndpjkfppaadoor", sum := "d77e86d5f6f2d9467e700ce70717d98afebb3ee8ac94caceeed85c71e7029008", func := "triage/triagelaw14.EjectLonger", spec := "ejectLonger", named := ["triage/config.table"], apart := false, laid := [("triage/config.table", laid_triage_config_table)] }
def EjectLongerSaid : Prop := ejectLongerRow.holds Tryd.pinned (OpenSpec.ofChange ejectLongerSpec)

/-- ITS FALSE NEIGHBOUR: 'it returns false'. Refute it at one input. -/
def ejectLongerWrong : ChangeSpec := { name := "ejectLonger", fn := fun _ => fun
  | [d1, d2, d3] => { results := [.lit (.bool false)], args := [d1, d2, d3] }
  | _ => none }
def EjectLongerWrongFalsely : Prop := ejectLongerRow.holds Tryd.pinned (OpenSpec.ofChange ejectLongerWrong)

/-- 'triagelaw14.EjectFirst': WHATEVER THE INPUT: true; the input reads as it did. -/
def ejectFirstSpec : ChangeSpec := { name := "ejectFirst", fn := fun _ => fun
  | [d1, d2] => { results := [.lit (.bool true)], args := [d1, d2] }
  | _ => none }
def ejectFirstRow : OpenClaim := { program := "ytomhmndpjkfppaadoor", sum := "d77e86d5f6f2d9467e700ce70717d98afebb3ee8ac94caceeed85c71e7029008", func := "triage/triagelaw14.EjectFirst", spec := "ejectFirst", named := ["triage/config.table"], apart := false, laid := [("triage/config.table", laid_triage_config_table)] }
def EjectFirstSaid : Prop := ejectFirstRow.holds Tryd.pinned (OpenSpec.ofChange ejectFirstSpec)

/-- ITS FALSE NEIGHBOUR: 'it returns false'. Refute it at one input. -/
def ejectFirstWrong : ChangeSpec := { name := "ejectFirst", fn := fun _ => fun
  | [d1, d2] => { results := [.lit (.bool false)], args := [d1, d2] }
  | _ => none }
def EjectFirstWrongFalsely : Prop := ejectFirstRow.holds Tryd.pinned (OpenSpec.ofChange ejectFirstWrong)

/-- 'triagelaw14.EjectRoom': WHATEVER THE INPUT: true; the input reads as it did. -/
def ejectRoomSpec : ChangeSpec := { name := "ejectRoom", fn := fun _ => fun
  | [d1, d2, d3] => { results := [.lit (.bool true)], args := [d1, d2, d3] }
  | _ => none }
def ejectRoomRow : OpenClaim := { program := "ytomhmndpjkfppaadoor", sum := "d77e86d5f6f2d9467e700ce70717d98afebb3ee8ac94caceeed85c71e7029008", func := "triage/triagelaw14.EjectRoom", spec := "ejectRoom", named := ["triage/config.table"], apart := false, laid := [("triage/config.table", laid_triage_config_table)] }
def EjectRoomSaid : Prop := ejectRoomRow.holds Tryd.pinned (OpenSpec.ofChange ejectRoomSpec)

/-- ITS FALSE NEIGHBOUR: 'it returns false'. Refute it at one input. -/
def ejectRoomWrong : ChangeSpec := { name := "ejectRoom", fn := fun _ => fun
  | [d1, d2, d3] => { results := [.lit (.bool false)], args := [d1, d2, d3] }
  | _ => none }
def EjectRoomWrongFalsely : Prop := ejectRoomRow.holds Tryd.pinned (OpenSpec.ofChange ejectRoomWrong)

/- THE SECOND FORM. 'bulk': how many values and letters a reading holds, each counted each time it is reached (what is shared counts as often as it is met; a slice's spare places count too). A statement '..UptoSaid' is the law's where the arguments, and the package variables that the reading takes, are together of bulk at most 1048576: NARROWER than '..Said'. Prove '..Said' where nothing that the law and all that it calls make is longer than what came in: it says more and counts as full. Else prove '..UptoSaid'. A law counts once. -/
mutual
def uptoBulk {H : Type} : DataW H → Nat
  | .lit (.string bytes) => bytes.length + 1
  | .lit _ => 1
  | .nil => 1
  | .ptr d => uptoBulk d + 1
  | .slice elems spare => uptoBulkAll elems + uptoBulkAll spare + 1
  | .agg parts => uptoBulkAll parts + 1
  | .iface _ d => uptoBulk d + 1
  | .map entries => uptoBulkEntries entries + 1
  | .held _ => 1
def uptoBulkAll {H : Type} : List (DataW H) → Nat
  | [] => 0
  | d :: r => uptoBulk d + uptoBulkAll r
def uptoBulkEntries {H : Type} : List (Lit × DataW H) → Nat
  | [] => 0
  | x :: r => uptoBulkEntry x + uptoBulkEntries r
def uptoBulkEntry {H : Type} : Lit × DataW H → Nat
  | (.string bytes, d) => bytes.length + uptoBulk d + 1
  | (_, d) => uptoBulk d + 1
 end
def uptoSmall : (H : Type) → List (DataW H) → Bool := fun _ ds => decide (uptoBulkAll ds ≤ 1048576)
def OpenSpec.upto (s : _root_.Go.ChangeSpec) : _root_.Go.OpenSpec := { _root_.Go.OpenSpec.ofChange s with cond := some uptoSmall }

/-- 'triagelaw14.EjectCap', WHERE WHAT IT READS IS OF BULK AT MOST 1048576: true; the input reads as it did. -/
def ejectCapUptoRow : OpenClaim := { program := "ytomhmndpjkfppaadoor", sum := "d77e86d5f6f2d9467e700ce70717d98afebb3ee8ac94caceeed85c71e7029008", func := "triage/triagelaw14.EjectCap", spec := "ejectCap", named := ["triage/config.table"], apart := false, laid := [("triage/config.table", laid_triage_config_table)], narrowed := true }
def EjectCapUptoSaid : Prop := ejectCapUptoRow.holds Tryd.pinned (OpenSpec.upto ejectCapSpec)

/-- 'triagelaw14.EjectLonger', WHERE WHAT IT READS IS OF BULK AT MOST 1048576: true; the input reads as it did. -/
def ejectLongerUptoRow : OpenClaim := { program := "ytomhmndpjkfppaadoor", sum := "d77e86d5f6f2d9467e700ce70717d98afebb3ee8ac94caceeed85c71e7029008", func := "triage/triagelaw14.EjectLonger", spec := "ejectLonger", named := ["triage/config.table"], apart := false, laid := [("triage/config.table", laid_triage_config_table)], narrowed := true }
def EjectLongerUptoSaid : Prop := ejectLongerUptoRow.holds Tryd.pinned (OpenSpec.upto ejectLongerSpec)

/-- 'triagelaw14.EjectFirst', WHERE WHAT IT READS IS OF BULK AT MOST 1048576: true; the input reads as it did. -/
def ejectFirstUptoRow : OpenClaim := { program := "ytomhmndpjkfppaadoor", sum := "d77e86d5f6f2d9467e700ce70717d98afebb3ee8ac94caceeed85c71e7029008", func := "triage/triagelaw14.EjectFirst", spec := "ejectFirst", named := ["triage/config.table"], apart := false, laid := [("triage/config.table", laid_triage_config_table)], narrowed := true }
def EjectFirstUptoSaid : Prop := ejectFirstUptoRow.holds Tryd.pinned (OpenSpec.upto ejectFirstSpec)

/-- 'triagelaw14.EjectRoom', WHERE WHAT IT READS IS OF BULK AT MOST 1048576: true; the input reads as it did. -/
def ejectRoomUptoRow : OpenClaim := { program := "ytomhmndpjkfppaadoor", sum := "d77e86d5f6f2d9467e700ce70717d98afebb3ee8ac94caceeed85c71e7029008", func := "triage/triagelaw14.EjectRoom", spec := "ejectRoom", named := ["triage/config.table"], apart := false, laid := [("triage/config.table", laid_triage_config_table)], narrowed := true }
def EjectRoomUptoSaid : Prop := ejectRoomUptoRow.holds Tryd.pinned (OpenSpec.upto ejectRoomSpec)

end Rows
end Go.Proofs.YtomhmndpjkfppaaDoor
