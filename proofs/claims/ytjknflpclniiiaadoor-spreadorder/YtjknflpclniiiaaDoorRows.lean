/-
  NARROWER THAN 'FOR EVERY INPUT', by the rows' own cells (each row's printed sentence says how): SpreadForms: laid · SpreadNobody: laid · SpreadOrder: laid · SpreadEnough: laid.
  DERIVED. THE GIVEN ROWS OF THIS SEAT. 4 by the template 'for every input the law returns true; each argument reads behind the call as it read before'; 0 by the template 'total and deterministic' (their statements: YtjknflpclniiiaaDoorTotals.lean).
  GIVEN WITH THE SEED: the statements are not yours to turn. If you find one false, say at which input.
  Laid BY PROGRAM, IN A SANDBOX (cutbox-rows.mjs): the forced cells as the released guide's own fill.sh prints them over the translation 81591d6fbdaf52aa… (all of the seat's roots in one cut). By AI agents, Wed Nov 11 2026. No macro, syntax, notation, axiom, sorry.
-/
import Derived.Test.YtjknflpclniiiaaDoorChecked
import GoSem.Claim
import GoSem.ClaimJoined
import GoSem.ClaimMapViews
import Derived.JoinedTies
import Derived.KernelRfl
namespace Go.Proofs.YtjknflpclniiiaaDoor
/- THE CELL 'sum', in the pinned program and in every row, IS THE sha256 OF THE DUMP (.gsa) THAT YtjknflpclniiiaaDoorProg.lean LOADS. Nothing in Lean hashes anything: it is a label: what it is worth is what the hold of that sum in a sandbox is worth. -/
noncomputable def Tryd.pinned : Pinned := { name := "ytjknflpclniiiaadoor", sum := "81591d6fbdaf52aab17d39a19d48b78906afed87169a743cdbb6833263b482e2", checked := Tryd.checked }
namespace Rows
def none {H : Type} : Left H := { results := [], args := [] }

/- WHAT THE LISTED PACKAGE-LEVEL VARIABLES READ AS WHEN THE CALL BEGINS. Each datum BY PROGRAM (the guide's laid-datum.mjs) off the statement by which the dump's own 'gosem.cut.vars' lays the variable. In a bare row this is a premise. The card (YtjknflpclniiiaaDoorCards.lean) ties it to the program's text. -/
def laid_triage_config_table {H : Type} : DataW H := .agg [.agg [.lit (.string [105, 110, 116, 101, 114, 118, 97, 108]), .lit (.int .i64 1), .lit (.int .i64 10), .lit (.int .i64 10000), .lit (.string [49, 48, 48])], .agg [.lit (.string [116, 105, 109, 101, 111, 117, 116]), .lit (.int .i64 1), .lit (.int .i64 1), .lit (.int .i64 10000), .lit (.string [50, 48])], .agg [.lit (.string [106, 105, 116, 116, 101, 114]), .lit (.int .i64 1), .lit (.int .i64 0), .lit (.int .i64 1000), .lit (.string [48])], .agg [.lit (.string [114, 105, 115, 101]), .lit (.int .i64 1), .lit (.int .i64 1), .lit (.int .i64 10), .lit (.string [50])], .agg [.lit (.string [102, 97, 108, 108]), .lit (.int .i64 1), .lit (.int .i64 1), .lit (.int .i64 10), .lit (.string [51])], .agg [.lit (.string [112, 97, 110, 105, 99]), .lit (.int .i64 1), .lit (.int .i64 0), .lit (.int .i64 100), .lit (.string [53, 48])], .agg [.lit (.string [111, 118, 101, 114]), .lit (.int .i64 1), .lit (.int .i64 100), .lit (.int .i64 1000), .lit (.string [49, 52, 48])], .agg [.lit (.string [101, 114, 114, 111, 114, 115]), .lit (.int .i64 1), .lit (.int .i64 0), .lit (.int .i64 100), .lit (.string [53])], .agg [.lit (.string [115, 119, 101, 101, 112]), .lit (.int .i64 1), .lit (.int .i64 10), .lit (.int .i64 10000), .lit (.string [49, 48, 48, 48])], .agg [.lit (.string [104, 111, 115, 116, 115]), .lit (.int .i64 1), .lit (.int .i64 1), .lit (.int .i64 64), .lit (.string [53])], .agg [.lit (.string [114, 101, 113, 117, 101, 115, 116, 115]), .lit (.int .i64 1), .lit (.int .i64 1), .lit (.int .i64 1000), .lit (.string [49, 48, 48])], .agg [.lit (.string [102, 97, 99, 116, 111, 114]), .lit (.int .i64 1), .lit (.int .i64 0), .lit (.int .i64 10000), .lit (.string [49, 57, 48, 48])], .agg [.lit (.string [102, 97, 105, 108, 115]), .lit (.int .i64 1), .lit (.int .i64 0), .lit (.int .i64 100), .lit (.string [48])], .agg [.lit (.string [98, 97, 115, 101]), .lit (.int .i64 1), .lit (.int .i64 1), .lit (.int .i64 10000), .lit (.string [51, 48, 48, 48])], .agg [.lit (.string [101, 106, 101, 99, 116]), .lit (.int .i64 1), .lit (.int .i64 0), .lit (.int .i64 100), .lit (.string [49, 48])], .agg [.lit (.string [111, 110, 101]), .lit (.int .i64 2), .lit (.int .i64 0), .lit (.int .i64 0), .lit (.string [121, 101, 115])], .agg [.lit (.string [115, 108, 111, 119]), .lit (.int .i64 1), .lit (.int .i64 0), .lit (.int .i64 10000), .lit (.string [48])], .agg [.lit (.string [100, 114, 97, 105, 110]), .lit (.int .i64 1), .lit (.int .i64 1), .lit (.int .i64 10000), .lit (.string [53, 48, 48, 48])], .agg [.lit (.string [104, 111, 115, 116, 108, 105, 109, 105, 116]), .lit (.int .i64 1), .lit (.int .i64 1), .lit (.int .i64 1000), .lit (.string [49, 48, 48, 48])], .agg [.lit (.string [112, 111, 111, 108, 108, 105, 109, 105, 116]), .lit (.int .i64 1), .lit (.int .i64 1), .lit (.int .i64 10000), .lit (.string [49, 48, 48, 48, 48])], .agg [.lit (.string [112, 111, 108, 105, 99, 121]), .lit (.int .i64 3), .lit (.int .i64 1), .lit (.int .i64 3), .lit (.string [114, 111, 117, 110, 100])], .agg [.lit (.string [122, 111, 110, 101]), .lit (.int .i64 4), .lit (.int .i64 0), .lit (.int .i64 0), .lit (.string [45])], .agg [.lit (.string [102, 97, 108, 108, 98, 97, 99, 107]), .lit (.int .i64 2), .lit (.int .i64 0), .lit (.int .i64 0), .lit (.string [110, 111])]]

/-- 'triagelaw13.SpreadForms': WHATEVER THE INPUT: true; the input reads as it did. -/
def spreadFormsSpec : ChangeSpec := { name := "spreadForms", fn := fun _ => fun
  | [d1, d2, d3, d4] => { results := [.lit (.bool true)], args := [d1, d2, d3, d4] }
  | _ => none }
def spreadFormsRow : OpenClaim := { program := "ytjknflpclniiiaadoor", sum := "81591d6fbdaf52aab17d39a19d48b78906afed87169a743cdbb6833263b482e2", func := "triage/triagelaw13.SpreadForms", spec := "spreadForms", named := ["triage/config.table"], apart := false, laid := [("triage/config.table", laid_triage_config_table)] }
def SpreadFormsSaid : Prop := spreadFormsRow.holds Tryd.pinned (OpenSpec.ofChange spreadFormsSpec)

/-- ITS FALSE NEIGHBOUR: 'it returns false'. Refute it at one input. -/
def spreadFormsWrong : ChangeSpec := { name := "spreadForms", fn := fun _ => fun
  | [d1, d2, d3, d4] => { results := [.lit (.bool false)], args := [d1, d2, d3, d4] }
  | _ => none }
def SpreadFormsWrongFalsely : Prop := spreadFormsRow.holds Tryd.pinned (OpenSpec.ofChange spreadFormsWrong)

/-- 'triagelaw13.SpreadNobody': WHATEVER THE INPUT: true; the input reads as it did. -/
def spreadNobodySpec : ChangeSpec := { name := "spreadNobody", fn := fun _ => fun
  | [d1, d2, d3] => { results := [.lit (.bool true)], args := [d1, d2, d3] }
  | _ => none }
def spreadNobodyRow : OpenClaim := { program := "ytjknflpclniiiaadoor", sum := "81591d6fbdaf52aab17d39a19d48b78906afed87169a743cdbb6833263b482e2", func := "triage/triagelaw13.SpreadNobody", spec := "spreadNobody", named := ["triage/config.table"], apart := false, laid := [("triage/config.table", laid_triage_config_table)] }
def SpreadNobodySaid : Prop := spreadNobodyRow.holds Tryd.pinned (OpenSpec.ofChange spreadNobodySpec)

/-- ITS FALSE NEIGHBOUR: 'it returns false'. Refute it at one input. -/
def spreadNobodyWrong : ChangeSpec := { name := "spreadNobody", fn := fun _ => fun
  | [d1, d2, d3] => { results := [.lit (.bool false)], args := [d1, d2, d3] }
  | _ => none }
def SpreadNobodyWrongFalsely : Prop := spreadNobodyRow.holds Tryd.pinned (OpenSpec.ofChange spreadNobodyWrong)

/-- 'triagelaw13.SpreadOrder': WHATEVER THE INPUT: true; the input reads as it did. -/
def spreadOrderSpec : ChangeSpec := { name := "spreadOrder", fn := fun _ => fun
  | [d1, d2, d3] => { results := [.lit (.bool true)], args := [d1, d2, d3] }
  | _ => none }
def spreadOrderRow : OpenClaim := { program := "ytjknflpclniiiaadoor", sum := "81591d6fbdaf52aab17d39a19d48b78906afed87169a743cdbb6833263b482e2", func := "triage/triagelaw13.SpreadOrder", spec := "spreadOrder", named := ["triage/config.table"], apart := false, laid := [("triage/config.table", laid_triage_config_table)] }
def SpreadOrderSaid : Prop := spreadOrderRow.holds Tryd.pinned (OpenSpec.ofChange spreadOrderSpec)

/-- ITS FALSE NEIGHBOUR: 'it returns false'. Refute it at one input. -/
def spreadOrderWrong : ChangeSpec := { name := "spreadOrder", fn := fun _ => fun
  | [d1, d2, d3] => { results := [.lit (.bool false)], args := [d1, d2, d3] }
  | _ => none }
def SpreadOrderWrongFalsely : Prop := spreadOrderRow.holds Tryd.pinned (OpenSpec.ofChange spreadOrderWrong)

/-- 'triagelaw13.SpreadEnough': WHATEVER THE INPUT: true; the input reads as it did. -/
def spreadEnoughSpec : ChangeSpec := { name := "spreadEnough", fn := fun _ => fun
  | [d1, d2] => { results := [.lit (.bool true)], args := [d1, d2] }
  | _ => none }
def spreadEnoughRow : OpenClaim := { program := "ytjknflpclniiiaadoor", sum := "81591d6fbdaf52aab17d39a19d48b78906afed87169a743cdbb6833263b482e2", func := "triage/triagelaw13.SpreadEnough", spec := "spreadEnough", named := ["triage/config.table"], apart := false, laid := [("triage/config.table", laid_triage_config_table)] }
def SpreadEnoughSaid : Prop := spreadEnoughRow.holds Tryd.pinned (OpenSpec.ofChange spreadEnoughSpec)

/-- ITS FALSE NEIGHBOUR: 'it returns false'. Refute it at one input. -/
def spreadEnoughWrong : ChangeSpec := { name := "spreadEnough", fn := fun _ => fun
  | [d1, d2] => { results := [.lit (.bool false)], args := [d1, d2] }
  | _ => none }
def SpreadEnoughWrongFalsely : Prop := spreadEnoughRow.holds Tryd.pinned (OpenSpec.ofChange spreadEnoughWrong)

/- THE SECOND FORM. 'bulk': how many values and letters a reading holds, each counted each time it is reached (what is shared counts as often as it is met; a slice's spare places count too). A statement '..UptoSaid' is the law's where the arguments, and the package variables that the reading takes, are together of bulk at most 1048576: NARROWER than '..Said'. Prove '..Said' where nothing that the law and all that it calls make is longer than what came in: it says more and counts as full. Else prove '..UptoSaid'. A law counts once. -/
mutual
def uptoBulk {H : Type} : DataW H → Nat
  | .lit (.string bytes) => bytes.length + 1
  | .lit _ => 1
  | .nil => 1
  | .ptr d => uptoBulk d + 1
  | .slice elems spare => uptoBulkAll elems + uptoBulkAll spare + 1
  | .agg parts => uptoBulkAll parts + 1
  | .iface _ d => uptoBulk d + 1
  | .map entries => uptoBulkEntries entries + 1
  | .held _ => 1
def uptoBulkAll {H : Type} : List (DataW H) → Nat
  | [] => 0
  | d :: r => uptoBulk d + uptoBulkAll r
def uptoBulkEntries {H : Type} : List (Lit × DataW H) → Nat
  | [] => 0
  | x :: r => uptoBulkEntry x + uptoBulkEntries r
def uptoBulkEntry {H : Type} : Lit × DataW H → Nat
  | (.string bytes, d) => bytes.length + uptoBulk d + 1
  | (_, d) => uptoBulk d + 1
 end
def uptoSmall : (H : Type) → List (DataW H) → Bool := fun _ ds => decide (uptoBulkAll ds ≤ 1048576)
def OpenSpec.upto (s : _root_.Go.ChangeSpec) : _root_.Go.OpenSpec := { _root_.Go.OpenSpec.ofChange s with cond := some uptoSmall }

/-- 'triagelaw13.SpreadForms', WHERE WHAT IT READS IS OF BULK AT MOST 1048576: true; the input reads as it did. -/
def spreadFormsUptoRow : OpenClaim := { program := "ytjknflpclniiiaadoor", sum := "81591d6fbdaf52aab17d39a19d48b78906afed87169a743cdbb6833263b482e2", func := "triage/triagelaw13.SpreadForms", spec := "spreadForms", named := ["triage/config.table"], apart := false, laid := [("triage/config.table", laid_triage_config_table)], narrowed := true }
def SpreadFormsUptoSaid : Prop := spreadFormsUptoRow.holds Tryd.pinned (OpenSpec.upto spreadFormsSpec)

/-- 'triagelaw13.SpreadNobody', WHERE WHAT IT READS IS OF BULK AT MOST 1048576: true; the input reads as it did. -/
def spreadNobodyUptoRow : OpenClaim := { program := "ytjknflpclniiiaadoor", sum := "81591d6fbdaf52aab17d39a19d48b78906afed87169a743cdbb6833263b482e2", func := "triage/triagelaw13.SpreadNobody", spec := "spreadNobody", named := ["triage/config.table"], apart := false, laid := [("triage/config.table", laid_triage_config_table)], narrowed := true }
def SpreadNobodyUptoSaid : Prop := spreadNobodyUptoRow.holds Tryd.pinned (OpenSpec.upto spreadNobodySpec)

/-- 'triagelaw13.SpreadOrder', WHERE WHAT IT READS IS OF BULK AT MOST 1048576: true; the input reads as it did. -/
def spreadOrderUptoRow : OpenClaim := { program := "ytjknflpclniiiaadoor", sum := "81591d6fbdaf52aab17d39a19d48b78906afed87169a743cdbb6833263b482e2", func := "triage/triagelaw13.SpreadOrder", spec := "spreadOrder", named := ["triage/config.table"], apart := false, laid := [("triage/config.table", laid_triage_config_table)], narrowed := true }
def SpreadOrderUptoSaid : Prop := spreadOrderUptoRow.holds Tryd.pinned (OpenSpec.upto spreadOrderSpec)

/-- 'triagelaw13.SpreadEnough', WHERE WHAT IT READS IS OF BULK AT MOST 1048576: true; the input reads as it did. -/
def spreadEnoughUptoRow : OpenClaim := { program := "ytjknflpclniiiaadoor", sum := "81591d6fbdaf52aab17d39a19d48b78906afed87169a743cdbb6833263b482e2", func := "triage/triagelaw13.SpreadEnough", spec := "spreadEnough", named := ["triage/config.table"], apart := false, laid := [("triage/config.table", laid_triage_config_table)], narrowed := true }
def SpreadEnoughUptoSaid : Prop := spreadEnoughUptoRow.holds Tryd.pinned (OpenSpec.upto spreadEnoughSpec)

end Rows
end Go.Proofs.YtjknflpclniiiaaDoor
