/-
  DERIVED. GIVEN WITH THE SEED: THE CARDS: each row of YtjknflpclniiiaaDoorRows.lean that lists a variable, with what it lists TIED to the program's text (the seventh form; the later family's looks); each row that meets fmt, with fmt's text TOLD by the authors' own Lean function (tested against real Go, not proved from fmt's source: count such statements apart). THE CARD IS WHAT COUNTS. Prove the row's statement (the work); the ties are given (YtjknflpclniiiaaDoorTie.lean); close each card by the builder's one call (the guide's Derived/Test/ToyasCard.lean, 'card_holds'). Laid BY PROGRAM, IN A SANDBOX (cutbox-door.mjs). By AI agents, Wed Nov 11 2026. No macro, syntax, notation, axiom, sorry.
-/
import Derived.Test.YtjknflpclniiiaaDoorRows
import GoSem.ClaimSeven
namespace Go.Proofs.YtjknflpclniiiaaDoor
namespace Rows

/-- THE TIED CARD OF 'triagelaw13.SpreadForms'. -/
def spreadFormsCard : Claim7 := { stood := { row := spreadFormsRow, standIns := [], harness := (true, "7294ee17d795931c48938d807ca09954d37a65f3dd714d71cec61b096dd1a4e8"), looks := false }, kinds := [], alts := [], laidByText := true, laidKinds := [.data], laidTests := true, laidLooks := .later }
def SpreadFormsCardSaid : Prop := Claim7.holds Tryd.pinned (.plain (OpenSpec.ofChange spreadFormsSpec)) spreadFormsCard

/-- THE TIED CARD OF 'triagelaw13.SpreadNobody'. -/
def spreadNobodyCard : Claim7 := { stood := { row := spreadNobodyRow, standIns := [], harness := (true, "7294ee17d795931c48938d807ca09954d37a65f3dd714d71cec61b096dd1a4e8"), looks := false }, kinds := [], alts := [], laidByText := true, laidKinds := [.data], laidTests := true, laidLooks := .later }
def SpreadNobodyCardSaid : Prop := Claim7.holds Tryd.pinned (.plain (OpenSpec.ofChange spreadNobodySpec)) spreadNobodyCard

/-- THE TIED CARD OF 'triagelaw13.SpreadOrder'. -/
def spreadOrderCard : Claim7 := { stood := { row := spreadOrderRow, standIns := [], harness := (true, "7294ee17d795931c48938d807ca09954d37a65f3dd714d71cec61b096dd1a4e8"), looks := false }, kinds := [], alts := [], laidByText := true, laidKinds := [.data], laidTests := true, laidLooks := .later }
def SpreadOrderCardSaid : Prop := Claim7.holds Tryd.pinned (.plain (OpenSpec.ofChange spreadOrderSpec)) spreadOrderCard

/-- THE TIED CARD OF 'triagelaw13.SpreadEnough'. -/
def spreadEnoughCard : Claim7 := { stood := { row := spreadEnoughRow, standIns := [], harness := (true, "7294ee17d795931c48938d807ca09954d37a65f3dd714d71cec61b096dd1a4e8"), looks := false }, kinds := [], alts := [], laidByText := true, laidKinds := [.data], laidTests := true, laidLooks := .later }
def SpreadEnoughCardSaid : Prop := Claim7.holds Tryd.pinned (.plain (OpenSpec.ofChange spreadEnoughSpec)) spreadEnoughCard

/-- THE SECOND FORM's CARD OF 'triagelaw13.SpreadForms'. -/
def spreadFormsUptoCard : Claim7 := { stood := { row := spreadFormsUptoRow, standIns := [], harness := (true, "7294ee17d795931c48938d807ca09954d37a65f3dd714d71cec61b096dd1a4e8"), looks := false }, kinds := [], alts := [], laidByText := true, laidKinds := [.data], laidTests := true, laidLooks := .later }
def SpreadFormsUptoCardSaid : Prop := Claim7.holds Tryd.pinned (.plain (OpenSpec.upto spreadFormsSpec)) spreadFormsUptoCard

/-- THE SECOND FORM's CARD OF 'triagelaw13.SpreadNobody'. -/
def spreadNobodyUptoCard : Claim7 := { stood := { row := spreadNobodyUptoRow, standIns := [], harness := (true, "7294ee17d795931c48938d807ca09954d37a65f3dd714d71cec61b096dd1a4e8"), looks := false }, kinds := [], alts := [], laidByText := true, laidKinds := [.data], laidTests := true, laidLooks := .later }
def SpreadNobodyUptoCardSaid : Prop := Claim7.holds Tryd.pinned (.plain (OpenSpec.upto spreadNobodySpec)) spreadNobodyUptoCard

/-- THE SECOND FORM's CARD OF 'triagelaw13.SpreadOrder'. -/
def spreadOrderUptoCard : Claim7 := { stood := { row := spreadOrderUptoRow, standIns := [], harness := (true, "7294ee17d795931c48938d807ca09954d37a65f3dd714d71cec61b096dd1a4e8"), looks := false }, kinds := [], alts := [], laidByText := true, laidKinds := [.data], laidTests := true, laidLooks := .later }
def SpreadOrderUptoCardSaid : Prop := Claim7.holds Tryd.pinned (.plain (OpenSpec.upto spreadOrderSpec)) spreadOrderUptoCard

/-- THE SECOND FORM's CARD OF 'triagelaw13.SpreadEnough'. -/
def spreadEnoughUptoCard : Claim7 := { stood := { row := spreadEnoughUptoRow, standIns := [], harness := (true, "7294ee17d795931c48938d807ca09954d37a65f3dd714d71cec61b096dd1a4e8"), looks := false }, kinds := [], alts := [], laidByText := true, laidKinds := [.data], laidTests := true, laidLooks := .later }
def SpreadEnoughUptoCardSaid : Prop := Claim7.holds Tryd.pinned (.plain (OpenSpec.upto spreadEnoughSpec)) spreadEnoughUptoCard
end Rows
end Go.Proofs.YtjknflpclniiiaaDoor
