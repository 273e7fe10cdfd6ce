/-
  DERIVED. GIVEN WITH THE SEED: THE CARDS: each row of YtkninlahlgipoaaDoorRows.lean that lists a variable, with what it lists TIED to the program's text (the seventh form; the later family's looks); each row that meets fmt, with fmt's text TOLD by the authors' own Lean function (tested against real Go, not proved from fmt's source: count such statements apart). THE CARD IS WHAT COUNTS. Prove the row's statement (the work); the ties are given (YtkninlahlgipoaaDoorTie.lean); close each card by the builder's one call (the guide's Derived/Test/ToyasCard.lean, 'card_holds'). Laid BY PROGRAM, IN A SANDBOX (cutbox-door.mjs). By AI agents, Wed Nov 11 2026. No macro, syntax, notation, axiom, sorry.
-/
import Derived.Test.YtkninlahlgipoaaDoorRows
import GoSem.ClaimSeven
namespace Go.Proofs.YtkninlahlgipoaaDoor
namespace Rows

/-- THE TIED CARD OF 'triagelaw6.ConfigForms'. -/
def configFormsCard : Claim7 := { stood := { row := configFormsRow, standIns := [], harness := (true, "7abede6b0ba1d5cffe548e013e878c19a799146e1c69f100bcd20cd1fdb98725"), looks := false }, kinds := [], alts := [], laidByText := true, laidKinds := [.data, .data, .data, .data], laidTests := true, laidLooks := .later }
def ConfigFormsCardSaid : Prop := Claim7.holds Tryd.pinned (.plain (OpenSpec.ofChange configFormsSpec)) configFormsCard

/-- THE SECOND FORM's CARD OF 'triagelaw6.ConfigForms'. -/
def configFormsUptoCard : Claim7 := { stood := { row := configFormsUptoRow, standIns := [], harness := (true, "7abede6b0ba1d5cffe548e013e878c19a799146e1c69f100bcd20cd1fdb98725"), looks := false }, kinds := [], alts := [], laidByText := true, laidKinds := [.data, .data, .data, .data], laidTests := true, laidLooks := .later }
def ConfigFormsUptoCardSaid : Prop := Claim7.holds Tryd.pinned (.plain (OpenSpec.upto configFormsSpec)) configFormsUptoCard
end Rows
end Go.Proofs.YtkninlahlgipoaaDoor
