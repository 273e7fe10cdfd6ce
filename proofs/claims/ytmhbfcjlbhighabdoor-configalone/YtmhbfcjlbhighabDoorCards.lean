/-
  DERIVED. GIVEN WITH THE SEED: THE CARDS: each row of YtmhbfcjlbhighabDoorRows.lean that lists a variable, with what it lists TIED to the program's text (the seventh form; the later family's looks); each row that meets fmt, with fmt's text TOLD by the authors' own Lean function (tested against real Go, not proved from fmt's source: count such statements apart). THE CARD IS WHAT COUNTS. Prove the row's statement (the work); the ties are given (YtmhbfcjlbhighabDoorTie.lean); close each card by the builder's one call (the guide's Derived/Test/ToyasCard.lean, 'card_holds'). Laid BY PROGRAM, IN A SANDBOX (cutbox-door.mjs). By AI agents, Wed Nov 11 2026. No macro, syntax, notation, axiom, sorry.
-/
import Derived.Test.YtmhbfcjlbhighabDoorRows
import GoSem.ClaimSeven
namespace Go.Proofs.YtmhbfcjlbhighabDoor
namespace Rows

/-- THE TIED CARD OF 'triagelaw6.ConfigAlone'. -/
def configAloneCard : Claim7 := { stood := { row := configAloneRow, standIns := [], harness := (true, "4dd7c90f90b6267e6b414702715e5be826592e3e98c0bf3fdb1acef6124d61e8"), looks := false }, kinds := [], alts := [], laidByText := true, laidKinds := [.data, .data, .data, .data], laidTests := true, laidLooks := .later }
def ConfigAloneCardSaid : Prop := Claim7.holds Tryd.pinned (.plain (OpenSpec.ofChange configAloneSpec)) configAloneCard

/-- THE SECOND FORM's CARD OF 'triagelaw6.ConfigAlone'. -/
def configAloneUptoCard : Claim7 := { stood := { row := configAloneUptoRow, standIns := [], harness := (true, "4dd7c90f90b6267e6b414702715e5be826592e3e98c0bf3fdb1acef6124d61e8"), looks := false }, kinds := [], alts := [], laidByText := true, laidKinds := [.data, .data, .data, .data], laidTests := true, laidLooks := .later }
def ConfigAloneUptoCardSaid : Prop := Claim7.holds Tryd.pinned (.plain (OpenSpec.upto configAloneSpec)) configAloneUptoCard
end Rows
end Go.Proofs.YtmhbfcjlbhighabDoor
