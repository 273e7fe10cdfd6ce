/-
  DERIVED. GIVEN WITH THE SEED: THE CARDS: each row of YtjjehjbejldgmaaDoorRows.lean that lists a variable, with what it lists TIED to the program's text (the seventh form; the later family's looks); each row that meets fmt, with fmt's text TOLD by the authors' own Lean function (tested against real Go, not proved from fmt's source: count such statements apart). THE CARD IS WHAT COUNTS. Prove the row's statement (the work); the ties are given (YtjjehjbejldgmaaDoorTie.lean); close each card by the builder's one call (the guide's Derived/Test/ToyasCard.lean, 'card_holds'). Laid BY PROGRAM, IN A SANDBOX (cutbox-door.mjs). By AI agents, Wed Nov 11 2026. No macro, syntax, notation, axiom, sorry.
-/
import Derived.Test.YtjjehjbejldgmaaDoorRows
import GoSem.ClaimSeven
namespace Go.Proofs.YtjjehjbejldgmaaDoor
namespace Rows

/-- THE TIED CARD OF 'triagelaw11.StreakForms'. -/
def streakFormsCard : Claim7 := { stood := { row := streakFormsRow, standIns := [], harness := (true, "2d62c53e2e878934b0df3d649b669bfd1f9ccdac69d334075bd30c81963403a1"), looks := false }, kinds := [], alts := [], laidByText := true, laidKinds := [.data], laidTests := true, laidLooks := .later }
def StreakFormsCardSaid : Prop := Claim7.holds Tryd.pinned (.plain (OpenSpec.ofChange streakFormsSpec)) streakFormsCard

/-- THE TIED CARD OF 'triagelaw11.StreakOnce'. -/
def streakOnceCard : Claim7 := { stood := { row := streakOnceRow, standIns := [], harness := (true, "2d62c53e2e878934b0df3d649b669bfd1f9ccdac69d334075bd30c81963403a1"), looks := false }, kinds := [], alts := [], laidByText := true, laidKinds := [.data], laidTests := true, laidLooks := .later }
def StreakOnceCardSaid : Prop := Claim7.holds Tryd.pinned (.plain (OpenSpec.ofChange streakOnceSpec)) streakOnceCard

/-- THE TIED CARD OF 'triagelaw11.StreakParts'. -/
def streakPartsCard : Claim7 := { stood := { row := streakPartsRow, standIns := [], harness := (true, "2d62c53e2e878934b0df3d649b669bfd1f9ccdac69d334075bd30c81963403a1"), looks := false }, kinds := [], alts := [], laidByText := true, laidKinds := [.data], laidTests := true, laidLooks := .later }
def StreakPartsCardSaid : Prop := Claim7.holds Tryd.pinned (.plain (OpenSpec.ofChange streakPartsSpec)) streakPartsCard

/-- THE SECOND FORM's CARD OF 'triagelaw11.StreakForms'. -/
def streakFormsUptoCard : Claim7 := { stood := { row := streakFormsUptoRow, standIns := [], harness := (true, "2d62c53e2e878934b0df3d649b669bfd1f9ccdac69d334075bd30c81963403a1"), looks := false }, kinds := [], alts := [], laidByText := true, laidKinds := [.data], laidTests := true, laidLooks := .later }
def StreakFormsUptoCardSaid : Prop := Claim7.holds Tryd.pinned (.plain (OpenSpec.upto streakFormsSpec)) streakFormsUptoCard

/-- THE SECOND FORM's CARD OF 'triagelaw11.StreakOnce'. -/
def streakOnceUptoCard : Claim7 := { stood := { row := streakOnceUptoRow, standIns := [], harness := (true, "2d62c53e2e878934b0df3d649b669bfd1f9ccdac69d334075bd30c81963403a1"), looks := false }, kinds := [], alts := [], laidByText := true, laidKinds := [.data], laidTests := true, laidLooks := .later }
def StreakOnceUptoCardSaid : Prop := Claim7.holds Tryd.pinned (.plain (OpenSpec.upto streakOnceSpec)) streakOnceUptoCard

/-- THE SECOND FORM's CARD OF 'triagelaw11.StreakParts'. -/
def streakPartsUptoCard : Claim7 := { stood := { row := streakPartsUptoRow, standIns := [], harness := (true, "2d62c53e2e878934b0df3d649b669bfd1f9ccdac69d334075bd30c81963403a1"), looks := false }, kinds := [], alts := [], laidByText := true, laidKinds := [.data], laidTests := true, laidLooks := .later }
def StreakPartsUptoCardSaid : Prop := Claim7.holds Tryd.pinned (.plain (OpenSpec.upto streakPartsSpec)) streakPartsUptoCard
end Rows
end Go.Proofs.YtjjehjbejldgmaaDoor
