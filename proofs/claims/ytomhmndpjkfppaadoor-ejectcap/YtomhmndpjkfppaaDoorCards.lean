/-
  DERIVED. GIVEN WITH THE SEED: THE CARDS: each row of YtomhmndpjkfppaaDoorRows.lean that lists a variable, with what it lists TIED to the program's text (the seventh form; the later family's looks); each row that meets fmt, with fmt's text TOLD by the authors' own Lean function (tested against real Go, not proved from fmt's source: count such statements apart). THE CARD IS WHAT COUNTS. Prove the row's statement (the work); the ties are given (YtomhmndpjkfppaaDoorTie.lean); close each card by the builder's one call (the guide's Derived/Test/ToyasCard.lean, 'card_holds'). Laid BY PROGRAM, IN A SANDBOX (cutbox-door.mjs). By AI agents, Wed Nov 11 2026. No macro, syntax, notation, axiom, sorry.
-/
import Derived.Test.YtomhmndpjkfppaaDoorRows
import GoSem.ClaimSeven
namespace Go.Proofs.YtomhmndpjkfppaaDoor
namespace Rows

/-- THE TIED CARD OF 'triagelaw14.EjectCap'. -/
def ejectCapCard : Claim7 := { stood := { row := ejectCapRow, standIns := [], harness := (true, "c11ab6b3ea0f77219e4827119ffe00d6ed15f1c9d15572363dd77ce34dd8659c"), looks := false }, kinds := [], alts := [], laidByText := true, laidKinds := [.data], laidTests := true, laidLooks := .later }
def EjectCapCardSaid : Prop := Claim7.holds Tryd.pinned (.plain (OpenSpec.ofChange ejectCapSpec)) ejectCapCard

/-- THE TIED CARD OF 'triagelaw14.EjectLonger'. -/
def ejectLongerCard : Claim7 := { stood := { row := ejectLongerRow, standIns := [], harness := (true, "c11ab6b3ea0f77219e4827119ffe00d6ed15f1c9d15572363dd77ce34dd8659c"), looks := false }, kinds := [], alts := [], laidByText := true, laidKinds := [.data], laidTests := true, laidLooks := .later }
def EjectLongerCardSaid : Prop := Claim7.holds Tryd.pinned (.plain (OpenSpec.ofChange ejectLongerSpec)) ejectLongerCard

/-- THE TIED CARD OF 'triagelaw14.EjectFirst'. -/
def ejectFirstCard : Claim7 := { stood := { row := ejectFirstRow, standIns := [], harness := (true, "c11ab6b3ea0f77219e4827119ffe00d6ed15f1c9d15572363dd77ce34dd8659c"), looks := false }, kinds := [], alts := [], laidByText := true, laidKinds := [.data], laidTests := true, laidLooks := .later }
def EjectFirstCardSaid : Prop := Claim7.holds Tryd.pinned (.plain (OpenSpec.ofChange ejectFirstSpec)) ejectFirstCard

/-- THE TIED CARD OF 'triagelaw14.EjectRoom'. -/
def ejectRoomCard : Claim7 := { stood := { row := ejectRoomRow, standIns := [], harness := (true, "c11ab6b3ea0f77219e4827119ffe00d6ed15f1c9d15572363dd77ce34dd8659c"), looks := false }, kinds := [], alts := [], laidByText := true, laidKinds := [.data], laidTests := true, laidLooks := .later }
def EjectRoomCardSaid : Prop := Claim7.holds Tryd.pinned (.plain (OpenSpec.ofChange ejectRoomSpec)) ejectRoomCard

/-- THE SECOND FORM's CARD OF 'triagelaw14.EjectCap'. -/
def ejectCapUptoCard : Claim7 := { stood := { row := ejectCapUptoRow, standIns := [], harness := (true, "c11ab6b3ea0f77219e4827119ffe00d6ed15f1c9d15572363dd77ce34dd8659c"), looks := false }, kinds := [], alts := [], laidByText := true, laidKinds := [.data], laidTests := true, laidLooks := .later }
def EjectCapUptoCardSaid : Prop := Claim7.holds Tryd.pinned (.plain (OpenSpec.upto ejectCapSpec)) ejectCapUptoCard

/-- THE SECOND FORM's CARD OF 'triagelaw14.EjectLonger'. -/
def ejectLongerUptoCard : Claim7 := { stood := { row := ejectLongerUptoRow, standIns := [], harness := (true, "c11ab6b3ea0f77219e4827119ffe00d6ed15f1c9d15572363dd77ce34dd8659c"), looks := false }, kinds := [], alts := [], laidByText := true, laidKinds := [.data], laidTests := true, laidLooks := .later }
def EjectLongerUptoCardSaid : Prop := Claim7.holds Tryd.pinned (.plain (OpenSpec.upto ejectLongerSpec)) ejectLongerUptoCard

/-- THE SECOND FORM's CARD OF 'triagelaw14.EjectFirst'. -/
def ejectFirstUptoCard : Claim7 := { stood := { row := ejectFirstUptoRow, standIns := [], harness := (true, "c11ab6b3ea0f77219e4827119ffe00d6ed15f1c9d15572363dd77ce34dd8659c"), looks := false }, kinds := [], alts := [], laidByText := true, laidKinds := [.data], laidTests := true, laidLooks := .later }
def EjectFirstUptoCardSaid : Prop := Claim7.holds Tryd.pinned (.plain (OpenSpec.upto ejectFirstSpec)) ejectFirstUptoCard

/-- THE SECOND FORM's CARD OF 'triagelaw14.EjectRoom'. -/
def ejectRoomUptoCard : Claim7 := { stood := { row := ejectRoomUptoRow, standIns := [], harness := (true, "c11ab6b3ea0f77219e4827119ffe00d6ed15f1c9d15572363dd77ce34dd8659c"), looks := false }, kinds := [], alts := [], laidByText := true, laidKinds := [.data], laidTests := true, laidLooks := .later }
def EjectRoomUptoCardSaid : Prop := Claim7.holds Tryd.pinned (.plain (OpenSpec.upto ejectRoomSpec)) ejectRoomUptoCard
end Rows
end Go.Proofs.YtomhmndpjkfppaaDoor
