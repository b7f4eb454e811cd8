/-
  DERIVED. GIVEN WITH THE SEED: THE CARDS: each row of YtncmkiejamkklabDoorRows.lean that lists a variable, with what it lists TIED to the program's text (the seventh form; the later family's looks); each row that meets fmt, with fmt's text TOLD by the authors' own Lean function (tested against real Go, not proved from fmt's source: count such statements apart). THE CARD IS WHAT COUNTS. Prove the row's statement (the work); the ties are given (YtncmkiejamkklabDoorTie.lean); close each card by the builder's one call (the guide's Derived/Test/ToyasCard.lean, 'card_holds'). Laid BY PROGRAM, IN A SANDBOX (cutbox-door.mjs). By AI agents, Wed Nov 11 2026. No macro, syntax, notation, axiom, sorry.
-/
import Derived.Test.YtncmkiejamkklabDoorRows
import GoSem.ClaimSeven
namespace Go.Proofs.YtncmkiejamkklabDoor
namespace Rows

/-- THE TIED CARD OF 'colophonlaw04.UtfStretches'. -/
def utfStretchesCard : Claim7 := { stood := { row := utfStretchesRow, standIns := [], harness := (true, "3ef9ab6ae7e7d70ba13e7ccbc7c0a5e852a1659d2f5d2a4f5bce05b29a6e472d"), looks := false }, kinds := [], alts := [], laidByText := true, laidKinds := [.data, .pinned], laidTests := true, laidLooks := .later }
def UtfStretchesCardSaid : Prop := Claim7.holds Tryd.pinned (.plain (OpenSpec.ofChange utfStretchesSpec)) utfStretchesCard

/-- THE SECOND FORM's CARD OF 'colophonlaw04.UtfStretches'. -/
def utfStretchesUptoCard : Claim7 := { stood := { row := utfStretchesUptoRow, standIns := [], harness := (true, "3ef9ab6ae7e7d70ba13e7ccbc7c0a5e852a1659d2f5d2a4f5bce05b29a6e472d"), looks := false }, kinds := [], alts := [], laidByText := true, laidKinds := [.data, .pinned], laidTests := true, laidLooks := .later }
def UtfStretchesUptoCardSaid : Prop := Claim7.holds Tryd.pinned (.plain (OpenSpec.upto utfStretchesSpec)) utfStretchesUptoCard
end Rows
end Go.Proofs.YtncmkiejamkklabDoor
