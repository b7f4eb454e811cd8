/-
  DERIVED. GIVEN WITH THE SEED: THE CARDS: each row of YtpaadbnlhapdbaaGreatDoorRows.lean that lists a variable, with what it lists TIED to the program's text (the seventh form; the later family's looks); each row that meets fmt, with fmt's text TOLD by the authors' own Lean function (tested against real Go, not proved from fmt's source: count such statements apart). THE CARD IS WHAT COUNTS. Prove the row's statement (the work); the ties are given (YtpaadbnlhapdbaaGreatDoorTie.lean); close each card by the builder's one call (the guide's Derived/Test/ToyasCard.lean, 'card_holds'). Laid BY PROGRAM, IN A SANDBOX (cutbox-door.mjs). By AI agents, Wed Nov 11 2026. No macro, syntax, notation, axiom, sorry.
-/
import Derived.Test.YtpaadbnlhapdbaaGreatDoorRows
import GoSem.ClaimSeven
namespace Go.Proofs.YtpaadbnlhapdbaaGreatDoor
namespace Rows

/-- THE TIED CARD OF 'colophonlaw12.FaceLoads'. -/
def faceLoadsCard : Claim7 := { stood := { row := faceLoadsRow, standIns := [], harness := (true, "9e2e03e60983f401f1eadf39574bd6eb35814fcf829947f8d5c1683d99ae4724"), looks := false }, kinds := [], alts := [], laidByText := true, laidKinds := [.data, .data, .pinned], laidTests := true, laidLooks := .later }
def FaceLoadsCardSaid : Prop := Claim7.holds Tryz.pinned (.plain (OpenSpec.ofChange faceLoadsSpec)) faceLoadsCard

/-- THE SECOND FORM's CARD OF 'colophonlaw12.FaceLoads'. -/
def faceLoadsUptoCard : Claim7 := { stood := { row := faceLoadsUptoRow, standIns := [], harness := (true, "9e2e03e60983f401f1eadf39574bd6eb35814fcf829947f8d5c1683d99ae4724"), looks := false }, kinds := [], alts := [], laidByText := true, laidKinds := [.data, .data, .pinned], laidTests := true, laidLooks := .later }
def FaceLoadsUptoCardSaid : Prop := Claim7.holds Tryz.pinned (.plain (OpenSpec.upto faceLoadsSpec)) faceLoadsUptoCard
end Rows
end Go.Proofs.YtpaadbnlhapdbaaGreatDoor
