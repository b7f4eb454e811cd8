/-
  DERIVED. GIVEN WITH THE SEED: THE CARDS: each row of YtpdfpbbamnhkfaaGreatDoorRows.lean that lists a variable, with what it lists TIED to the program's text (the seventh form; the later family's looks); each row that meets fmt, with fmt's text TOLD by the authors' own Lean function (tested against real Go, not proved from fmt's source: count such statements apart). THE CARD IS WHAT COUNTS. Prove the row's statement (the work); the ties are given (YtpdfpbbamnhkfaaGreatDoorTie.lean); close each card by the builder's one call (the guide's Derived/Test/ToyasCard.lean, 'card_holds'). Laid BY PROGRAM, IN A SANDBOX (cutbox-door.mjs). By AI agents, Wed Nov 11 2026. No macro, syntax, notation, axiom, sorry.
-/
import Derived.Test.YtpdfpbbamnhkfaaGreatDoorRows
import GoSem.ClaimSeven
namespace Go.Proofs.YtpdfpbbamnhkfaaGreatDoor
namespace Rows

/-- THE TIED CARD OF 'colophonlaw12.FaceChecks'. -/
def faceChecksCard : Claim7 := { stood := { row := faceChecksRow, standIns := [], harness := (true, "b4b5e655d40f3b626982b571c5fb50a8d3f3fb8989359913173b493537a31d4a"), looks := false }, kinds := [], alts := [], laidByText := true, laidKinds := [.data, .data, .pinned], laidTests := true, laidLooks := .later }
def FaceChecksCardSaid : Prop := Claim7.holds Tryz.pinned (.plain (OpenSpec.ofChange faceChecksSpec)) faceChecksCard

/-- THE TIED CARD OF 'colophonlaw12.FaceLoads'. -/
def faceLoadsCard : Claim7 := { stood := { row := faceLoadsRow, standIns := [], harness := (true, "b4b5e655d40f3b626982b571c5fb50a8d3f3fb8989359913173b493537a31d4a"), looks := false }, kinds := [], alts := [], laidByText := true, laidKinds := [.data, .data, .pinned], laidTests := true, laidLooks := .later }
def FaceLoadsCardSaid : Prop := Claim7.holds Tryz.pinned (.plain (OpenSpec.ofChange faceLoadsSpec)) faceLoadsCard

/-- THE TIED CARD OF 'colophonlaw12.FaceSaves'. -/
def faceSavesCard : Claim7 := { stood := { row := faceSavesRow, standIns := [], harness := (true, "b4b5e655d40f3b626982b571c5fb50a8d3f3fb8989359913173b493537a31d4a"), looks := false }, kinds := [], alts := [], laidByText := true, laidKinds := [.data, .data, .pinned], laidTests := true, laidLooks := .later }
def FaceSavesCardSaid : Prop := Claim7.holds Tryz.pinned (.plain (OpenSpec.ofChange faceSavesSpec)) faceSavesCard

/-- THE TIED CARD OF 'colophonlaw12.FaceShows'. -/
def faceShowsCard : Claim7 := { stood := { row := faceShowsRow, standIns := [], harness := (true, "b4b5e655d40f3b626982b571c5fb50a8d3f3fb8989359913173b493537a31d4a"), looks := false }, kinds := [], alts := [], laidByText := true, laidKinds := [.data, .data, .pinned], laidTests := true, laidLooks := .later }
def FaceShowsCardSaid : Prop := Claim7.holds Tryz.pinned (.plain (OpenSpec.ofChange faceShowsSpec)) faceShowsCard

/-- THE TIED CARD OF 'colophonlaw12.FaceBack'. -/
def faceBackCard : Claim7 := { stood := { row := faceBackRow, standIns := [], harness := (true, "b4b5e655d40f3b626982b571c5fb50a8d3f3fb8989359913173b493537a31d4a"), looks := false }, kinds := [], alts := [], laidByText := true, laidKinds := [.data, .data, .pinned], laidTests := true, laidLooks := .later }
def FaceBackCardSaid : Prop := Claim7.holds Tryz.pinned (.plain (OpenSpec.ofChange faceBackSpec)) faceBackCard

/-- THE TIED CARD OF 'colophonlaw12.FaceAdds'. -/
def faceAddsCard : Claim7 := { stood := { row := faceAddsRow, standIns := [], harness := (true, "b4b5e655d40f3b626982b571c5fb50a8d3f3fb8989359913173b493537a31d4a"), looks := false }, kinds := [], alts := [], laidByText := true, laidKinds := [.data, .data, .pinned], laidTests := true, laidLooks := .later }
def FaceAddsCardSaid : Prop := Claim7.holds Tryz.pinned (.plain (OpenSpec.ofChange faceAddsSpec)) faceAddsCard

/-- THE SECOND FORM's CARD OF 'colophonlaw12.FaceChecks'. -/
def faceChecksUptoCard : Claim7 := { stood := { row := faceChecksUptoRow, standIns := [], harness := (true, "b4b5e655d40f3b626982b571c5fb50a8d3f3fb8989359913173b493537a31d4a"), looks := false }, kinds := [], alts := [], laidByText := true, laidKinds := [.data, .data, .pinned], laidTests := true, laidLooks := .later }
def FaceChecksUptoCardSaid : Prop := Claim7.holds Tryz.pinned (.plain (OpenSpec.upto faceChecksSpec)) faceChecksUptoCard

/-- THE SECOND FORM's CARD OF 'colophonlaw12.FaceLoads'. -/
def faceLoadsUptoCard : Claim7 := { stood := { row := faceLoadsUptoRow, standIns := [], harness := (true, "b4b5e655d40f3b626982b571c5fb50a8d3f3fb8989359913173b493537a31d4a"), looks := false }, kinds := [], alts := [], laidByText := true, laidKinds := [.data, .data, .pinned], laidTests := true, laidLooks := .later }
def FaceLoadsUptoCardSaid : Prop := Claim7.holds Tryz.pinned (.plain (OpenSpec.upto faceLoadsSpec)) faceLoadsUptoCard

/-- THE SECOND FORM's CARD OF 'colophonlaw12.FaceSaves'. -/
def faceSavesUptoCard : Claim7 := { stood := { row := faceSavesUptoRow, standIns := [], harness := (true, "b4b5e655d40f3b626982b571c5fb50a8d3f3fb8989359913173b493537a31d4a"), looks := false }, kinds := [], alts := [], laidByText := true, laidKinds := [.data, .data, .pinned], laidTests := true, laidLooks := .later }
def FaceSavesUptoCardSaid : Prop := Claim7.holds Tryz.pinned (.plain (OpenSpec.upto faceSavesSpec)) faceSavesUptoCard

/-- THE SECOND FORM's CARD OF 'colophonlaw12.FaceShows'. -/
def faceShowsUptoCard : Claim7 := { stood := { row := faceShowsUptoRow, standIns := [], harness := (true, "b4b5e655d40f3b626982b571c5fb50a8d3f3fb8989359913173b493537a31d4a"), looks := false }, kinds := [], alts := [], laidByText := true, laidKinds := [.data, .data, .pinned], laidTests := true, laidLooks := .later }
def FaceShowsUptoCardSaid : Prop := Claim7.holds Tryz.pinned (.plain (OpenSpec.upto faceShowsSpec)) faceShowsUptoCard

/-- THE SECOND FORM's CARD OF 'colophonlaw12.FaceBack'. -/
def faceBackUptoCard : Claim7 := { stood := { row := faceBackUptoRow, standIns := [], harness := (true, "b4b5e655d40f3b626982b571c5fb50a8d3f3fb8989359913173b493537a31d4a"), looks := false }, kinds := [], alts := [], laidByText := true, laidKinds := [.data, .data, .pinned], laidTests := true, laidLooks := .later }
def FaceBackUptoCardSaid : Prop := Claim7.holds Tryz.pinned (.plain (OpenSpec.upto faceBackSpec)) faceBackUptoCard

/-- THE SECOND FORM's CARD OF 'colophonlaw12.FaceAdds'. -/
def faceAddsUptoCard : Claim7 := { stood := { row := faceAddsUptoRow, standIns := [], harness := (true, "b4b5e655d40f3b626982b571c5fb50a8d3f3fb8989359913173b493537a31d4a"), looks := false }, kinds := [], alts := [], laidByText := true, laidKinds := [.data, .data, .pinned], laidTests := true, laidLooks := .later }
def FaceAddsUptoCardSaid : Prop := Claim7.holds Tryz.pinned (.plain (OpenSpec.upto faceAddsSpec)) faceAddsUptoCard
end Rows
end Go.Proofs.YtpdfpbbamnhkfaaGreatDoor
