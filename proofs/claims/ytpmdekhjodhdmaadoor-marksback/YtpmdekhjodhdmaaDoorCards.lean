/-
  DERIVED. GIVEN WITH THE SEED: THE CARDS: each row of YtpmdekhjodhdmaaDoorRows.lean that lists a variable, with what it lists TIED to the program's text (the seventh form; the later family's looks); each row that meets fmt, with fmt's text TOLD by the authors' own Lean function (tested against real Go, not proved from fmt's source: count such statements apart). THE CARD IS WHAT COUNTS. Prove the row's statement (the work); the ties are given (YtpmdekhjodhdmaaDoorTie.lean); close each card by the builder's one call (the guide's Derived/Test/ToyasCard.lean, 'card_holds'). Laid BY PROGRAM, IN A SANDBOX (cutbox-door.mjs). By AI agents, Wed Nov 11 2026. No macro, syntax, notation, axiom, sorry.
-/
import Derived.Test.YtpmdekhjodhdmaaDoorRows
import GoSem.ClaimSeven
namespace Go.Proofs.YtpmdekhjodhdmaaDoor
namespace Rows

/-- THE TIED CARD OF 'colophonlaw17.MarksScans'. -/
def marksScansCard : Claim7 := { stood := { row := marksScansRow, standIns := [], harness := (true, "0263fabfcedfc7b09a3a920d299b2448c4edc012221d6b0432962f344fb1c3ec"), looks := false }, kinds := [], alts := [], laidByText := true, laidKinds := [.data, .pinned], laidTests := true, laidLooks := .later }
def MarksScansCardSaid : Prop := Claim7.holds Tryd.pinned (.plain (OpenSpec.ofChange marksScansSpec)) marksScansCard

/-- THE TIED CARD OF 'colophonlaw17.MarksPrints'. -/
def marksPrintsCard : Claim7 := { stood := { row := marksPrintsRow, standIns := [], harness := (true, "0263fabfcedfc7b09a3a920d299b2448c4edc012221d6b0432962f344fb1c3ec"), looks := false }, kinds := [], alts := [], laidByText := true, laidKinds := [.data, .pinned], laidTests := true, laidLooks := .later }
def MarksPrintsCardSaid : Prop := Claim7.holds Tryd.pinned (.plain (OpenSpec.ofChange marksPrintsSpec)) marksPrintsCard

/-- THE TIED CARD OF 'colophonlaw17.MarksEscapes'. -/
def marksEscapesCard : Claim7 := { stood := { row := marksEscapesRow, standIns := [], harness := (true, "0263fabfcedfc7b09a3a920d299b2448c4edc012221d6b0432962f344fb1c3ec"), looks := false }, kinds := [], alts := [], laidByText := true, laidKinds := [.data, .pinned], laidTests := true, laidLooks := .later }
def MarksEscapesCardSaid : Prop := Claim7.holds Tryd.pinned (.plain (OpenSpec.ofChange marksEscapesSpec)) marksEscapesCard

/-- THE TIED CARD OF 'colophonlaw17.MarksBack'. -/
def marksBackCard : Claim7 := { stood := { row := marksBackRow, standIns := [], harness := (true, "0263fabfcedfc7b09a3a920d299b2448c4edc012221d6b0432962f344fb1c3ec"), looks := false }, kinds := [], alts := [], laidByText := true, laidKinds := [.data, .pinned], laidTests := true, laidLooks := .later }
def MarksBackCardSaid : Prop := Claim7.holds Tryd.pinned (.plain (OpenSpec.ofChange marksBackSpec)) marksBackCard

/-- THE TIED CARD OF 'colophonlaw17.MarksText'. -/
def marksTextCard : Claim7 := { stood := { row := marksTextRow, standIns := [], harness := (true, "0263fabfcedfc7b09a3a920d299b2448c4edc012221d6b0432962f344fb1c3ec"), looks := false }, kinds := [], alts := [], laidByText := true, laidKinds := [.data, .pinned], laidTests := true, laidLooks := .later }
def MarksTextCardSaid : Prop := Claim7.holds Tryd.pinned (.plain (OpenSpec.ofChange marksTextSpec)) marksTextCard

/-- THE TIED CARD OF 'colophonlaw17.MarksPlaces'. -/
def marksPlacesCard : Claim7 := { stood := { row := marksPlacesRow, standIns := [], harness := (true, "0263fabfcedfc7b09a3a920d299b2448c4edc012221d6b0432962f344fb1c3ec"), looks := false }, kinds := [], alts := [], laidByText := true, laidKinds := [.data, .pinned], laidTests := true, laidLooks := .later }
def MarksPlacesCardSaid : Prop := Claim7.holds Tryd.pinned (.plain (OpenSpec.ofChange marksPlacesSpec)) marksPlacesCard

/-- THE SECOND FORM's CARD OF 'colophonlaw17.MarksScans'. -/
def marksScansUptoCard : Claim7 := { stood := { row := marksScansUptoRow, standIns := [], harness := (true, "0263fabfcedfc7b09a3a920d299b2448c4edc012221d6b0432962f344fb1c3ec"), looks := false }, kinds := [], alts := [], laidByText := true, laidKinds := [.data, .pinned], laidTests := true, laidLooks := .later }
def MarksScansUptoCardSaid : Prop := Claim7.holds Tryd.pinned (.plain (OpenSpec.upto marksScansSpec)) marksScansUptoCard

/-- THE SECOND FORM's CARD OF 'colophonlaw17.MarksPrints'. -/
def marksPrintsUptoCard : Claim7 := { stood := { row := marksPrintsUptoRow, standIns := [], harness := (true, "0263fabfcedfc7b09a3a920d299b2448c4edc012221d6b0432962f344fb1c3ec"), looks := false }, kinds := [], alts := [], laidByText := true, laidKinds := [.data, .pinned], laidTests := true, laidLooks := .later }
def MarksPrintsUptoCardSaid : Prop := Claim7.holds Tryd.pinned (.plain (OpenSpec.upto marksPrintsSpec)) marksPrintsUptoCard

/-- THE SECOND FORM's CARD OF 'colophonlaw17.MarksEscapes'. -/
def marksEscapesUptoCard : Claim7 := { stood := { row := marksEscapesUptoRow, standIns := [], harness := (true, "0263fabfcedfc7b09a3a920d299b2448c4edc012221d6b0432962f344fb1c3ec"), looks := false }, kinds := [], alts := [], laidByText := true, laidKinds := [.data, .pinned], laidTests := true, laidLooks := .later }
def MarksEscapesUptoCardSaid : Prop := Claim7.holds Tryd.pinned (.plain (OpenSpec.upto marksEscapesSpec)) marksEscapesUptoCard

/-- THE SECOND FORM's CARD OF 'colophonlaw17.MarksBack'. -/
def marksBackUptoCard : Claim7 := { stood := { row := marksBackUptoRow, standIns := [], harness := (true, "0263fabfcedfc7b09a3a920d299b2448c4edc012221d6b0432962f344fb1c3ec"), looks := false }, kinds := [], alts := [], laidByText := true, laidKinds := [.data, .pinned], laidTests := true, laidLooks := .later }
def MarksBackUptoCardSaid : Prop := Claim7.holds Tryd.pinned (.plain (OpenSpec.upto marksBackSpec)) marksBackUptoCard

/-- THE SECOND FORM's CARD OF 'colophonlaw17.MarksText'. -/
def marksTextUptoCard : Claim7 := { stood := { row := marksTextUptoRow, standIns := [], harness := (true, "0263fabfcedfc7b09a3a920d299b2448c4edc012221d6b0432962f344fb1c3ec"), looks := false }, kinds := [], alts := [], laidByText := true, laidKinds := [.data, .pinned], laidTests := true, laidLooks := .later }
def MarksTextUptoCardSaid : Prop := Claim7.holds Tryd.pinned (.plain (OpenSpec.upto marksTextSpec)) marksTextUptoCard

/-- THE SECOND FORM's CARD OF 'colophonlaw17.MarksPlaces'. -/
def marksPlacesUptoCard : Claim7 := { stood := { row := marksPlacesUptoRow, standIns := [], harness := (true, "0263fabfcedfc7b09a3a920d299b2448c4edc012221d6b0432962f344fb1c3ec"), looks := false }, kinds := [], alts := [], laidByText := true, laidKinds := [.data, .pinned], laidTests := true, laidLooks := .later }
def MarksPlacesUptoCardSaid : Prop := Claim7.holds Tryd.pinned (.plain (OpenSpec.upto marksPlacesSpec)) marksPlacesUptoCard
end Rows
end Go.Proofs.YtpmdekhjodhdmaaDoor
