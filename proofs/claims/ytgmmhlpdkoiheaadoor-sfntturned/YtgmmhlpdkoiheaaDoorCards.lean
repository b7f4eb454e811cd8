/-
  DERIVED. GIVEN WITH THE SEED: THE CARDS: each row of YtgmmhlpdkoiheaaDoorRows.lean that lists a variable, with what it lists TIED to the program's text (the seventh form; the later family's looks); each row that meets fmt, with fmt's text TOLD by the authors' own Lean function (tested against real Go, not proved from fmt's source: count such statements apart). THE CARD IS WHAT COUNTS. Prove the row's statement (the work); the ties are given (YtgmmhlpdkoiheaaDoorTie.lean); close each card by the builder's one call (the guide's Derived/Test/ToyasCard.lean, 'card_holds'). Laid BY PROGRAM, IN A SANDBOX (cutbox-door.mjs). By AI agents, Wed Nov 11 2026. No macro, syntax, notation, axiom, sorry.
-/
import Derived.Test.YtgmmhlpdkoiheaaDoorRows
import GoSem.ClaimSeven
namespace Go.Proofs.YtgmmhlpdkoiheaaDoor
namespace Rows

/-- THE TIED CARD OF 'colophonlaw08.SfntSums'. -/
def sfntSumsCard : Claim7 := { stood := { row := sfntSumsRow, standIns := [], harness := (true, "5bc8a9aaa03f013ff6d0c81904887391e19e0112381839d5bd599e20a27b173e"), looks := false }, kinds := [], alts := [], laidByText := true, laidKinds := [.data], laidTests := true, laidLooks := .later }
def SfntSumsCardSaid : Prop := Claim7.holds Tryd.pinned (.plain (OpenSpec.ofChange sfntSumsSpec)) sfntSumsCard

/-- THE TIED CARD OF 'colophonlaw08.SfntAdds'. -/
def sfntAddsCard : Claim7 := { stood := { row := sfntAddsRow, standIns := [], harness := (true, "5bc8a9aaa03f013ff6d0c81904887391e19e0112381839d5bd599e20a27b173e"), looks := false }, kinds := [], alts := [], laidByText := true, laidKinds := [.data], laidTests := true, laidLooks := .later }
def SfntAddsCardSaid : Prop := Claim7.holds Tryd.pinned (.plain (OpenSpec.ofChange sfntAddsSpec)) sfntAddsCard

/-- THE TIED CARD OF 'colophonlaw08.SfntReads'. -/
def sfntReadsCard : Claim7 := { stood := { row := sfntReadsRow, standIns := [], harness := (true, "5bc8a9aaa03f013ff6d0c81904887391e19e0112381839d5bd599e20a27b173e"), looks := false }, kinds := [], alts := [], laidByText := true, laidKinds := [.data], laidTests := true, laidLooks := .later }
def SfntReadsCardSaid : Prop := Claim7.holds Tryd.pinned (.plain (OpenSpec.ofChange sfntReadsSpec)) sfntReadsCard

/-- THE TIED CARD OF 'colophonlaw08.SfntBuilds'. -/
def sfntBuildsCard : Claim7 := { stood := { row := sfntBuildsRow, standIns := [], harness := (true, "5bc8a9aaa03f013ff6d0c81904887391e19e0112381839d5bd599e20a27b173e"), looks := false }, kinds := [], alts := [], laidByText := true, laidKinds := [.data], laidTests := true, laidLooks := .later }
def SfntBuildsCardSaid : Prop := Claim7.holds Tryd.pinned (.plain (OpenSpec.ofChange sfntBuildsSpec)) sfntBuildsCard

/-- THE TIED CARD OF 'colophonlaw08.SfntBack'. -/
def sfntBackCard : Claim7 := { stood := { row := sfntBackRow, standIns := [], harness := (true, "5bc8a9aaa03f013ff6d0c81904887391e19e0112381839d5bd599e20a27b173e"), looks := false }, kinds := [], alts := [], laidByText := true, laidKinds := [.data], laidTests := true, laidLooks := .later }
def SfntBackCardSaid : Prop := Claim7.holds Tryd.pinned (.plain (OpenSpec.ofChange sfntBackSpec)) sfntBackCard

/-- THE TIED CARD OF 'colophonlaw08.SfntTurned'. -/
def sfntTurnedCard : Claim7 := { stood := { row := sfntTurnedRow, standIns := [], harness := (true, "5bc8a9aaa03f013ff6d0c81904887391e19e0112381839d5bd599e20a27b173e"), looks := false }, kinds := [], alts := [], laidByText := true, laidKinds := [.data], laidTests := true, laidLooks := .later }
def SfntTurnedCardSaid : Prop := Claim7.holds Tryd.pinned (.plain (OpenSpec.ofChange sfntTurnedSpec)) sfntTurnedCard

/-- THE SECOND FORM's CARD OF 'colophonlaw08.SfntSums'. -/
def sfntSumsUptoCard : Claim7 := { stood := { row := sfntSumsUptoRow, standIns := [], harness := (true, "5bc8a9aaa03f013ff6d0c81904887391e19e0112381839d5bd599e20a27b173e"), looks := false }, kinds := [], alts := [], laidByText := true, laidKinds := [.data], laidTests := true, laidLooks := .later }
def SfntSumsUptoCardSaid : Prop := Claim7.holds Tryd.pinned (.plain (OpenSpec.upto sfntSumsSpec)) sfntSumsUptoCard

/-- THE SECOND FORM's CARD OF 'colophonlaw08.SfntAdds'. -/
def sfntAddsUptoCard : Claim7 := { stood := { row := sfntAddsUptoRow, standIns := [], harness := (true, "5bc8a9aaa03f013ff6d0c81904887391e19e0112381839d5bd599e20a27b173e"), looks := false }, kinds := [], alts := [], laidByText := true, laidKinds := [.data], laidTests := true, laidLooks := .later }
def SfntAddsUptoCardSaid : Prop := Claim7.holds Tryd.pinned (.plain (OpenSpec.upto sfntAddsSpec)) sfntAddsUptoCard

/-- THE SECOND FORM's CARD OF 'colophonlaw08.SfntReads'. -/
def sfntReadsUptoCard : Claim7 := { stood := { row := sfntReadsUptoRow, standIns := [], harness := (true, "5bc8a9aaa03f013ff6d0c81904887391e19e0112381839d5bd599e20a27b173e"), looks := false }, kinds := [], alts := [], laidByText := true, laidKinds := [.data], laidTests := true, laidLooks := .later }
def SfntReadsUptoCardSaid : Prop := Claim7.holds Tryd.pinned (.plain (OpenSpec.upto sfntReadsSpec)) sfntReadsUptoCard

/-- THE SECOND FORM's CARD OF 'colophonlaw08.SfntBuilds'. -/
def sfntBuildsUptoCard : Claim7 := { stood := { row := sfntBuildsUptoRow, standIns := [], harness := (true, "5bc8a9aaa03f013ff6d0c81904887391e19e0112381839d5bd599e20a27b173e"), looks := false }, kinds := [], alts := [], laidByText := true, laidKinds := [.data], laidTests := true, laidLooks := .later }
def SfntBuildsUptoCardSaid : Prop := Claim7.holds Tryd.pinned (.plain (OpenSpec.upto sfntBuildsSpec)) sfntBuildsUptoCard

/-- THE SECOND FORM's CARD OF 'colophonlaw08.SfntBack'. -/
def sfntBackUptoCard : Claim7 := { stood := { row := sfntBackUptoRow, standIns := [], harness := (true, "5bc8a9aaa03f013ff6d0c81904887391e19e0112381839d5bd599e20a27b173e"), looks := false }, kinds := [], alts := [], laidByText := true, laidKinds := [.data], laidTests := true, laidLooks := .later }
def SfntBackUptoCardSaid : Prop := Claim7.holds Tryd.pinned (.plain (OpenSpec.upto sfntBackSpec)) sfntBackUptoCard

/-- THE SECOND FORM's CARD OF 'colophonlaw08.SfntTurned'. -/
def sfntTurnedUptoCard : Claim7 := { stood := { row := sfntTurnedUptoRow, standIns := [], harness := (true, "5bc8a9aaa03f013ff6d0c81904887391e19e0112381839d5bd599e20a27b173e"), looks := false }, kinds := [], alts := [], laidByText := true, laidKinds := [.data], laidTests := true, laidLooks := .later }
def SfntTurnedUptoCardSaid : Prop := Claim7.holds Tryd.pinned (.plain (OpenSpec.upto sfntTurnedSpec)) sfntTurnedUptoCard
end Rows
end Go.Proofs.YtgmmhlpdkoiheaaDoor
