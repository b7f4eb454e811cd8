/-
  DERIVED. GIVEN WITH THE SEED: THE CARDS: each row of YthhhepbflggojaaDoorRows.lean that lists a variable, with what it lists TIED to the program's text (the seventh form; the later family's looks); each row that meets fmt, with fmt's text TOLD by the authors' own Lean function (tested against real Go, not proved from fmt's source: count such statements apart). THE CARD IS WHAT COUNTS. Prove the row's statement (the work); the ties are given (YthhhepbflggojaaDoorTie.lean); close each card by the builder's one call (the guide's Derived/Test/ToyasCard.lean, 'card_holds'). Laid BY PROGRAM, IN A SANDBOX (cutbox-door.mjs). By AI agents, Wed Nov 11 2026. No macro, syntax, notation, axiom, sorry.
-/
import Derived.Test.YthhhepbflggojaaDoorRows
import GoSem.ClaimSeven
namespace Go.Proofs.YthhhepbflggojaaDoor
namespace Rows

/-- THE TIED CARD OF 'colophonlaw15.EmitChecks'. -/
def emitChecksCard : Claim7 := { stood := { row := emitChecksRow, standIns := [], harness := (true, "da2d1a4653ca6ed122d7c69d917c4a75f1744d338adc181f923f4b2e2c26649a"), looks := false }, kinds := [], alts := [], laidByText := true, laidKinds := [.data, .data, .data], laidTests := true, laidLooks := .later }
def EmitChecksCardSaid : Prop := Claim7.holds Tryd.pinned (.plain (OpenSpec.ofChange emitChecksSpec)) emitChecksCard

/-- THE TIED CARD OF 'colophonlaw15.EmitWrites'. -/
def emitWritesCard : Claim7 := { stood := { row := emitWritesRow, standIns := [], harness := (true, "da2d1a4653ca6ed122d7c69d917c4a75f1744d338adc181f923f4b2e2c26649a"), looks := false }, kinds := [], alts := [], laidByText := true, laidKinds := [.data, .data, .data], laidTests := true, laidLooks := .later }
def EmitWritesCardSaid : Prop := Claim7.holds Tryd.pinned (.plain (OpenSpec.ofChange emitWritesSpec)) emitWritesCard

/-- THE TIED CARD OF 'colophonlaw15.EmitJoins'. -/
def emitJoinsCard : Claim7 := { stood := { row := emitJoinsRow, standIns := [], harness := (true, "da2d1a4653ca6ed122d7c69d917c4a75f1744d338adc181f923f4b2e2c26649a"), looks := false }, kinds := [], alts := [], laidByText := true, laidKinds := [.data, .data, .data], laidTests := true, laidLooks := .later }
def EmitJoinsCardSaid : Prop := Claim7.holds Tryd.pinned (.plain (OpenSpec.ofChange emitJoinsSpec)) emitJoinsCard

/-- THE SECOND FORM's CARD OF 'colophonlaw15.EmitChecks'. -/
def emitChecksUptoCard : Claim7 := { stood := { row := emitChecksUptoRow, standIns := [], harness := (true, "da2d1a4653ca6ed122d7c69d917c4a75f1744d338adc181f923f4b2e2c26649a"), looks := false }, kinds := [], alts := [], laidByText := true, laidKinds := [.data, .data, .data], laidTests := true, laidLooks := .later }
def EmitChecksUptoCardSaid : Prop := Claim7.holds Tryd.pinned (.plain (OpenSpec.upto emitChecksSpec)) emitChecksUptoCard

/-- THE SECOND FORM's CARD OF 'colophonlaw15.EmitWrites'. -/
def emitWritesUptoCard : Claim7 := { stood := { row := emitWritesUptoRow, standIns := [], harness := (true, "da2d1a4653ca6ed122d7c69d917c4a75f1744d338adc181f923f4b2e2c26649a"), looks := false }, kinds := [], alts := [], laidByText := true, laidKinds := [.data, .data, .data], laidTests := true, laidLooks := .later }
def EmitWritesUptoCardSaid : Prop := Claim7.holds Tryd.pinned (.plain (OpenSpec.upto emitWritesSpec)) emitWritesUptoCard

/-- THE SECOND FORM's CARD OF 'colophonlaw15.EmitJoins'. -/
def emitJoinsUptoCard : Claim7 := { stood := { row := emitJoinsUptoRow, standIns := [], harness := (true, "da2d1a4653ca6ed122d7c69d917c4a75f1744d338adc181f923f4b2e2c26649a"), looks := false }, kinds := [], alts := [], laidByText := true, laidKinds := [.data, .data, .data], laidTests := true, laidLooks := .later }
def EmitJoinsUptoCardSaid : Prop := Claim7.holds Tryd.pinned (.plain (OpenSpec.upto emitJoinsSpec)) emitJoinsUptoCard
end Rows
end Go.Proofs.YthhhepbflggojaaDoor
