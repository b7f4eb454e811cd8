/-
  DERIVED. GIVEN WITH THE SEED: THE CARDS: each row of YthnpnkiomknkeaaDoorRows.lean that lists a variable, with what it lists TIED to the program's text (the seventh form; the later family's looks); each row that meets fmt, with fmt's text TOLD by the authors' own Lean function (tested against real Go, not proved from fmt's source: count such statements apart). THE CARD IS WHAT COUNTS. Prove the row's statement (the work); the ties are given (YthnpnkiomknkeaaDoorTie.lean); close each card by the builder's one call (the guide's Derived/Test/ToyasCard.lean, 'card_holds'). Laid BY PROGRAM, IN A SANDBOX (cutbox-door.mjs). By AI agents, Wed Nov 11 2026. No macro, syntax, notation, axiom, sorry.
-/
import Derived.Test.YthnpnkiomknkeaaDoorRows
import GoSem.ClaimSeven
namespace Go.Proofs.YthnpnkiomknkeaaDoor
namespace Rows

/-- THE TIED CARD OF 'colophonlaw13.SubsetCloses'. -/
def subsetClosesCard : Claim7 := { stood := { row := subsetClosesRow, standIns := [], harness := (true, "8bc9c4b69e949e9a3d2b21daeae65dc94ec2d0d9722194537bc55d2116f0730c"), looks := false }, kinds := [], alts := [], laidByText := true, laidKinds := [.data, .pinned], laidTests := true, laidLooks := .later }
def SubsetClosesCardSaid : Prop := Claim7.holds Tryd.pinned (.plain (OpenSpec.ofChange subsetClosesSpec)) subsetClosesCard

/-- THE TIED CARD OF 'colophonlaw13.SubsetMakes'. -/
def subsetMakesCard : Claim7 := { stood := { row := subsetMakesRow, standIns := [], harness := (true, "8bc9c4b69e949e9a3d2b21daeae65dc94ec2d0d9722194537bc55d2116f0730c"), looks := false }, kinds := [], alts := [], laidByText := true, laidKinds := [.data, .pinned], laidTests := true, laidLooks := .later }
def SubsetMakesCardSaid : Prop := Claim7.holds Tryd.pinned (.plain (OpenSpec.ofChange subsetMakesSpec)) subsetMakesCard

/-- THE SECOND FORM's CARD OF 'colophonlaw13.SubsetCloses'. -/
def subsetClosesUptoCard : Claim7 := { stood := { row := subsetClosesUptoRow, standIns := [], harness := (true, "8bc9c4b69e949e9a3d2b21daeae65dc94ec2d0d9722194537bc55d2116f0730c"), looks := false }, kinds := [], alts := [], laidByText := true, laidKinds := [.data, .pinned], laidTests := true, laidLooks := .later }
def SubsetClosesUptoCardSaid : Prop := Claim7.holds Tryd.pinned (.plain (OpenSpec.upto subsetClosesSpec)) subsetClosesUptoCard

/-- THE SECOND FORM's CARD OF 'colophonlaw13.SubsetMakes'. -/
def subsetMakesUptoCard : Claim7 := { stood := { row := subsetMakesUptoRow, standIns := [], harness := (true, "8bc9c4b69e949e9a3d2b21daeae65dc94ec2d0d9722194537bc55d2116f0730c"), looks := false }, kinds := [], alts := [], laidByText := true, laidKinds := [.data, .pinned], laidTests := true, laidLooks := .later }
def SubsetMakesUptoCardSaid : Prop := Claim7.holds Tryd.pinned (.plain (OpenSpec.upto subsetMakesSpec)) subsetMakesUptoCard
end Rows
end Go.Proofs.YthnpnkiomknkeaaDoor
