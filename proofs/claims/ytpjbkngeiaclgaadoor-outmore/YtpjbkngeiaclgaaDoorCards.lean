/-
  DERIVED. GIVEN WITH THE SEED: THE CARDS: each row of YtpjbkngeiaclgaaDoorRows.lean that lists a variable, with what it lists TIED to the program's text (the seventh form; the later family's looks); each row that meets fmt, with fmt's text TOLD by the authors' own Lean function (tested against real Go, not proved from fmt's source: count such statements apart). THE CARD IS WHAT COUNTS. Prove the row's statement (the work); the ties are given (YtpjbkngeiaclgaaDoorTie.lean); close each card by the builder's one call (the guide's Derived/Test/ToyasCard.lean, 'card_holds'). Laid BY PROGRAM, IN A SANDBOX (cutbox-door.mjs). By AI agents, Wed Nov 11 2026. No macro, syntax, notation, axiom, sorry.
-/
import Derived.Test.YtpjbkngeiaclgaaDoorRows
import GoSem.ClaimSeven
namespace Go.Proofs.YtpjbkngeiaclgaaDoor
namespace Rows

/-- THE TIED CARD OF 'colophonlaw06.OutWrites'. -/
def outWritesCard : Claim7 := { stood := { row := outWritesRow, standIns := [], harness := (true, "e913f8765231157781dcac9a4e970120c171283b10f0073000b9e631980b2518"), looks := false }, kinds := [], alts := [], laidByText := true, laidKinds := [.data, .data, .data], laidTests := true, laidLooks := .later }
def OutWritesCardSaid : Prop := Claim7.holds Tryd.pinned (.plain (OpenSpec.ofChange outWritesSpec)) outWritesCard

/-- THE TIED CARD OF 'colophonlaw06.OutPlaces'. -/
def outPlacesCard : Claim7 := { stood := { row := outPlacesRow, standIns := [], harness := (true, "e913f8765231157781dcac9a4e970120c171283b10f0073000b9e631980b2518"), looks := false }, kinds := [], alts := [], laidByText := true, laidKinds := [.data, .data, .data], laidTests := true, laidLooks := .later }
def OutPlacesCardSaid : Prop := Claim7.holds Tryd.pinned (.plain (OpenSpec.ofChange outPlacesSpec)) outPlacesCard

/-- THE TIED CARD OF 'colophonlaw06.OutBegins'. -/
def outBeginsCard : Claim7 := { stood := { row := outBeginsRow, standIns := [], harness := (true, "e913f8765231157781dcac9a4e970120c171283b10f0073000b9e631980b2518"), looks := false }, kinds := [], alts := [], laidByText := true, laidKinds := [.data, .data, .data], laidTests := true, laidLooks := .later }
def OutBeginsCardSaid : Prop := Claim7.holds Tryd.pinned (.plain (OpenSpec.ofChange outBeginsSpec)) outBeginsCard

/-- THE TIED CARD OF 'colophonlaw06.OutMore'. -/
def outMoreCard : Claim7 := { stood := { row := outMoreRow, standIns := [], harness := (true, "e913f8765231157781dcac9a4e970120c171283b10f0073000b9e631980b2518"), looks := false }, kinds := [], alts := [], laidByText := true, laidKinds := [.data, .data, .data], laidTests := true, laidLooks := .later }
def OutMoreCardSaid : Prop := Claim7.holds Tryd.pinned (.plain (OpenSpec.ofChange outMoreSpec)) outMoreCard

/-- THE SECOND FORM's CARD OF 'colophonlaw06.OutWrites'. -/
def outWritesUptoCard : Claim7 := { stood := { row := outWritesUptoRow, standIns := [], harness := (true, "e913f8765231157781dcac9a4e970120c171283b10f0073000b9e631980b2518"), looks := false }, kinds := [], alts := [], laidByText := true, laidKinds := [.data, .data, .data], laidTests := true, laidLooks := .later }
def OutWritesUptoCardSaid : Prop := Claim7.holds Tryd.pinned (.plain (OpenSpec.upto outWritesSpec)) outWritesUptoCard

/-- THE SECOND FORM's CARD OF 'colophonlaw06.OutPlaces'. -/
def outPlacesUptoCard : Claim7 := { stood := { row := outPlacesUptoRow, standIns := [], harness := (true, "e913f8765231157781dcac9a4e970120c171283b10f0073000b9e631980b2518"), looks := false }, kinds := [], alts := [], laidByText := true, laidKinds := [.data, .data, .data], laidTests := true, laidLooks := .later }
def OutPlacesUptoCardSaid : Prop := Claim7.holds Tryd.pinned (.plain (OpenSpec.upto outPlacesSpec)) outPlacesUptoCard

/-- THE SECOND FORM's CARD OF 'colophonlaw06.OutBegins'. -/
def outBeginsUptoCard : Claim7 := { stood := { row := outBeginsUptoRow, standIns := [], harness := (true, "e913f8765231157781dcac9a4e970120c171283b10f0073000b9e631980b2518"), looks := false }, kinds := [], alts := [], laidByText := true, laidKinds := [.data, .data, .data], laidTests := true, laidLooks := .later }
def OutBeginsUptoCardSaid : Prop := Claim7.holds Tryd.pinned (.plain (OpenSpec.upto outBeginsSpec)) outBeginsUptoCard

/-- THE SECOND FORM's CARD OF 'colophonlaw06.OutMore'. -/
def outMoreUptoCard : Claim7 := { stood := { row := outMoreUptoRow, standIns := [], harness := (true, "e913f8765231157781dcac9a4e970120c171283b10f0073000b9e631980b2518"), looks := false }, kinds := [], alts := [], laidByText := true, laidKinds := [.data, .data, .data], laidTests := true, laidLooks := .later }
def OutMoreUptoCardSaid : Prop := Claim7.holds Tryd.pinned (.plain (OpenSpec.upto outMoreSpec)) outMoreUptoCard
end Rows
end Go.Proofs.YtpjbkngeiaclgaaDoor
