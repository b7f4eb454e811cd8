/-
  DERIVED. GIVEN WITH THE SEED: THE CARDS: each row of YtlnkddmpcicejaaDoorRows.lean that lists a variable, with what it lists TIED to the program's text (the seventh form; the later family's looks); each row that meets fmt, with fmt's text TOLD by the authors' own Lean function (tested against real Go, not proved from fmt's source: count such statements apart). THE CARD IS WHAT COUNTS. Prove the row's statement (the work); the ties are given (YtlnkddmpcicejaaDoorTie.lean); close each card by the builder's one call (the guide's Derived/Test/ToyasCard.lean, 'card_holds'). Laid BY PROGRAM, IN A SANDBOX (cutbox-door.mjs). By AI agents, Wed Nov 11 2026. No macro, syntax, notation, axiom, sorry.
-/
import Derived.Test.YtlnkddmpcicejaaDoorRows
import GoSem.ClaimSeven
namespace Go.Proofs.YtlnkddmpcicejaaDoor
namespace Rows

/-- THE TIED CARD OF 'colophonlaw06.OutBegins'. -/
def outBeginsCard : Claim7 := { stood := { row := outBeginsRow, standIns := [], harness := (true, "93ec02bae0157f6241d2086b8c5b9b03a813c0a5c1d2a0f0bcac454139646b6f"), looks := false }, kinds := [], alts := [], laidByText := true, laidKinds := [.data, .data, .data], laidTests := true, laidLooks := .later }
def OutBeginsCardSaid : Prop := Claim7.holds Tryd.pinned (.plain (OpenSpec.ofChange outBeginsSpec)) outBeginsCard

/-- THE SECOND FORM's CARD OF 'colophonlaw06.OutBegins'. -/
def outBeginsUptoCard : Claim7 := { stood := { row := outBeginsUptoRow, standIns := [], harness := (true, "93ec02bae0157f6241d2086b8c5b9b03a813c0a5c1d2a0f0bcac454139646b6f"), looks := false }, kinds := [], alts := [], laidByText := true, laidKinds := [.data, .data, .data], laidTests := true, laidLooks := .later }
def OutBeginsUptoCardSaid : Prop := Claim7.holds Tryd.pinned (.plain (OpenSpec.upto outBeginsSpec)) outBeginsUptoCard
end Rows
end Go.Proofs.YtlnkddmpcicejaaDoor
