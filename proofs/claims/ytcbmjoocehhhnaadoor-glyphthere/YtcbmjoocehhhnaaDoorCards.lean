/-
  DERIVED. GIVEN WITH THE SEED: THE CARDS: each row of YtcbmjoocehhhnaaDoorRows.lean that lists a variable, with what it lists TIED to the program's text (the seventh form; the later family's looks); each row that meets fmt, with fmt's text TOLD by the authors' own Lean function (tested against real Go, not proved from fmt's source: count such statements apart). THE CARD IS WHAT COUNTS. Prove the row's statement (the work); the ties are given (YtcbmjoocehhhnaaDoorTie.lean); close each card by the builder's one call (the guide's Derived/Test/ToyasCard.lean, 'card_holds'). Laid BY PROGRAM, IN A SANDBOX (cutbox-door.mjs). By AI agents, Wed Nov 11 2026. No macro, syntax, notation, axiom, sorry.
-/
import Derived.Test.YtcbmjoocehhhnaaDoorRows
import GoSem.ClaimSeven
namespace Go.Proofs.YtcbmjoocehhhnaaDoor
namespace Rows

/-- THE TIED CARD OF 'colophonlaw10.GlyphSplits'. -/
def glyphSplitsCard : Claim7 := { stood := { row := glyphSplitsRow, standIns := [], harness := (true, "d78f441c46b18b036fc033e3bc9ed0c2077f0bf5eb8b7a362383d7ab5111db50"), looks := false }, kinds := [], alts := [], laidByText := true, laidKinds := [.data, .pinned], laidTests := true, laidLooks := .later }
def GlyphSplitsCardSaid : Prop := Claim7.holds Tryd.pinned (.plain (OpenSpec.ofChange glyphSplitsSpec)) glyphSplitsCard

/-- THE TIED CARD OF 'colophonlaw10.GlyphJoins'. -/
def glyphJoinsCard : Claim7 := { stood := { row := glyphJoinsRow, standIns := [], harness := (true, "d78f441c46b18b036fc033e3bc9ed0c2077f0bf5eb8b7a362383d7ab5111db50"), looks := false }, kinds := [], alts := [], laidByText := true, laidKinds := [.data, .pinned], laidTests := true, laidLooks := .later }
def GlyphJoinsCardSaid : Prop := Claim7.holds Tryd.pinned (.plain (OpenSpec.ofChange glyphJoinsSpec)) glyphJoinsCard

/-- THE TIED CARD OF 'colophonlaw10.GlyphChecks'. -/
def glyphChecksCard : Claim7 := { stood := { row := glyphChecksRow, standIns := [], harness := (true, "d78f441c46b18b036fc033e3bc9ed0c2077f0bf5eb8b7a362383d7ab5111db50"), looks := false }, kinds := [], alts := [], laidByText := true, laidKinds := [.data, .pinned], laidTests := true, laidLooks := .later }
def GlyphChecksCardSaid : Prop := Claim7.holds Tryd.pinned (.plain (OpenSpec.ofChange glyphChecksSpec)) glyphChecksCard

/-- THE TIED CARD OF 'colophonlaw10.GlyphRenumbers'. -/
def glyphRenumbersCard : Claim7 := { stood := { row := glyphRenumbersRow, standIns := [], harness := (true, "d78f441c46b18b036fc033e3bc9ed0c2077f0bf5eb8b7a362383d7ab5111db50"), looks := false }, kinds := [], alts := [], laidByText := true, laidKinds := [.data, .pinned], laidTests := true, laidLooks := .later }
def GlyphRenumbersCardSaid : Prop := Claim7.holds Tryd.pinned (.plain (OpenSpec.ofChange glyphRenumbersSpec)) glyphRenumbersCard

/-- THE TIED CARD OF 'colophonlaw10.GlyphBack'. -/
def glyphBackCard : Claim7 := { stood := { row := glyphBackRow, standIns := [], harness := (true, "d78f441c46b18b036fc033e3bc9ed0c2077f0bf5eb8b7a362383d7ab5111db50"), looks := false }, kinds := [], alts := [], laidByText := true, laidKinds := [.data, .pinned], laidTests := true, laidLooks := .later }
def GlyphBackCardSaid : Prop := Claim7.holds Tryd.pinned (.plain (OpenSpec.ofChange glyphBackSpec)) glyphBackCard

/-- THE TIED CARD OF 'colophonlaw10.GlyphThere'. -/
def glyphThereCard : Claim7 := { stood := { row := glyphThereRow, standIns := [], harness := (true, "d78f441c46b18b036fc033e3bc9ed0c2077f0bf5eb8b7a362383d7ab5111db50"), looks := false }, kinds := [], alts := [], laidByText := true, laidKinds := [.data, .pinned], laidTests := true, laidLooks := .later }
def GlyphThereCardSaid : Prop := Claim7.holds Tryd.pinned (.plain (OpenSpec.ofChange glyphThereSpec)) glyphThereCard

/-- THE SECOND FORM's CARD OF 'colophonlaw10.GlyphSplits'. -/
def glyphSplitsUptoCard : Claim7 := { stood := { row := glyphSplitsUptoRow, standIns := [], harness := (true, "d78f441c46b18b036fc033e3bc9ed0c2077f0bf5eb8b7a362383d7ab5111db50"), looks := false }, kinds := [], alts := [], laidByText := true, laidKinds := [.data, .pinned], laidTests := true, laidLooks := .later }
def GlyphSplitsUptoCardSaid : Prop := Claim7.holds Tryd.pinned (.plain (OpenSpec.upto glyphSplitsSpec)) glyphSplitsUptoCard

/-- THE SECOND FORM's CARD OF 'colophonlaw10.GlyphJoins'. -/
def glyphJoinsUptoCard : Claim7 := { stood := { row := glyphJoinsUptoRow, standIns := [], harness := (true, "d78f441c46b18b036fc033e3bc9ed0c2077f0bf5eb8b7a362383d7ab5111db50"), looks := false }, kinds := [], alts := [], laidByText := true, laidKinds := [.data, .pinned], laidTests := true, laidLooks := .later }
def GlyphJoinsUptoCardSaid : Prop := Claim7.holds Tryd.pinned (.plain (OpenSpec.upto glyphJoinsSpec)) glyphJoinsUptoCard

/-- THE SECOND FORM's CARD OF 'colophonlaw10.GlyphChecks'. -/
def glyphChecksUptoCard : Claim7 := { stood := { row := glyphChecksUptoRow, standIns := [], harness := (true, "d78f441c46b18b036fc033e3bc9ed0c2077f0bf5eb8b7a362383d7ab5111db50"), looks := false }, kinds := [], alts := [], laidByText := true, laidKinds := [.data, .pinned], laidTests := true, laidLooks := .later }
def GlyphChecksUptoCardSaid : Prop := Claim7.holds Tryd.pinned (.plain (OpenSpec.upto glyphChecksSpec)) glyphChecksUptoCard

/-- THE SECOND FORM's CARD OF 'colophonlaw10.GlyphRenumbers'. -/
def glyphRenumbersUptoCard : Claim7 := { stood := { row := glyphRenumbersUptoRow, standIns := [], harness := (true, "d78f441c46b18b036fc033e3bc9ed0c2077f0bf5eb8b7a362383d7ab5111db50"), looks := false }, kinds := [], alts := [], laidByText := true, laidKinds := [.data, .pinned], laidTests := true, laidLooks := .later }
def GlyphRenumbersUptoCardSaid : Prop := Claim7.holds Tryd.pinned (.plain (OpenSpec.upto glyphRenumbersSpec)) glyphRenumbersUptoCard

/-- THE SECOND FORM's CARD OF 'colophonlaw10.GlyphBack'. -/
def glyphBackUptoCard : Claim7 := { stood := { row := glyphBackUptoRow, standIns := [], harness := (true, "d78f441c46b18b036fc033e3bc9ed0c2077f0bf5eb8b7a362383d7ab5111db50"), looks := false }, kinds := [], alts := [], laidByText := true, laidKinds := [.data, .pinned], laidTests := true, laidLooks := .later }
def GlyphBackUptoCardSaid : Prop := Claim7.holds Tryd.pinned (.plain (OpenSpec.upto glyphBackSpec)) glyphBackUptoCard

/-- THE SECOND FORM's CARD OF 'colophonlaw10.GlyphThere'. -/
def glyphThereUptoCard : Claim7 := { stood := { row := glyphThereUptoRow, standIns := [], harness := (true, "d78f441c46b18b036fc033e3bc9ed0c2077f0bf5eb8b7a362383d7ab5111db50"), looks := false }, kinds := [], alts := [], laidByText := true, laidKinds := [.data, .pinned], laidTests := true, laidLooks := .later }
def GlyphThereUptoCardSaid : Prop := Claim7.holds Tryd.pinned (.plain (OpenSpec.upto glyphThereSpec)) glyphThereUptoCard
end Rows
end Go.Proofs.YtcbmjoocehhhnaaDoor
