/-
  NARROWER THAN 'FOR EVERY INPUT', by the rows' own cells (each row's printed sentence says how): MarksScans: laid · MarksPrints: laid · MarksEscapes: laid · MarksBack: laid · MarksText: laid · MarksPlaces: laid.
  DERIVED. THE GIVEN ROWS OF THIS SEAT. 6 by the template 'for every input the law returns true; each argument reads behind the call as it read before'; 0 by the template 'total and deterministic' (their statements: YtpmdekhjodhdmaaDoorTotals.lean).
  GIVEN WITH THE SEED: the statements are not yours to turn. If you find one false, say at which input.
  Laid BY PROGRAM, IN A SANDBOX (cutbox-rows.mjs): the forced cells as the released guide's own fill.sh prints them over the translation f15465c91d8f213b… (all of the seat's roots in one cut). By AI agents, Wed Nov 11 2026. No macro, syntax, notation, axiom, sorry.
-/
import Derived.Test.YtpmdekhjodhdmaaDoorChecked
import GoSem.PinnedTables
import GoSem.Claim
import GoSem.ClaimJoined
import GoSem.ClaimMapViews
import Derived.JoinedTies
import Derived.KernelRfl
namespace Go.Proofs.YtpmdekhjodhdmaaDoor
/- THE CELL 'sum', in the pinned program and in every row, IS THE sha256 OF THE DUMP (.gsa) THAT YtpmdekhjodhdmaaDoorProg.lean LOADS. Nothing in Lean hashes anything: it is a label: what it is worth is what the hold of that sum in a sandbox is worth. -/
noncomputable def Tryd.pinned : Pinned := { name := "ytpmdekhjodhdmaadoor", sum := "f15465c91d8f213b423fe6a77e27a9cf2c179c998bb8e5663e5a4981896f2594", checked := Tryd.checked }
namespace Rows
def none {H : Type} : Left H := { results := [], args := [] }

/- WHAT THE LISTED PACKAGE-LEVEL VARIABLES READ AS WHEN THE CALL BEGINS. Each datum BY PROGRAM (the guide's laid-datum.mjs) off the statement by which the dump's own 'gosem.cut.vars' lays the variable. In a bare row this is a premise. The card (YtpmdekhjodhdmaaDoorCards.lean) ties it to the program's text. -/
def laid_unicode_utf8_acceptRanges {H : Type} : DataW H := .agg [.agg [.lit (.int .u8 128), .lit (.int .u8 191)], .agg [.lit (.int .u8 160), .lit (.int .u8 191)], .agg [.lit (.int .u8 128), .lit (.int .u8 159)], .agg [.lit (.int .u8 144), .lit (.int .u8 191)], .agg [.lit (.int .u8 128), .lit (.int .u8 143)], .agg [.lit (.int .u8 0), .lit (.int .u8 0)], .agg [.lit (.int .u8 0), .lit (.int .u8 0)], .agg [.lit (.int .u8 0), .lit (.int .u8 0)], .agg [.lit (.int .u8 0), .lit (.int .u8 0)], .agg [.lit (.int .u8 0), .lit (.int .u8 0)], .agg [.lit (.int .u8 0), .lit (.int .u8 0)], .agg [.lit (.int .u8 0), .lit (.int .u8 0)], .agg [.lit (.int .u8 0), .lit (.int .u8 0)], .agg [.lit (.int .u8 0), .lit (.int .u8 0)], .agg [.lit (.int .u8 0), .lit (.int .u8 0)], .agg [.lit (.int .u8 0), .lit (.int .u8 0)]]
/-- One of Go's own tables, pinned by name: the form's constant. -/
def laid_unicode_utf8_first : DataW Unit := Go.Pinned.utf8First

/-- 'colophonlaw17.MarksScans': WHATEVER THE INPUT: true; the input reads as it did. -/
def marksScansSpec : ChangeSpec := { name := "marksScans", fn := fun _ => fun
  | [d] => { results := [.lit (.bool true)], args := [d] }
  | _ => none }
def marksScansRow : OpenClaim := { program := "ytpmdekhjodhdmaadoor", sum := "f15465c91d8f213b423fe6a77e27a9cf2c179c998bb8e5663e5a4981896f2594", func := "colophon/colophonlaw17.MarksScans", spec := "marksScans", inPlace := ["internal/bytealg.IndexByteString", "internal/bytealg.IndexString", "internal/abi.NoEscape"], unfollowed := true, recurses := true, named := ["unicode/utf8.first", "unicode/utf8.acceptRanges", "internal/bytealg.MaxLen"], apart := false, laid := [("unicode/utf8.acceptRanges", laid_unicode_utf8_acceptRanges), ("unicode/utf8.first", laid_unicode_utf8_first)] }
def MarksScansSaid : Prop := marksScansRow.holds Tryd.pinned (OpenSpec.ofChange marksScansSpec)

/-- ITS FALSE NEIGHBOUR: 'it returns false'. Refute it at one input. -/
def marksScansWrong : ChangeSpec := { name := "marksScans", fn := fun _ => fun
  | [d] => { results := [.lit (.bool false)], args := [d] }
  | _ => none }
def MarksScansWrongFalsely : Prop := marksScansRow.holds Tryd.pinned (OpenSpec.ofChange marksScansWrong)

/-- 'colophonlaw17.MarksPrints': WHATEVER THE INPUT: true; the input reads as it did. -/
def marksPrintsSpec : ChangeSpec := { name := "marksPrints", fn := fun _ => fun
  | [d] => { results := [.lit (.bool true)], args := [d] }
  | _ => none }
def marksPrintsRow : OpenClaim := { program := "ytpmdekhjodhdmaadoor", sum := "f15465c91d8f213b423fe6a77e27a9cf2c179c998bb8e5663e5a4981896f2594", func := "colophon/colophonlaw17.MarksPrints", spec := "marksPrints", inPlace := ["internal/bytealg.IndexByteString", "internal/bytealg.IndexString", "internal/abi.NoEscape"], unfollowed := true, recurses := true, named := ["unicode/utf8.first", "unicode/utf8.acceptRanges", "internal/bytealg.MaxLen"], apart := false, laid := [("unicode/utf8.acceptRanges", laid_unicode_utf8_acceptRanges), ("unicode/utf8.first", laid_unicode_utf8_first)] }
def MarksPrintsSaid : Prop := marksPrintsRow.holds Tryd.pinned (OpenSpec.ofChange marksPrintsSpec)

/-- ITS FALSE NEIGHBOUR: 'it returns false'. Refute it at one input. -/
def marksPrintsWrong : ChangeSpec := { name := "marksPrints", fn := fun _ => fun
  | [d] => { results := [.lit (.bool false)], args := [d] }
  | _ => none }
def MarksPrintsWrongFalsely : Prop := marksPrintsRow.holds Tryd.pinned (OpenSpec.ofChange marksPrintsWrong)

/-- 'colophonlaw17.MarksEscapes': WHATEVER THE INPUT: true; the input reads as it did. -/
def marksEscapesSpec : ChangeSpec := { name := "marksEscapes", fn := fun _ => fun
  | [d] => { results := [.lit (.bool true)], args := [d] }
  | _ => none }
def marksEscapesRow : OpenClaim := { program := "ytpmdekhjodhdmaadoor", sum := "f15465c91d8f213b423fe6a77e27a9cf2c179c998bb8e5663e5a4981896f2594", func := "colophon/colophonlaw17.MarksEscapes", spec := "marksEscapes", inPlace := ["internal/bytealg.IndexByteString", "internal/bytealg.IndexString", "internal/abi.NoEscape"], unfollowed := true, recurses := true, named := ["unicode/utf8.first", "unicode/utf8.acceptRanges", "internal/bytealg.MaxLen"], apart := false, laid := [("unicode/utf8.acceptRanges", laid_unicode_utf8_acceptRanges), ("unicode/utf8.first", laid_unicode_utf8_first)] }
def MarksEscapesSaid : Prop := marksEscapesRow.holds Tryd.pinned (OpenSpec.ofChange marksEscapesSpec)

/-- ITS FALSE NEIGHBOUR: 'it returns false'. Refute it at one input. -/
def marksEscapesWrong : ChangeSpec := { name := "marksEscapes", fn := fun _ => fun
  | [d] => { results := [.lit (.bool false)], args := [d] }
  | _ => none }
def MarksEscapesWrongFalsely : Prop := marksEscapesRow.holds Tryd.pinned (OpenSpec.ofChange marksEscapesWrong)

/-- 'colophonlaw17.MarksBack': WHATEVER THE INPUT: true; the input reads as it did. -/
def marksBackSpec : ChangeSpec := { name := "marksBack", fn := fun _ => fun
  | [d1, d2] => { results := [.lit (.bool true)], args := [d1, d2] }
  | _ => none }
def marksBackRow : OpenClaim := { program := "ytpmdekhjodhdmaadoor", sum := "f15465c91d8f213b423fe6a77e27a9cf2c179c998bb8e5663e5a4981896f2594", func := "colophon/colophonlaw17.MarksBack", spec := "marksBack", inPlace := ["internal/bytealg.IndexByteString", "internal/bytealg.IndexString", "internal/abi.NoEscape"], unfollowed := true, recurses := true, named := ["unicode/utf8.first", "unicode/utf8.acceptRanges", "internal/bytealg.MaxLen"], apart := false, laid := [("unicode/utf8.acceptRanges", laid_unicode_utf8_acceptRanges), ("unicode/utf8.first", laid_unicode_utf8_first)] }
def MarksBackSaid : Prop := marksBackRow.holds Tryd.pinned (OpenSpec.ofChange marksBackSpec)

/-- ITS FALSE NEIGHBOUR: 'it returns false'. Refute it at one input. -/
def marksBackWrong : ChangeSpec := { name := "marksBack", fn := fun _ => fun
  | [d1, d2] => { results := [.lit (.bool false)], args := [d1, d2] }
  | _ => none }
def MarksBackWrongFalsely : Prop := marksBackRow.holds Tryd.pinned (OpenSpec.ofChange marksBackWrong)

/-- 'colophonlaw17.MarksText': WHATEVER THE INPUT: true; the input reads as it did. -/
def marksTextSpec : ChangeSpec := { name := "marksText", fn := fun _ => fun
  | [d] => { results := [.lit (.bool true)], args := [d] }
  | _ => none }
def marksTextRow : OpenClaim := { program := "ytpmdekhjodhdmaadoor", sum := "f15465c91d8f213b423fe6a77e27a9cf2c179c998bb8e5663e5a4981896f2594", func := "colophon/colophonlaw17.MarksText", spec := "marksText", inPlace := ["internal/bytealg.IndexByteString", "internal/bytealg.IndexString", "internal/abi.NoEscape"], unfollowed := true, recurses := true, named := ["unicode/utf8.first", "unicode/utf8.acceptRanges", "internal/bytealg.MaxLen"], apart := false, laid := [("unicode/utf8.acceptRanges", laid_unicode_utf8_acceptRanges), ("unicode/utf8.first", laid_unicode_utf8_first)] }
def MarksTextSaid : Prop := marksTextRow.holds Tryd.pinned (OpenSpec.ofChange marksTextSpec)

/-- ITS FALSE NEIGHBOUR: 'it returns false'. Refute it at one input. -/
def marksTextWrong : ChangeSpec := { name := "marksText", fn := fun _ => fun
  | [d] => { results := [.lit (.bool false)], args := [d] }
  | _ => none }
def MarksTextWrongFalsely : Prop := marksTextRow.holds Tryd.pinned (OpenSpec.ofChange marksTextWrong)

/-- 'colophonlaw17.MarksPlaces': WHATEVER THE INPUT: true; the input reads as it did. -/
def marksPlacesSpec : ChangeSpec := { name := "marksPlaces", fn := fun _ => fun
  | [d] => { results := [.lit (.bool true)], args := [d] }
  | _ => none }
def marksPlacesRow : OpenClaim := { program := "ytpmdekhjodhdmaadoor", sum := "f15465c91d8f213b423fe6a77e27a9cf2c179c998bb8e5663e5a4981896f2594", func := "colophon/colophonlaw17.MarksPlaces", spec := "marksPlaces", inPlace := ["internal/bytealg.IndexByteString", "internal/bytealg.IndexString", "internal/abi.NoEscape"], unfollowed := true, recurses := true, named := ["unicode/utf8.first", "unicode/utf8.acceptRanges", "internal/bytealg.MaxLen"], apart := false, laid := [("unicode/utf8.acceptRanges", laid_unicode_utf8_acceptRanges), ("unicode/utf8.first", laid_unicode_utf8_first)] }
def MarksPlacesSaid : Prop := marksPlacesRow.holds Tryd.pinned (OpenSpec.ofChange marksPlacesSpec)

/-- ITS FALSE NEIGHBOUR: 'it returns false'. Refute it at one input. -/
def marksPlacesWrong : ChangeSpec := { name := "marksPlaces", fn := fun _ => fun
  | [d] => { results := [.lit (.bool false)], args := [d] }
  | _ => none }
def MarksPlacesWrongFalsely : Prop := marksPlacesRow.holds Tryd.pinned (OpenSpec.ofChange marksPlacesWrong)

/- THE SECOND FORM. 'bulk': how many values and letters a reading holds, each counted each time it is reached (what is shared counts as often as it is met; a slice's spare places count too). A statement '..UptoSaid' is the law's where the arguments, and the package variables that the reading takes, are together of bulk at most 1048576: NARROWER than '..Said'. Prove '..Said' where nothing that the law and all that it calls make is longer than what came in: it says more and counts as full. Else prove '..UptoSaid'. A law counts once. -/
mutual
def uptoBulk {H : Type} : DataW H → Nat
  | .lit (.string bytes) => bytes.length + 1
  | .lit _ => 1
  | .nil => 1
  | .ptr d => uptoBulk d + 1
  | .slice elems spare => uptoBulkAll elems + uptoBulkAll spare + 1
  | .agg parts => uptoBulkAll parts + 1
  | .iface _ d => uptoBulk d + 1
  | .map entries => uptoBulkEntries entries + 1
  | .held _ => 1
def uptoBulkAll {H : Type} : List (DataW H) → Nat
  | [] => 0
  | d :: r => uptoBulk d + uptoBulkAll r
def uptoBulkEntries {H : Type} : List (Lit × DataW H) → Nat
  | [] => 0
  | x :: r => uptoBulkEntry x + uptoBulkEntries r
def uptoBulkEntry {H : Type} : Lit × DataW H → Nat
  | (.string bytes, d) => bytes.length + uptoBulk d + 1
  | (_, d) => uptoBulk d + 1
 end
def uptoSmall : (H : Type) → List (DataW H) → Bool := fun _ ds => decide (uptoBulkAll ds ≤ 1048576)
def OpenSpec.upto (s : _root_.Go.ChangeSpec) : _root_.Go.OpenSpec := { _root_.Go.OpenSpec.ofChange s with cond := some uptoSmall }

/-- 'colophonlaw17.MarksScans', WHERE WHAT IT READS IS OF BULK AT MOST 1048576: true; the input reads as it did. -/
def marksScansUptoRow : OpenClaim := { program := "ytpmdekhjodhdmaadoor", sum := "f15465c91d8f213b423fe6a77e27a9cf2c179c998bb8e5663e5a4981896f2594", func := "colophon/colophonlaw17.MarksScans", spec := "marksScans", inPlace := ["internal/bytealg.IndexByteString", "internal/bytealg.IndexString", "internal/abi.NoEscape"], unfollowed := true, recurses := true, named := ["unicode/utf8.first", "unicode/utf8.acceptRanges", "internal/bytealg.MaxLen"], apart := false, laid := [("unicode/utf8.acceptRanges", laid_unicode_utf8_acceptRanges), ("unicode/utf8.first", laid_unicode_utf8_first)], narrowed := true }
def MarksScansUptoSaid : Prop := marksScansUptoRow.holds Tryd.pinned (OpenSpec.upto marksScansSpec)

/-- 'colophonlaw17.MarksPrints', WHERE WHAT IT READS IS OF BULK AT MOST 1048576: true; the input reads as it did. -/
def marksPrintsUptoRow : OpenClaim := { program := "ytpmdekhjodhdmaadoor", sum := "f15465c91d8f213b423fe6a77e27a9cf2c179c998bb8e5663e5a4981896f2594", func := "colophon/colophonlaw17.MarksPrints", spec := "marksPrints", inPlace := ["internal/bytealg.IndexByteString", "internal/bytealg.IndexString", "internal/abi.NoEscape"], unfollowed := true, recurses := true, named := ["unicode/utf8.first", "unicode/utf8.acceptRanges", "internal/bytealg.MaxLen"], apart := false, laid := [("unicode/utf8.acceptRanges", laid_unicode_utf8_acceptRanges), ("unicode/utf8.first", laid_unicode_utf8_first)], narrowed := true }
def MarksPrintsUptoSaid : Prop := marksPrintsUptoRow.holds Tryd.pinned (OpenSpec.upto marksPrintsSpec)

/-- 'colophonlaw17.MarksEscapes', WHERE WHAT IT READS IS OF BULK AT MOST 1048576: true; the input reads as it did. -/
def marksEscapesUptoRow : OpenClaim := { program := "ytpmdekhjodhdmaadoor", sum := "f15465c91d8f213b423fe6a77e27a9cf2c179c998bb8e5663e5a4981896f2594", func := "colophon/colophonlaw17.MarksEscapes", spec := "marksEscapes", inPlace := ["internal/bytealg.IndexByteString", "internal/bytealg.IndexString", "internal/abi.NoEscape"], unfollowed := true, recurses := true, named := ["unicode/utf8.first", "unicode/utf8.acceptRanges", "internal/bytealg.MaxLen"], apart := false, laid := [("unicode/utf8.acceptRanges", laid_unicode_utf8_acceptRanges), ("unicode/utf8.first", laid_unicode_utf8_first)], narrowed := true }
def MarksEscapesUptoSaid : Prop := marksEscapesUptoRow.holds Tryd.pinned (OpenSpec.upto marksEscapesSpec)

/-- 'colophonlaw17.MarksBack', WHERE WHAT IT READS IS OF BULK AT MOST 1048576: true; the input reads as it did. -/
def marksBackUptoRow : OpenClaim := { program := "ytpmdekhjodhdmaadoor", sum := "f15465c91d8f213b423fe6a77e27a9cf2c179c998bb8e5663e5a4981896f2594", func := "colophon/colophonlaw17.MarksBack", spec := "marksBack", inPlace := ["internal/bytealg.IndexByteString", "internal/bytealg.IndexString", "internal/abi.NoEscape"], unfollowed := true, recurses := true, named := ["unicode/utf8.first", "unicode/utf8.acceptRanges", "internal/bytealg.MaxLen"], apart := false, laid := [("unicode/utf8.acceptRanges", laid_unicode_utf8_acceptRanges), ("unicode/utf8.first", laid_unicode_utf8_first)], narrowed := true }
def MarksBackUptoSaid : Prop := marksBackUptoRow.holds Tryd.pinned (OpenSpec.upto marksBackSpec)

/-- 'colophonlaw17.MarksText', WHERE WHAT IT READS IS OF BULK AT MOST 1048576: true; the input reads as it did. -/
def marksTextUptoRow : OpenClaim := { program := "ytpmdekhjodhdmaadoor", sum := "f15465c91d8f213b423fe6a77e27a9cf2c179c998bb8e5663e5a4981896f2594", func := "colophon/colophonlaw17.MarksText", spec := "marksText", inPlace := ["internal/bytealg.IndexByteString", "internal/bytealg.IndexString", "internal/abi.NoEscape"], unfollowed := true, recurses := true, named := ["unicode/utf8.first", "unicode/utf8.acceptRanges", "internal/bytealg.MaxLen"], apart := false, laid := [("unicode/utf8.acceptRanges", laid_unicode_utf8_acceptRanges), ("unicode/utf8.first", laid_unicode_utf8_first)], narrowed := true }
def MarksTextUptoSaid : Prop := marksTextUptoRow.holds Tryd.pinned (OpenSpec.upto marksTextSpec)

/-- 'colophonlaw17.MarksPlaces', WHERE WHAT IT READS IS OF BULK AT MOST 1048576: true; the input reads as it did. -/
def marksPlacesUptoRow : OpenClaim := { program := "ytpmdekhjodhdmaadoor", sum := "f15465c91d8f213b423fe6a77e27a9cf2c179c998bb8e5663e5a4981896f2594", func := "colophon/colophonlaw17.MarksPlaces", spec := "marksPlaces", inPlace := ["internal/bytealg.IndexByteString", "internal/bytealg.IndexString", "internal/abi.NoEscape"], unfollowed := true, recurses := true, named := ["unicode/utf8.first", "unicode/utf8.acceptRanges", "internal/bytealg.MaxLen"], apart := false, laid := [("unicode/utf8.acceptRanges", laid_unicode_utf8_acceptRanges), ("unicode/utf8.first", laid_unicode_utf8_first)], narrowed := true }
def MarksPlacesUptoSaid : Prop := marksPlacesUptoRow.holds Tryd.pinned (OpenSpec.upto marksPlacesSpec)

end Rows
end Go.Proofs.YtpmdekhjodhdmaaDoor
