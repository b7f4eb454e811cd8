/-
  NARROWER THAN 'FOR EVERY INPUT', by the rows' own cells (each row's printed sentence says how): SfntSums: laid · SfntAdds: laid · SfntReads: laid · SfntBuilds: laid · SfntBack: laid · SfntTurned: laid.
  DERIVED. THE GIVEN ROWS OF THIS SEAT. 6 by the template 'for every input the law returns true; each argument reads behind the call as it read before'; 0 by the template 'total and deterministic' (their statements: YtgmmhlpdkoiheaaDoorTotals.lean).
  GIVEN WITH THE SEED: the statements are not yours to turn. If you find one false, say at which input.
  Laid BY PROGRAM, IN A SANDBOX (cutbox-rows.mjs): the forced cells as the released guide's own fill.sh prints them over the translation 918400f782f7f6c5… (all of the seat's roots in one cut). By AI agents, Wed Nov 11 2026. No macro, syntax, notation, axiom, sorry.
-/
import Derived.Test.YtgmmhlpdkoiheaaDoorChecked
import GoSem.Claim
import GoSem.ClaimJoined
import GoSem.ClaimMapViews
import Derived.JoinedTies
import Derived.KernelRfl
namespace Go.Proofs.YtgmmhlpdkoiheaaDoor
/- THE CELL 'sum', in the pinned program and in every row, IS THE sha256 OF THE DUMP (.gsa) THAT YtgmmhlpdkoiheaaDoorProg.lean LOADS. Nothing in Lean hashes anything: it is a label: what it is worth is what the hold of that sum in a sandbox is worth. -/
noncomputable def Tryd.pinned : Pinned := { name := "ytgmmhlpdkoiheaadoor", sum := "918400f782f7f6c50677774cd9924c300206b15084a3646bb640d89811fa51e9", checked := Tryd.checked }
namespace Rows
def none {H : Type} : Left H := { results := [], args := [] }

/- WHAT THE LISTED PACKAGE-LEVEL VARIABLES READ AS WHEN THE CALL BEGINS. Each datum BY PROGRAM (the guide's laid-datum.mjs) off the statement by which the dump's own 'gosem.cut.vars' lays the variable. In a bare row this is a premise. The card (YtgmmhlpdkoiheaaDoorCards.lean) ties it to the program's text. -/
def laid_colophon_sfnt_head {H : Type} : DataW H := .agg [.lit (.int .u8 104), .lit (.int .u8 101), .lit (.int .u8 97), .lit (.int .u8 100)]

/-- 'colophonlaw08.SfntSums': WHATEVER THE INPUT: true; the input reads as it did. -/
def sfntSumsSpec : ChangeSpec := { name := "sfntSums", fn := fun _ => fun
  | [d] => { results := [.lit (.bool true)], args := [d] }
  | _ => none }
def sfntSumsRow : OpenClaim := { program := "ytgmmhlpdkoiheaadoor", sum := "918400f782f7f6c50677774cd9924c300206b15084a3646bb640d89811fa51e9", func := "colophon/colophonlaw08.SfntSums", spec := "sfntSums", inPlace := ["internal/bytealg.abigen_runtime_cmpstring", "internal/bytealg.Compare", "internal/abi.NoEscape", "internal/bytealg.MakeNoZero"], unfollowed := true, recurses := true, named := ["colophon/sfnt.head"], apart := false, laid := [("colophon/sfnt.head", laid_colophon_sfnt_head)] }
def SfntSumsSaid : Prop := sfntSumsRow.holds Tryd.pinned (OpenSpec.ofChange sfntSumsSpec)

/-- ITS FALSE NEIGHBOUR: 'it returns false'. Refute it at one input. -/
def sfntSumsWrong : ChangeSpec := { name := "sfntSums", fn := fun _ => fun
  | [d] => { results := [.lit (.bool false)], args := [d] }
  | _ => none }
def SfntSumsWrongFalsely : Prop := sfntSumsRow.holds Tryd.pinned (OpenSpec.ofChange sfntSumsWrong)

/-- 'colophonlaw08.SfntAdds': WHATEVER THE INPUT: true; the input reads as it did. -/
def sfntAddsSpec : ChangeSpec := { name := "sfntAdds", fn := fun _ => fun
  | [d1, d2] => { results := [.lit (.bool true)], args := [d1, d2] }
  | _ => none }
def sfntAddsRow : OpenClaim := { program := "ytgmmhlpdkoiheaadoor", sum := "918400f782f7f6c50677774cd9924c300206b15084a3646bb640d89811fa51e9", func := "colophon/colophonlaw08.SfntAdds", spec := "sfntAdds", inPlace := ["internal/bytealg.abigen_runtime_cmpstring", "internal/bytealg.Compare", "internal/abi.NoEscape", "internal/bytealg.MakeNoZero"], unfollowed := true, recurses := true, named := ["colophon/sfnt.head"], apart := false, laid := [("colophon/sfnt.head", laid_colophon_sfnt_head)] }
def SfntAddsSaid : Prop := sfntAddsRow.holds Tryd.pinned (OpenSpec.ofChange sfntAddsSpec)

/-- ITS FALSE NEIGHBOUR: 'it returns false'. Refute it at one input. -/
def sfntAddsWrong : ChangeSpec := { name := "sfntAdds", fn := fun _ => fun
  | [d1, d2] => { results := [.lit (.bool false)], args := [d1, d2] }
  | _ => none }
def SfntAddsWrongFalsely : Prop := sfntAddsRow.holds Tryd.pinned (OpenSpec.ofChange sfntAddsWrong)

/-- 'colophonlaw08.SfntReads': WHATEVER THE INPUT: true; the input reads as it did. -/
def sfntReadsSpec : ChangeSpec := { name := "sfntReads", fn := fun _ => fun
  | [d] => { results := [.lit (.bool true)], args := [d] }
  | _ => none }
def sfntReadsRow : OpenClaim := { program := "ytgmmhlpdkoiheaadoor", sum := "918400f782f7f6c50677774cd9924c300206b15084a3646bb640d89811fa51e9", func := "colophon/colophonlaw08.SfntReads", spec := "sfntReads", inPlace := ["internal/bytealg.abigen_runtime_cmpstring", "internal/bytealg.Compare", "internal/abi.NoEscape", "internal/bytealg.MakeNoZero"], unfollowed := true, recurses := true, named := ["colophon/sfnt.head"], apart := false, laid := [("colophon/sfnt.head", laid_colophon_sfnt_head)] }
def SfntReadsSaid : Prop := sfntReadsRow.holds Tryd.pinned (OpenSpec.ofChange sfntReadsSpec)

/-- ITS FALSE NEIGHBOUR: 'it returns false'. Refute it at one input. -/
def sfntReadsWrong : ChangeSpec := { name := "sfntReads", fn := fun _ => fun
  | [d] => { results := [.lit (.bool false)], args := [d] }
  | _ => none }
def SfntReadsWrongFalsely : Prop := sfntReadsRow.holds Tryd.pinned (OpenSpec.ofChange sfntReadsWrong)

/-- 'colophonlaw08.SfntBuilds': WHATEVER THE INPUT: true; the input reads as it did. -/
def sfntBuildsSpec : ChangeSpec := { name := "sfntBuilds", fn := fun _ => fun
  | [d1, d2] => { results := [.lit (.bool true)], args := [d1, d2] }
  | _ => none }
def sfntBuildsRow : OpenClaim := { program := "ytgmmhlpdkoiheaadoor", sum := "918400f782f7f6c50677774cd9924c300206b15084a3646bb640d89811fa51e9", func := "colophon/colophonlaw08.SfntBuilds", spec := "sfntBuilds", inPlace := ["internal/bytealg.abigen_runtime_cmpstring", "internal/bytealg.Compare", "internal/abi.NoEscape", "internal/bytealg.MakeNoZero"], unfollowed := true, recurses := true, named := ["colophon/sfnt.head"], apart := false, laid := [("colophon/sfnt.head", laid_colophon_sfnt_head)] }
def SfntBuildsSaid : Prop := sfntBuildsRow.holds Tryd.pinned (OpenSpec.ofChange sfntBuildsSpec)

/-- ITS FALSE NEIGHBOUR: 'it returns false'. Refute it at one input. -/
def sfntBuildsWrong : ChangeSpec := { name := "sfntBuilds", fn := fun _ => fun
  | [d1, d2] => { results := [.lit (.bool false)], args := [d1, d2] }
  | _ => none }
def SfntBuildsWrongFalsely : Prop := sfntBuildsRow.holds Tryd.pinned (OpenSpec.ofChange sfntBuildsWrong)

/-- 'colophonlaw08.SfntBack': WHATEVER THE INPUT: true; the input reads as it did. -/
def sfntBackSpec : ChangeSpec := { name := "sfntBack", fn := fun _ => fun
  | [d] => { results := [.lit (.bool true)], args := [d] }
  | _ => none }
def sfntBackRow : OpenClaim := { program := "ytgmmhlpdkoiheaadoor", sum := "918400f782f7f6c50677774cd9924c300206b15084a3646bb640d89811fa51e9", func := "colophon/colophonlaw08.SfntBack", spec := "sfntBack", inPlace := ["internal/bytealg.abigen_runtime_cmpstring", "internal/bytealg.Compare", "internal/abi.NoEscape", "internal/bytealg.MakeNoZero"], unfollowed := true, recurses := true, named := ["colophon/sfnt.head"], apart := false, laid := [("colophon/sfnt.head", laid_colophon_sfnt_head)] }
def SfntBackSaid : Prop := sfntBackRow.holds Tryd.pinned (OpenSpec.ofChange sfntBackSpec)

/-- ITS FALSE NEIGHBOUR: 'it returns false'. Refute it at one input. -/
def sfntBackWrong : ChangeSpec := { name := "sfntBack", fn := fun _ => fun
  | [d] => { results := [.lit (.bool false)], args := [d] }
  | _ => none }
def SfntBackWrongFalsely : Prop := sfntBackRow.holds Tryd.pinned (OpenSpec.ofChange sfntBackWrong)

/-- 'colophonlaw08.SfntTurned': WHATEVER THE INPUT: true; the input reads as it did. -/
def sfntTurnedSpec : ChangeSpec := { name := "sfntTurned", fn := fun _ => fun
  | [d1, d2, d3] => { results := [.lit (.bool true)], args := [d1, d2, d3] }
  | _ => none }
def sfntTurnedRow : OpenClaim := { program := "ytgmmhlpdkoiheaadoor", sum := "918400f782f7f6c50677774cd9924c300206b15084a3646bb640d89811fa51e9", func := "colophon/colophonlaw08.SfntTurned", spec := "sfntTurned", inPlace := ["internal/bytealg.abigen_runtime_cmpstring", "internal/bytealg.Compare", "internal/abi.NoEscape", "internal/bytealg.MakeNoZero"], unfollowed := true, recurses := true, named := ["colophon/sfnt.head"], apart := false, laid := [("colophon/sfnt.head", laid_colophon_sfnt_head)] }
def SfntTurnedSaid : Prop := sfntTurnedRow.holds Tryd.pinned (OpenSpec.ofChange sfntTurnedSpec)

/-- ITS FALSE NEIGHBOUR: 'it returns false'. Refute it at one input. -/
def sfntTurnedWrong : ChangeSpec := { name := "sfntTurned", fn := fun _ => fun
  | [d1, d2, d3] => { results := [.lit (.bool false)], args := [d1, d2, d3] }
  | _ => none }
def SfntTurnedWrongFalsely : Prop := sfntTurnedRow.holds Tryd.pinned (OpenSpec.ofChange sfntTurnedWrong)

/- THE SECOND FORM. 'bulk': how many values and letters a reading holds, each counted each time it is reached (what is shared counts as often as it is met; a slice's spare places count too). A statement '..UptoSaid' is the law's where the arguments, and the package variables that the reading takes, are together of bulk at most 1048576: NARROWER than '..Said'. Prove '..Said' where nothing that the law and all that it calls make is longer than what came in: it says more and counts as full. Else prove '..UptoSaid'. A law counts once. -/
mutual
def uptoBulk {H : Type} : DataW H → Nat
  | .lit (.string bytes) => bytes.length + 1
  | .lit _ => 1
  | .nil => 1
  | .ptr d => uptoBulk d + 1
  | .slice elems spare => uptoBulkAll elems + uptoBulkAll spare + 1
  | .agg parts => uptoBulkAll parts + 1
  | .iface _ d => uptoBulk d + 1
  | .map entries => uptoBulkEntries entries + 1
  | .held _ => 1
def uptoBulkAll {H : Type} : List (DataW H) → Nat
  | [] => 0
  | d :: r => uptoBulk d + uptoBulkAll r
def uptoBulkEntries {H : Type} : List (Lit × DataW H) → Nat
  | [] => 0
  | x :: r => uptoBulkEntry x + uptoBulkEntries r
def uptoBulkEntry {H : Type} : Lit × DataW H → Nat
  | (.string bytes, d) => bytes.length + uptoBulk d + 1
  | (_, d) => uptoBulk d + 1
 end
def uptoSmall : (H : Type) → List (DataW H) → Bool := fun _ ds => decide (uptoBulkAll ds ≤ 1048576)
def OpenSpec.upto (s : _root_.Go.ChangeSpec) : _root_.Go.OpenSpec := { _root_.Go.OpenSpec.ofChange s with cond := some uptoSmall }

/-- 'colophonlaw08.SfntSums', WHERE WHAT IT READS IS OF BULK AT MOST 1048576: true; the input reads as it did. -/
def sfntSumsUptoRow : OpenClaim := { program := "ytgmmhlpdkoiheaadoor", sum := "918400f782f7f6c50677774cd9924c300206b15084a3646bb640d89811fa51e9", func := "colophon/colophonlaw08.SfntSums", spec := "sfntSums", inPlace := ["internal/bytealg.abigen_runtime_cmpstring", "internal/bytealg.Compare", "internal/abi.NoEscape", "internal/bytealg.MakeNoZero"], unfollowed := true, recurses := true, named := ["colophon/sfnt.head"], apart := false, laid := [("colophon/sfnt.head", laid_colophon_sfnt_head)], narrowed := true }
def SfntSumsUptoSaid : Prop := sfntSumsUptoRow.holds Tryd.pinned (OpenSpec.upto sfntSumsSpec)

/-- 'colophonlaw08.SfntAdds', WHERE WHAT IT READS IS OF BULK AT MOST 1048576: true; the input reads as it did. -/
def sfntAddsUptoRow : OpenClaim := { program := "ytgmmhlpdkoiheaadoor", sum := "918400f782f7f6c50677774cd9924c300206b15084a3646bb640d89811fa51e9", func := "colophon/colophonlaw08.SfntAdds", spec := "sfntAdds", inPlace := ["internal/bytealg.abigen_runtime_cmpstring", "internal/bytealg.Compare", "internal/abi.NoEscape", "internal/bytealg.MakeNoZero"], unfollowed := true, recurses := true, named := ["colophon/sfnt.head"], apart := false, laid := [("colophon/sfnt.head", laid_colophon_sfnt_head)], narrowed := true }
def SfntAddsUptoSaid : Prop := sfntAddsUptoRow.holds Tryd.pinned (OpenSpec.upto sfntAddsSpec)

/-- 'colophonlaw08.SfntReads', WHERE WHAT IT READS IS OF BULK AT MOST 1048576: true; the input reads as it did. -/
def sfntReadsUptoRow : OpenClaim := { program := "ytgmmhlpdkoiheaadoor", sum := "918400f782f7f6c50677774cd9924c300206b15084a3646bb640d89811fa51e9", func := "colophon/colophonlaw08.SfntReads", spec := "sfntReads", inPlace := ["internal/bytealg.abigen_runtime_cmpstring", "internal/bytealg.Compare", "internal/abi.NoEscape", "internal/bytealg.MakeNoZero"], unfollowed := true, recurses := true, named := ["colophon/sfnt.head"], apart := false, laid := [("colophon/sfnt.head", laid_colophon_sfnt_head)], narrowed := true }
def SfntReadsUptoSaid : Prop := sfntReadsUptoRow.holds Tryd.pinned (OpenSpec.upto sfntReadsSpec)

/-- 'colophonlaw08.SfntBuilds', WHERE WHAT IT READS IS OF BULK AT MOST 1048576: true; the input reads as it did. -/
def sfntBuildsUptoRow : OpenClaim := { program := "ytgmmhlpdkoiheaadoor", sum := "918400f782f7f6c50677774cd9924c300206b15084a3646bb640d89811fa51e9", func := "colophon/colophonlaw08.SfntBuilds", spec := "sfntBuilds", inPlace := ["internal/bytealg.abigen_runtime_cmpstring", "internal/bytealg.Compare", "internal/abi.NoEscape", "internal/bytealg.MakeNoZero"], unfollowed := true, recurses := true, named := ["colophon/sfnt.head"], apart := false, laid := [("colophon/sfnt.head", laid_colophon_sfnt_head)], narrowed := true }
def SfntBuildsUptoSaid : Prop := sfntBuildsUptoRow.holds Tryd.pinned (OpenSpec.upto sfntBuildsSpec)

/-- 'colophonlaw08.SfntBack', WHERE WHAT IT READS IS OF BULK AT MOST 1048576: true; the input reads as it did. -/
def sfntBackUptoRow : OpenClaim := { program := "ytgmmhlpdkoiheaadoor", sum := "918400f782f7f6c50677774cd9924c300206b15084a3646bb640d89811fa51e9", func := "colophon/colophonlaw08.SfntBack", spec := "sfntBack", inPlace := ["internal/bytealg.abigen_runtime_cmpstring", "internal/bytealg.Compare", "internal/abi.NoEscape", "internal/bytealg.MakeNoZero"], unfollowed := true, recurses := true, named := ["colophon/sfnt.head"], apart := false, laid := [("colophon/sfnt.head", laid_colophon_sfnt_head)], narrowed := true }
def SfntBackUptoSaid : Prop := sfntBackUptoRow.holds Tryd.pinned (OpenSpec.upto sfntBackSpec)

/-- 'colophonlaw08.SfntTurned', WHERE WHAT IT READS IS OF BULK AT MOST 1048576: true; the input reads as it did. -/
def sfntTurnedUptoRow : OpenClaim := { program := "ytgmmhlpdkoiheaadoor", sum := "918400f782f7f6c50677774cd9924c300206b15084a3646bb640d89811fa51e9", func := "colophon/colophonlaw08.SfntTurned", spec := "sfntTurned", inPlace := ["internal/bytealg.abigen_runtime_cmpstring", "internal/bytealg.Compare", "internal/abi.NoEscape", "internal/bytealg.MakeNoZero"], unfollowed := true, recurses := true, named := ["colophon/sfnt.head"], apart := false, laid := [("colophon/sfnt.head", laid_colophon_sfnt_head)], narrowed := true }
def SfntTurnedUptoSaid : Prop := sfntTurnedUptoRow.holds Tryd.pinned (OpenSpec.upto sfntTurnedSpec)

end Rows
end Go.Proofs.YtgmmhlpdkoiheaaDoor
