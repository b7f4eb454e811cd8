/-
  Joined: M9Cln.
-/
import Derived.Test.YtpaadbnlhapdbaaGreatDoorL10
import Derived.Test.YtpaadbnlhapdbaaGreatDoorL20
namespace Go.Proofs.YtpaadbnlhapdbaaGreatDoor
open Go.RowKit Go.Deep
theorem clone_any (s:ByteArray) (w:World) (hs:s.size≤281474976710656):Calls Tryz.prog 97 #[.string s] w fun e w'=>e=.returned (.string s)∧Below w.heap.size w w':=by
 have C:=hide (show Calls Tryz.prog 130 #[.string s] w fun e w'=>e=.returned (.string s)∧Below w.heap.size w w' from Any.stringslite_Clone laysM316 s w hs)
 go_enter Tryz.func97,Tryz.ntmps97
 go_wp2_with (go_at_call 130;refine C.out.mono ?_;rintro e w1 ⟨rfl,h1⟩)
 go_ret
 exact ⟨rfl,h1⟩
end Go.Proofs.YtpaadbnlhapdbaaGreatDoor
