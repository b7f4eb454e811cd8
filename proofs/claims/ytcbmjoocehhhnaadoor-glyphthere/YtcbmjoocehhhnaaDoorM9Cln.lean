/-
  What strings.Clone answers.
-/
import Derived.Test.YtcbmjoocehhhnaaDoorS8Row
import Derived.Test.YtcbmjoocehhhnaaDoorShelf
namespace Go.Proofs.YtcbmjoocehhhnaaDoor
open Go.RowKit Go.Deep
theorem clone_any (s : ByteArray) (w : World) (hs : s.size ≤ 281474976710656) : Calls Tryd.prog 28 #[.string s] w fun e w' => e = .returned (.string s) ∧ Below w.heap.size w w' := by
  have C := hide (show Calls Tryd.prog 41 #[.string s] w fun e w' => e = .returned (.string s) ∧ Below w.heap.size w w' from Any.stringslite_Clone laysM316 s w hs)
  go_enter Tryd.func28, Tryd.ntmps28
  go_wp2_with (go_at_call 41; refine C.out.mono ?_; rintro e w1 ⟨rfl, h1⟩)
  go_ret
  exact ⟨rfl, h1⟩
end Go.Proofs.YtcbmjoocehhhnaaDoor
