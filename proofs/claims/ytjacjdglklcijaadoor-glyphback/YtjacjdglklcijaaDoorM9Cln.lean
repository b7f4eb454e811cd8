/-
  What strings.Clone answers.
-/
import Derived.Test.YtjacjdglklcijaaDoorS8Row
import Derived.Test.YtjacjdglklcijaaDoorShelf
namespace Go.Proofs.YtjacjdglklcijaaDoor
open Go.RowKit Go.Deep
theorem clone_any (s : ByteArray) (w : World) (hs : s.size ≤ 281474976710656) : Calls Tryd.prog 22 #[.string s] w fun e w' => e = .returned (.string s) ∧ Below w.heap.size w w' := by
  have C := hide (show Calls Tryd.prog 26 #[.string s] w fun e w' => e = .returned (.string s) ∧ Below w.heap.size w w' from Any.stringslite_Clone laysM316 s w hs)
  go_enter Tryd.func22, Tryd.ntmps22
  go_wp2_with (go_at_call 26; refine C.out.mono ?_; rintro e w1 ⟨rfl, h1⟩)
  go_ret
  exact ⟨rfl, h1⟩
end Go.Proofs.YtjacjdglklcijaaDoor
