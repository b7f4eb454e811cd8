/-
  What strings.Clone answers.
-/
import Derived.Test.YtkdnoemakclmdaaS8Row
import Derived.Test.YtkdnoemakclmdaaShelf
namespace Go.Proofs.Ytkdnoemakclmdaa
open Go.RowKit Go.Deep
theorem clone_any (s : ByteArray) (w : World) (hs : s.size ≤ 281474976710656) : Calls Try.prog 22 #[.string s] w fun e w' => e = .returned (.string s) ∧ Below w.heap.size w w' := by
  have C := hide (show Calls Try.prog 30 #[.string s] w fun e w' => e = .returned (.string s) ∧ Below w.heap.size w w' from Any.stringslite_Clone laysM316 s w hs)
  go_enter Try.func22, Try.ntmps22
  go_wp2_with (go_at_call 30; refine C.out.mono ?_; rintro e w1 ⟨rfl, h1⟩)
  go_ret
  exact ⟨rfl, h1⟩
end Go.Proofs.Ytkdnoemakclmdaa
