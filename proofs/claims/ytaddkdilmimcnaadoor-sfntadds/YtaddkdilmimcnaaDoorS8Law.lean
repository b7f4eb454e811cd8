/-
  The laws SfntSums and SfntAdds, walked.
-/
import Derived.Test.YtaddkdilmimcnaaDoorS8Wak
namespace Go.Proofs.YtaddkdilmimcnaaDoor
open Go.RowKit Go.Deep
set_option linter.unusedVariables false

set_option maxHeartbeats 1000000 in
theorem sums_core (s : ByteArray) (w : World) (hg : Glo8 w) (hs : s.size ≤ maxLen) :
    Calls Tryd.prog 3 #[.string s] w fun e w' => e = .returned (.bool true) ∧ Below w.heap.size w w' := by
  unfold maxLen at hs
  have CW := hide (wakes8_any w hg)
  have hs0 : (s.size : Int) ≤ 9223372036854775807 := by omega
  clear hg hs
  by_cases hm : s.size ≤ 20000
  case neg =>
    have hm' : (20000 : Int) < (s.size : Int) := by omega
    clear hm
    go_enter Tryd.func3, Tryd.ntmps3
    go_wp2_with (go_at_call 9; refine CW.out.mono ?_; rintro e w1 ⟨rfl, h1⟩)
    go_ret
    exact ⟨rfl, h1⟩
  have hm' : ¬ (20000 : Int) < (s.size : Int) := by omega
  have C1 := hide (fun w => sum_any s w (by omega))
  have C2 := hide (fun w => rsum_any s w (by omega))
  generalize ((sumV s.data.toList : Nat) : Int) = S at C1 C2
  clear hm
  go_enter Tryd.func3, Tryd.ntmps3
  go_wp2_with (first | (go_at_call 10; refine (C1.out _).mono ?_; rintro e w' ⟨rfl, hw'⟩; replace hw' := hw'.symm; subst hw') | (go_at_call 11; refine (C2.out _).mono ?_; rintro e w' ⟨rfl, hw'⟩; replace hw' := hw'.symm; subst hw') | (go_at_call 9; refine CW.out.mono ?_; rintro e w1 ⟨rfl, h1⟩))
  go_ret
  exact ⟨rfl, h1⟩
end Go.Proofs.YtaddkdilmimcnaaDoor
