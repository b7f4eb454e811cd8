/-
  The law MarksEscapes.
-/
import Derived.Test.YteiolnkopajooaaDoorK17RE
import Derived.Test.YteiolnkopajooaaDoorK17Wk
import Derived.Test.YteiolnkopajooaaDoorK17Glo
import Derived.Test.YteiolnkopajooaaDoorU4Glo
import Derived.Deep.RegionHeld3
namespace Go.Proofs.YteiolnkopajooaaDoor.K17
open Go.RowKit Go.Proofs.YteiolnkopajooaaDoor
open Go.Lib
set_option linter.unusedVariables false
set_option linter.unusedSimpArgs false
set_option maxRecDepth 8000

set_option maxHeartbeats 4000000 in
theorem escapes_walk (s : ByteArray) (w : World) (hg : Glo w) (hm : MX w) (hz : s.size ≤ maxLen) : Calls Tryd.prog 5 #[.string s] w fun e w' => e = .returned (.bool true) ∧ Below w.heap.size w w' := by
  have hz' : (s.size : Int) ≤ 9223372036854775807 := by unfold maxLen at hz; omega
  have CW := hide (fun w' (h : Below w.heap.size w w') => wakes_any w' (hg.below h) (hm.below h))
  by_cases h3 : s.size ≤ 20000
  · have h3' : ¬ (20000 : Int) < (s.size : Int) := by omega
    have CE := hide (escape_fn s w hg (by omega))
    have CR := hide (fun w => rescape_any s w (by omega))
    obtain ⟨⟨T, E⟩, hR⟩ : ∃ R, escV s.data.toList = R := ⟨_, rfl⟩
    rw [hR] at CE CR
    simp only at CE CR
    obtain ⟨X, hX⟩ : ∃ X : ByteArray, (⟨T.toArray⟩ : ByteArray) = X := ⟨_, rfl⟩
    rw [hX] at CE CR
    have s1 : (X.toList == X.toList) = true := by simp
    have s2 : ((E : Int) == E) = true := by simp
    clear hg hm hz h3 hR hX
    go_enter Tryd.func5, Tryd.ntmps5
    go_wp2_with (first
      | (go_at_call 17; refine CE.out.mono ?_; rintro e w1 ⟨rfl, h1⟩; have H1 := hide h1; clear h1)
      | (go_at_call 18; refine (CR.out _).mono ?_; rintro e w2 ⟨rfl, h2⟩; have H2 := hide (H1.out.trans (h2.mono H1.out.size)); clear h2)
      | (go_at_call 9; refine (CW.out _ H2.out).mono ?_; rintro e w4 ⟨rfl, hb4⟩))
    go_ret
    exact ⟨rfl, H2.out.trans (hb4.mono H2.out.size)⟩
  · have h3' : (20000 : Int) < (s.size : Int) := by omega
    clear hg hm hz h3
    go_enter Tryd.func5, Tryd.ntmps5
    go_wp2_with (go_at_call 9; refine (CW.out _ (Below.refl _ _)).mono ?_; rintro e w4 ⟨rfl, hb4⟩)
    go_ret
    exact ⟨rfl, hb4⟩
end Go.Proofs.YteiolnkopajooaaDoor.K17
