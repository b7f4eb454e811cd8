/-
  The law MarksScans.
-/
import Derived.Lib.LaidU8T
import Derived.MakeChecks
import Derived.Test.YtpmdekhjodhdmaaDoorRows
import Derived.Test.YtpmdekhjodhdmaaDoorQ09
import Derived.Test.YtpmdekhjodhdmaaDoorQ11
import Derived.Test.YtpmdekhjodhdmaaDoorQ14
import Derived.Test.YtpmdekhjodhdmaaDoorQ17
import Derived.Test.YtpmdekhjodhdmaaDoorQ19
import Derived.Test.YtpmdekhjodhdmaaDoorQ20
import Derived.Test.YtpmdekhjodhdmaaDoorQ26
import Derived.Test.YtpmdekhjodhdmaaDoorQK17Glo
import Derived.Test.YtpmdekhjodhdmaaDoorQU4Glo
namespace Go.Proofs.YtpmdekhjodhdmaaDoor.K17
open Go.RowKit Go.Proofs.YtpmdekhjodhdmaaDoor
open Go.Lib
set_option linter.unusedVariables false
set_option linter.unusedSimpArgs false
set_option maxRecDepth 8000

theorem scR_len (l : List UInt8) : (scR l).1.length ≤ l.length := by
  unfold scR
  split
  · rename_i h
    cases hs : scV l with
    | ok ts => exact scV_len ((rd_vt l).2.1 h) hs
    | error q => simp
  · simp
set_option maxHeartbeats 4000000 in
theorem scans_walk (s : ByteArray) (w : World) (hg : Glo w) (hm : MX w) (hz : s.size ≤ maxLen) : Calls Tryd.prog 3 #[.string s] w fun e w' => e = .returned (.bool true) ∧ Below w.heap.size w w' := by
  have hz' : (s.size : Int) ≤ 9223372036854775807 := by unfold maxLen at hz; omega
  have CW := hide (fun w' (h : Below w.heap.size w w') => wakes_any w' (hg.below h) (hm.below h))
  by_cases h3 : s.size ≤ 20000
  · have h3' : ¬ (20000 : Int) < (s.size : Int) := by omega
    have CE := hide (scan_any s w hg hm (by omega))
    have CR := hide (fun w => rscan_any s w (by omega))
    have hsl := scR_len s.data.toList
    rw [size_l] at hsl
    obtain ⟨⟨ts, P, E⟩, hR⟩ : ∃ R, scR s.data.toList = R := ⟨_, rfl⟩
    rw [hR] at CE CR hsl
    simp only at hsl
    obtain ⟨n, hn⟩ : ∃ n, ts.length = n := ⟨_, rfl⟩
    have HN := hide (show ts.length = n ∧ n ≤ 1048576 by omega)
    have s1 : ((P : Int) == P) = true := by simp
    have s2 : ((E : Int) == E) = true := by simp
    clear hg hm hz h3 hR hsl
    go_enter Tryd.func3, Tryd.ntmps3
    go_wp2_with (first
      | (go_at_call 10; refine CE.out.mono ?_; rintro e w1 ⟨v1, rfl, h1, h2⟩; obtain ⟨a1, c1, rfl, hL1, _⟩ := h1.lst; have H1 := hide h2; have L1 := hide hL1; simp only [hn]; clear h1 h2 hL1)
      | (go_at_call 11; refine (CR.out _).mono ?_; rintro e w2 ⟨v2, rfl, h1, h2⟩; obtain ⟨a2, c2, rfl, hL2, _⟩ := h1.lst; have H2 := hide (H1.out.trans (h2.mono H1.out.size)); have L2 := hide hL2; have L1' := hide (L1.out.below h2); simp only [hn]; clear h1 h2 hL2)
      | (go_at_call 12; refine (places_any _ _ _ _ n ts _ HN.out.1 HN.out.2 L1'.out L2.out).mono ?_; rintro e w3 ⟨rfl, h3⟩; have H3 := hide (H2.out.trans (h3.mono H2.out.size)); clear h3)
      | (go_at_call 9; refine (CW.out _ H3.out).mono ?_; rintro e w4 ⟨rfl, hb4⟩))
    go_ret
    exact ⟨rfl, H3.out.trans (hb4.mono H3.out.size)⟩
  · have h3' : (20000 : Int) < (s.size : Int) := by omega
    clear hg hm hz h3
    go_enter Tryd.func3, Tryd.ntmps3
    go_wp2_with (go_at_call 9; refine (CW.out _ (Below.refl _ _)).mono ?_; rintro e w4 ⟨rfl, hb4⟩)
    go_ret
    exact ⟨rfl, hb4⟩
end Go.Proofs.YtpmdekhjodhdmaaDoor.K17
