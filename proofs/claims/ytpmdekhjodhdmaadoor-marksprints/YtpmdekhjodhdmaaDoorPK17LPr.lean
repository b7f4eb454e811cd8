/-
  The law MarksPrints.
-/
import Derived.Lib.LaidU8T
import Derived.MakeChecks
import Derived.Test.YtpmdekhjodhdmaaDoorRows
import Derived.Test.YtpmdekhjodhdmaaDoorP09
import Derived.Test.YtpmdekhjodhdmaaDoorP11
import Derived.Test.YtpmdekhjodhdmaaDoorP14
import Derived.Test.YtpmdekhjodhdmaaDoorP19
import Derived.Test.YtpmdekhjodhdmaaDoorP20
import Derived.Test.YtpmdekhjodhdmaaDoorP25
import Derived.Test.YtpmdekhjodhdmaaDoorPK17Glo
import Derived.Test.YtpmdekhjodhdmaaDoorPU4Glo
namespace Go.Proofs.YtpmdekhjodhdmaaDoor.K17
open Go.RowKit Go.Proofs.YtpmdekhjodhdmaaDoor
open Go.Lib
set_option linter.unusedVariables false
set_option linter.unusedSimpArgs false
set_option maxRecDepth 8000

theorem szL_bd {ts : List Tg} (h : szL ts ≤ 20000) : ∀ t ∈ ts, TgN t := by
  intro t ht
  have h1 := sum_le szT ts t ht
  have h2 : szT t ≤ 20000 := by unfold szL at h; omega
  unfold szT at h2
  refine ⟨by omega, by omega, by omega, fun h16 p hp => ?_⟩
  rw [List.take_of_length_le (by omega)] at h2
  have h3 := sum_le (fun p : At => p.1.length + p.2.length) t.ps p hp
  unfold szA at h2
  omega
set_option maxHeartbeats 4000000 in
theorem prints_walk (a : Option Addr) (n c : Nat) (ts : List Tg) (w : World) (hI : GIn w a n ts) (hg : Glo w) (hm : MX w) : Calls Tryd.prog 4 #[.slice a n c] w fun e w' => e = .returned (.bool true) ∧ Below w.heap.size w w' := by
  have CW := hide (fun w' (h : Below w.heap.size w w') => wakes_any w' (hg.below h) (hm.below h))
  have CL := hide (long_any a n c ts w hI)
  have HI := hide hI
  have HG := hide hg
  clear hI hg hm
  go_enter Tryd.func4, Tryd.ntmps4
  go_wp2_with fail
  refine CL.out.mono ?_
  rintro e w0 ⟨bb, rfl, hbb, h0⟩
  have H0 := hide h0
  cases bb with
  | true =>
    clear hbb h0 CL
    go_wp2_with (go_at_call 9; refine (CW.out _ H0.out).mono ?_; rintro e w4 ⟨rfl, hb4⟩)
    go_ret
    exact ⟨rfl, H0.out.trans (hb4.mono H0.out.size)⟩
  | false =>
    obtain ⟨h4, hs⟩ := hbb rfl
    have hN := szL_bd hs
    have hln := HI.out.len
    have CC := hide (rcopy_any a n c ts w0 hln (by omega) (fun t ht => by
      have h1 := sum_le szT ts t ht
      have h2 : szT t ≤ 20000 := by unfold szL at hs; omega
      unfold szT at h2
      omega) (HI.out.lst.below h0))
    have CP := hide (fun a' c' w' (hb : Below w.heap.size w w') (h : GLs w' a' ts) => print_any a' c' n ts w' (HG.out.below hb) hln (by omega) h (fun t ht => (hN t ht).m) hs)
    have CR := hide (fun w' (hb : Below w.heap.size w w') => rprint_any a c n ts w' hln (by omega) (HI.out.lst.below hb) hN hs)
    have CE := hide (fun a' c' w' (hb : Below w.heap.size w w') (h : GLs w' a' ts) => gplaces_any a' a c' c n ts w' hln (by omega) h (HI.out.lst.below hb))
    obtain ⟨⟨PT, PE⟩, hP⟩ : ∃ R, prV ts = R := ⟨_, rfl⟩
    rw [hP] at CP CR
    simp only at CP CR
    generalize (⟨PT.toArray⟩ : ByteArray) = Z at *
    have s1 : (Z.toList == Z.toList) = true := by simp
    have s2 : ((PE : Int) == PE) = true := by simp
    clear hbb h0 CL h4 hs hN hln hP
    go_wp2_with (first
      | (go_at_call 14; refine CC.out.mono ?_; rintro e w1 ⟨a1, c1, rfl, h1, h2⟩; have G1 := hide h1; have H1 := hide (H0.out.trans (h2.mono H0.out.size)); clear h1 h2)
      | (go_at_call 15; refine (CP.out _ _ _ H1.out G1.out).mono ?_; rintro e w2 ⟨rfl, h1⟩; have G2 := hide (G1.out.below h1); have H2 := hide (H1.out.trans (h1.mono H1.out.size)); clear h1)
      | (go_at_call 16; refine (CR.out _ H2.out).mono ?_; rintro e w3 ⟨rfl, h1⟩; have G3 := hide (G2.out.below h1); have H3 := hide (H2.out.trans (h1.mono H2.out.size)); clear h1)
      | (go_at_call 12; refine (CE.out _ _ _ H3.out G3.out).mono ?_; rintro e w4 ⟨rfl, h1⟩; have H4 := hide (H3.out.trans (h1.mono H3.out.size)); clear h1)
      | (go_at_call 9; refine (CW.out _ H4.out).mono ?_; rintro e w5 ⟨rfl, hb4⟩))
    go_ret
    exact ⟨rfl, H4.out.trans (hb4.mono H4.out.size)⟩
end Go.Proofs.YtpmdekhjodhdmaaDoor.K17
