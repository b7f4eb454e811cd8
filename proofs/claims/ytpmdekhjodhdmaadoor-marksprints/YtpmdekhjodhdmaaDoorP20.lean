/-
  Joined: K17Wk.
-/
import Derived.BigQuiet
import Derived.Deep.QuietTactic
import Derived.Test.YtpmdekhjodhdmaaDoorP17
import Derived.Test.YtpmdekhjodhdmaaDoorP18
namespace Go.Proofs.YtpmdekhjodhdmaaDoor.K17
open Go.RowKit Go.Proofs.YtpmdekhjodhdmaaDoor
open Go.Lib
set_option linter.unusedVariables false
set_option linter.unusedSimpArgs false
set_option maxRecDepth 8000
abbrev wkB : List UInt8 := [60, 112, 32, 105, 100, 61, 34, 97, 34, 62, 120, 32, 38, 108, 116, 59, 32, 121, 60, 47, 112, 62]
theorem wk_sc : scR wkB = ([⟨1, [112], [], [([105, 100], [97])], 0⟩, ⟨4, [], [120, 32, 60, 32, 121], [], 10⟩, ⟨2, [112], [], [], 18⟩], 0, 0) := by decide +kernel
theorem wk_es : escV [97, 34, 98] = ([97, 38, 113, 117, 111, 116, 59, 98], 0) := by decide +kernel
set_option maxHeartbeats 4000000 in
theorem wakes_any (w : World) (hg : Glo w) (hm : MX w) : Calls Tryd.prog 9 #[] w fun e w' => e = .returned (.bool true) ∧ Below w.heap.size w w' := by
  have CS := hide (scan_any ⟨wkB.toArray⟩ w hg hm (by decide))
  have CE := hide (fun w h => escape_fn ⟨#[97, 34, 98]⟩ w h (by decide))
  have HG := hide hg
  rw [show (⟨wkB.toArray⟩ : ByteArray).data.toList = wkB from rfl, wk_sc] at CS
  rw [show (⟨#[97, 34, 98]⟩ : ByteArray).data.toList = [97, 34, 98] from rfl, wk_es] at CE
  change Hid (Calls _ _ #[.string ⟨#[60, 112, 32, 105, 100, 61, 34, 97, 34, 62, 120, 32, 38, 108, 116, 59, 32, 121, 60, 47, 112, 62]⟩] _ _) at CS
  clear hg hm
  go_enter Tryd.func9, Tryd.ntmps9
  go_wp2_with (first
    | (go_at_call 10; refine CS.out.mono ?_; rintro e w1 ⟨v, rfl, h1, h2⟩; obtain ⟨a, c, rfl, hL, _⟩ := h1.lst; have HL := hide hL; have H2 := hide h2; clear h1 h2 hL)
    | (go_at_call 17; refine (CE.out _ (HG.out.below H2.out)).mono ?_; rintro e w2 ⟨rfl, h3⟩; have HL2 := hide (HL.out.below h3); have H3 := hide (H2.out.trans (h3.mono H2.out.size)); clear h3))
  rcases HL2.out with h0 | ⟨b, o, rfl, hb, hc⟩
  · simp at h0
  obtain ⟨aa, ac, _, _, _, _, c2, _, c4⟩ := hc 1 (by simp)
  simp at c2 c4
  have H4 := hide (fun n => H3.out.trans ((below_drewN' w2 n).mono H3.out.size))
  clear hc HL HL2 CE CS
  have hq : ((⟨#[120, 32, 60, 32, 121]⟩ : ByteArray).toList == (⟨#[120, 32, 60, 32, 121]⟩ : ByteArray).toList) = true := by simp
  have hq2 : ((⟨#[97, 38, 113, 117, 111, 116, 59, 98]⟩ : ByteArray).toList == (⟨#[97, 38, 113, 117, 111, 116, 59, 98]⟩ : ByteArray).toList) = true := by simp
  go_wp2_with fail
  go_ret
  exact ⟨rfl, by first | exact H3.out | exact H4.out _⟩
end Go.Proofs.YtpmdekhjodhdmaaDoor.K17
