/-
  Joined: K17Tp, K17Wk.
-/
import Derived.BigQuiet
import Derived.Deep.QuietTactic
import Derived.Test.YtpmdekhjodhdmaaDoorQ17
import Derived.Test.YtpmdekhjodhdmaaDoorQ18
namespace Go.Proofs.YtpmdekhjodhdmaaDoor.K17
open Go.RowKit Go.Proofs.YtpmdekhjodhdmaaDoor
open Go.Lib
set_option linter.unusedVariables false
set_option linter.unusedSimpArgs false
set_option maxRecDepth 8000
theorem esc_cons (c : Nat) (r : List UInt8) (hc : isP (c : Int) = true) : esc (e8 c ++ r) = es c ++ esc r := by
  rw [esc_step _ (by simp [e8_ne]), dN_e8 c r hc]
  simp only
  rw [List.drop_left' rfl]
theorem hc_cons (c : Nat) (r : List UInt8) (h : isP (c : Int) = true) : hc (e8 c ++ r) = (ctl c || hc r) := by
  rw [hc_step _ (by simp [e8_ne]), dN_e8 c r h]
  simp only
  rw [List.drop_left' rfl]
theorem e8_first (c : Nat) (h : isP (c : Int) = true) (b : Nat) (hb : b < 128) (r : List UInt8) : (e8 c ++ r).getD 0 0 = bt b ↔ c = b := by
  have hl := code8.len c
  have hp := isP_t.1 h
  rw [List.getD_eq_getElem?_getD, List.getElem?_append_left (by omega), List.getElem?_eq_getElem (by omega)]
  simp only [Option.getD_some]
  by_cases h1 : c < 128
  · have : (e8 c)[0]'(by omega) = bt c := by simp [u8_1 h1]
    rw [this]
    constructor
    · intro h2; rw [← bt_nat c (by omega), h2, bt_nat b (by omega)]
    · rintro rfl; rfl
  · constructor
    · intro h2
      have := e8_high (c := c) (by omega) (by omega) _ (List.getElem_mem (show 0 < (e8 c).length by omega))
      rw [h2, bt_nat b (by omega)] at this
      omega
    · intro h2; omega
theorem bk_b {b : UInt8} (r : List UInt8) (h : blB b = true) : bk (b :: r) = bk r := by unfold bk; rw [List.dropWhile_cons, if_pos h]
abbrev wkB : List UInt8 := [60, 112, 32, 105, 100, 61, 34, 97, 34, 62, 120, 32, 38, 108, 116, 59, 32, 121, 60, 47, 112, 62]
theorem wk_sc : scR wkB = ([⟨1, [112], [], [([105, 100], [97])], 0⟩, ⟨4, [], [120, 32, 60, 32, 121], [], 10⟩, ⟨2, [112], [], [], 18⟩], 0, 0) := by decide +kernel
theorem wk_es : escV [97, 34, 98] = ([97, 38, 113, 117, 111, 116, 59, 98], 0) := by decide +kernel
set_option maxHeartbeats 4000000 in
theorem wakes_any (w : World) (hg : Glo w) (hm : MX w) : Calls Tryd.prog 9 #[] w fun e w' => e = .returned (.bool true) ∧ Below w.heap.size w w' := by
  have CS := hide (scan_any ⟨wkB.toArray⟩ w hg hm (by decide))
  have CE := hide (fun w h => escape_fn ⟨#[97, 34, 98]⟩ w h (by decide))
  have HG := hide hg
  rw [show (⟨wkB.toArray⟩ : ByteArray).data.toList = wkB from rfl, wk_sc] at CS
  rw [show (⟨#[97, 34, 98]⟩ : ByteArray).data.toList = [97, 34, 98] from rfl, wk_es] at CE
  change Hid (Calls _ _ #[.string ⟨#[60, 112, 32, 105, 100, 61, 34, 97, 34, 62, 120, 32, 38, 108, 116, 59, 32, 121, 60, 47, 112, 62]⟩] _ _) at CS
  clear hg hm
  go_enter Tryd.func9, Tryd.ntmps9
  go_wp2_with (first
    | (go_at_call 10; refine CS.out.mono ?_; rintro e w1 ⟨v, rfl, h1, h2⟩; obtain ⟨a, c, rfl, hL, _⟩ := h1.lst; have HL := hide hL; have H2 := hide h2; clear h1 h2 hL)
    | (go_at_call 17; refine (CE.out _ (HG.out.below H2.out)).mono ?_; rintro e w2 ⟨rfl, h3⟩; have HL2 := hide (HL.out.below h3); have H3 := hide (H2.out.trans (h3.mono H2.out.size)); clear h3))
  rcases HL2.out with h0 | ⟨b, o, rfl, hb, hc⟩
  · simp at h0
  obtain ⟨aa, ac, _, _, _, _, c2, _, c4⟩ := hc 1 (by simp)
  simp at c2 c4
  have H4 := hide (fun n => H3.out.trans ((below_drewN' w2 n).mono H3.out.size))
  clear hc HL HL2 CE CS
  have hq : ((⟨#[120, 32, 60, 32, 121]⟩ : ByteArray).toList == (⟨#[120, 32, 60, 32, 121]⟩ : ByteArray).toList) = true := by simp
  have hq2 : ((⟨#[97, 38, 113, 117, 111, 116, 59, 98]⟩ : ByteArray).toList == (⟨#[97, 38, 113, 117, 111, 116, 59, 98]⟩ : ByteArray).toList) = true := by simp
  go_wp2_with fail
  go_ret
  exact ⟨rfl, by first | exact H3.out | exact H4.out _⟩
end Go.Proofs.YtpmdekhjodhdmaaDoor.K17
