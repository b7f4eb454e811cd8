/-
  What the law's places answers of tokens that are the same.
-/
import Derived.Test.YtpmdekhjodhdmaaDoorK17Y
namespace Go.Proofs.YtpmdekhjodhdmaaDoor.K17
open Go.RowKit Go.Proofs.YtpmdekhjodhdmaaDoor
open Go.Lib
set_option linter.unusedVariables false
set_option linter.unusedSimpArgs false
set_option maxRecDepth 8000

set_option maxHeartbeats 4000000 in
theorem places_any (a b : Option Addr) (ca cb n : Nat) (ts : List Tk) (w : World) (hl : ts.length = n) (h6 : n ≤ 1048576) (ha : TLs w a ts) (hb : TLs w b ts) :
    Calls Tryd.prog 12 #[.slice a n ca, .slice b n cb] w fun e w' => e = .returned (.bool true) ∧ Below w.heap.size w w' := by
  have h6' : (n : Int) ≤ 1048576 := by omega
  have CS := hide (same_any a b ca cb n ts ts w hl h6 ha hb rfl)
  have HA := hide ha
  have HB := hide hb
  have HL := hide hl
  clear ha hb hl
  go_enter Tryd.func12, Tryd.ntmps12
  go_wp2_with (first | (go_at_call 19; refine CS.out.mono ?_; rintro e w1 ⟨rfl, h1⟩; have H1 := hide h1; clear h1))
  go_loopw [5] (fun vi wr => ∃ k : Nat, vi = .int .i64 k ∧ Hid (k ≤ n ∧ Below w.heap.size w wr)) (fun vi _ => n - (RowKit.intOf vi).toNat)
  case atStart => exact ⟨0, rfl, hide ⟨by omega, H1.out⟩⟩
  case round =>
    obtain ⟨k, rfl, HK⟩ := hrel
    obtain ⟨k1, k2⟩ := HK.out
    clear HK H1 CS
    by_cases hlt : k < n
    · have hlt' : (k : Int) < (n : Int) := by omega
      rcases HA.out.below k2 with h0 | ⟨b1, o1, rfl, hb1, hc1⟩
      · have := HL.out; rw [h0] at this; simp at this; omega
      rcases HB.out.below k2 with h0 | ⟨b2, o2, rfl, hb2, hc2⟩
      · have := HL.out; rw [h0] at this; simp at this; omega
      obtain ⟨aa, ac, _, _, _, _, _, _, p4⟩ := hc1 k (by have := HL.out; omega)
      obtain ⟨ba, bc, _, _, _, _, _, _, r4⟩ := hc2 k (by have := HL.out; omega)
      generalize ((ts.getD k tk0.1).a : Int) = A at p4 r4
      have hkk : ((A : Int) == A) = true := by simp
      have K2 := hide k2
      clear k2 hc1 hc2
      go_wp2_with fail
      go_quiet (fail)
      go_wp2_with fail
      go_roundw
      case rel => exact ⟨k + 1, by go_num, hide ⟨by omega, K2.out.trans (below_drewN' _ _ |>.mono K2.out.size)⟩⟩
      case measure => simp [RowKit.intOf]; omega
    · have hlt' : ¬ (k : Int) < (n : Int) := by omega
      go_wp2_with fail
      go_ret
      exact ⟨rfl, k2⟩
end Go.Proofs.YtpmdekhjodhdmaaDoor.K17
