/-
  What Escape of marks answers.
-/
import Derived.Test.YtpmdekhjodhdmaaDoorK17S
namespace Go.Proofs.YtpmdekhjodhdmaaDoor.K17
open Go.RowKit Go.Proofs.YtpmdekhjodhdmaaDoor
open Go.Lib
set_option linter.unusedVariables false
set_option linter.unusedSimpArgs false
set_option maxRecDepth 8000

def escV (l : List UInt8) : List UInt8 × Int := if Lib.validD l = false then ([], 40) else if hc l then ([], 170) else (esc l, 0)
set_option maxHeartbeats 1000000 in
theorem escape_fn (s : ByteArray) (w : World) (hg : Glo w) (hs : s.size ≤ 1048576) :
    Calls Tryd.prog 17 #[.string s] w fun e w' => e = .returned (.tuple #[.string ⟨(escV s.data.toList).1.toArray⟩, .int .i64 (escV s.data.toList).2]) ∧ Below w.heap.size w w' := by
  have CV := hide (Any.utf8_ValidString laysVS s w (by omega) hg)
  have CH := hide (fun w => hascontrol_any s w)
  unfold escV
  cases hv : Lib.validD s.data.toList
  · rw [hv] at CV
    rw [if_pos rfl]
    clear hg hs hv
    go_enter Tryd.func17, Tryd.ntmps17
    go_wp2_with (first | (go_at_call 31; refine CV.out.mono ?_; rintro e w1 ⟨rfl, hb⟩))
    go_ret2
    exact ⟨rfl, hb⟩
  rw [hv] at CV
  rw [if_neg (by simp)]
  have HV := hide ((valid_iff _).1 hv)
  cases hh : hc s.data.toList
  · rw [hh] at CH
    rw [if_neg (by simp)]
    have HS := hide hs
    clear hg hs hv hh
    go_enter Tryd.func17, Tryd.ntmps17
    go_wp2_with (first
      | (go_at_call 31; refine CV.out.mono ?_; rintro e w1 ⟨rfl, hb⟩)
      | (go_at_call 32; refine (CH.out _).mono ?_; rintro e w2 ⟨rfl, hb2⟩)
      | (go_at_call 33; refine (escape_any w2.heap.size w2.heap.size [] s _ (Bd.new w2) (by simp) (by have := HS.out; simp; omega) HV.out).mono ?_; rintro e w3 ⟨rfl, hB3, hW3⟩)
      | (go_at_call 29; refine (bstr_any w2.heap.size w2.heap.size _ w3 hB3 (by have := hW3.below.size; simp at this; omega)).mono ?_; rintro e w4 ⟨rfl, hb4⟩))
    go_ret2
    have h1 : Below w.heap.size w w2 := hb.trans (hb2.mono hb.size)
    exact ⟨rfl, h1.trans ((((Below.refl _ _).alloc (Nat.le_refl _) _).trans (hW3.below.trans hb4)).mono h1.size)⟩
  · rw [hh] at CH
    rw [if_pos rfl]
    clear hg hs hv hh
    go_enter Tryd.func17, Tryd.ntmps17
    go_wp2_with (first
      | (go_at_call 31; refine CV.out.mono ?_; rintro e w1 ⟨rfl, hb⟩)
      | (go_at_call 32; refine (CH.out _).mono ?_; rintro e w2 ⟨rfl, hb2⟩))
    go_ret2
    exact ⟨rfl, hb.trans (hb2.mono hb.size)⟩
end Go.Proofs.YtpmdekhjodhdmaaDoor.K17
