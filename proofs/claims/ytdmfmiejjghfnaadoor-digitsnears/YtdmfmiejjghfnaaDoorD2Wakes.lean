/-
  What wakes (of chapter 2) answers.
-/
import Derived.Test.YtdmfmiejjghfnaaDoorD2Parse
namespace Go.Proofs.YtdmfmiejjghfnaaDoor
open Go.RowKit Go.Lib

theorem text_wake : textV (-98304) = .tuple #[.string ⟨#[45, 49, 46, 53]⟩, .bool true] := by
  unfold textV
  rw [if_pos (by decide)]
  have : textL (-98304) = [45, 49, 46, 53] := by
    unfold textL
    rw [show ((-98304 : Int).natAbs / 65536) = 1 from rfl, decDigits_one (by decide)]
    decide
  rw [this]
theorem near_wake : nearP [48, 46, 53] = (32768, 0) := by decide
theorem parse_wake : parB [48, 46, 53] = true ∧ parV [48, 46, 53] = 32768 := by
  have h : parB [48, 46, 53] = true := by
    unfold parB
    rw [near_wake]
    unfold textL
    rw [show ((32768, 0) : Int × Int).1.natAbs / 65536 = 0 from rfl, decDigits_one (by decide)]
    decide
  refine ⟨h, ?_⟩
  unfold parV
  rw [h, near_wake]
  rfl
theorem wakes_any (w : World) (hg : Glo w) :
    Calls Tryd.prog 11 #[] w fun e w' => e = .returned (.bool true) ∧ Below w.heap.size w w' := by
  have c1 := text_any (-98304) w hg
  rw [text_wake] at c1
  have c2 : ∀ w, Glo w → Calls Tryd.prog 12 #[.string ⟨#[48, 46, 53]⟩] w fun r w' => r = .returned (.tuple #[.int .i64 32768, .bool true]) ∧ Below w.heap.size w w' := by
    intro w hg
    have := parse_any ⟨#[48, 46, 53]⟩ w hg
    rwa [show (⟨#[48, 46, 53]⟩ : ByteArray).data.toList = [48, 46, 53] from rfl, parse_wake.1, parse_wake.2] at this
  have C1 := hide c1
  have C2 := hide c2
  have HG := hide hg
  clear c1 c2 hg
  go_enter Tryd.func11, Tryd.ntmps11
  go_wp2_with (first | (go_at_call 9; refine C1.out.mono ?_; rintro e w1 ⟨rfl, hb1⟩) | (go_at_call 12; refine (C2.out _ (HG.out.below hb1)).mono ?_; rintro e w2 ⟨rfl, hb2⟩))
  go_ret
  exact ⟨rfl, hb1.trans (hb2.mono hb1.size)⟩
end Go.Proofs.YtdmfmiejjghfnaaDoor
