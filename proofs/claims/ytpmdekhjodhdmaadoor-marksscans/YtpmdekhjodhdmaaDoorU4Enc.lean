/-
  What utf.Encode answers.
-/
import Derived.Test.YtpmdekhjodhdmaaDoorU4Cls
import Derived.Test.YtpmdekhjodhdmaaDoorU4Row
import Derived.Test.YtpmdekhjodhdmaaDoorShelf
namespace Go.Proofs.YtpmdekhjodhdmaaDoor
open Go.RowKit

/- the bytes of a list, or nothing, and the error's number -/
def wrS (enc : Nat → List UInt8) (pre : List UInt8) (zs : List Int) : List UInt8 := if zs.all isP then pre ++ encs enc zs else []
def wrE (zs : List Int) : Nat := if zs.all isP then 0 else 40
theorem all_bad (zs : List Int) (k : Nat) (h : k < zs.length) (hp : isP (zs.getD k 0) = false) : zs.all isP = false := by
  rw [List.all_eq_false]
  refine ⟨zs.getD k 0, ?_, by rw [hp]; decide⟩
  rw [List.getD_eq_getElem?_getD, List.getElem?_eq_getElem h]
  exact List.getElem_mem h
theorem take_snoc (zs : List Int) (k : Nat) (h : k < zs.length) : zs.take (k + 1) = zs.take k ++ [zs.getD k 0] := by
  rw [List.take_add_one, List.getElem?_eq_getElem h, List.getD_eq_getElem?_getD, List.getElem?_eq_getElem h]
  rfl
theorem runeCells_e8 (c : Nat) (h : isP (c : Int) = true) : Lib.runeCells (c : Int) = (e8 c).map bcell := by
  have hp := isP_t.1 h
  have bb : ∀ (n : Nat) (x : Int), n < 256 → x = (n : Int) → Value.int .u8 x = bcell (bt n) := by
    intro n x hn hx
    unfold bcell
    rw [bt_nat n hn, hx]
  unfold Lib.runeCells
  by_cases c1 : c < 128
  · rw [Lib.encodeRuneZ_one (by omega) (by omega), u8_1 c1]
    simp only [List.map_cons, List.map_nil]
    rw [bb c _ (by omega) rfl]
  by_cases c2 : c < 2048
  · rw [Lib.encodeRuneZ_two (by omega) (by omega), u8_2 (by omega) c2]
    simp only [List.map_cons, List.map_nil]
    rw [bb (192 + c / 64) _ (by omega) (by omega), bb (128 + c % 64) _ (by omega) (by omega)]
  by_cases c3 : c < 65536
  · rw [Lib.encodeRuneZ_three (by omega), u8_3 (by omega) c3]
    simp only [List.map_cons, List.map_nil]
    rw [bb (224 + c / 4096) _ (by omega) (by omega), bb (128 + c / 64 % 64) _ (by omega) (by omega), bb (128 + c % 64) _ (by omega) (by omega)]
  · rw [Lib.encodeRuneZ_four (by omega) (by omega), u8_4 (by omega)]
    simp only [List.map_cons, List.map_nil]
    rw [bb (240 + c / 262144) _ (by omega) (by omega), bb (128 + c / 4096 % 64) _ (by omega) (by omega), bb (128 + c / 64 % 64) _ (by omega) (by omega), bb (128 + c % 64) _ (by omega) (by omega)]

end Go.Proofs.YtpmdekhjodhdmaaDoor
