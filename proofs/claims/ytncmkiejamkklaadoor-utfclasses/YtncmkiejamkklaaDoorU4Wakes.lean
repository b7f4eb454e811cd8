/-
  What wakes (of chapter 4) answers.
-/
import Derived.Test.YtncmkiejamkklaaDoorU4Dec
import Derived.Test.YtncmkiejamkklaaDoorU4Cls
import Derived.Test.YtncmkiejamkklaaDoorU4Same
namespace Go.Proofs.YtncmkiejamkklaaDoor
open Go.RowKit

theorem bl_drewN {n : Nat} {w w' : World} (h : Below n w w') (k : Nat) : Below n w (w'.drewN k) := below_drewN h k
theorem wake_rd : rd st8 [97, 195, 169] 0 = ([97, 233], 0, 0) := by decide
theorem decode_any (s : ByteArray) (w : World) (hg : Glo w) (hs : s.size ≤ 65536) :
    Calls Tryd.prog 10 #[.string s] w fun e w' => ∃ v, e = .returned (.tuple #[v, .int .i64 (rd st8 s.data.toList 0).2.1, .int .i64 (rd st8 s.data.toList 0).2.2]) ∧ IRow w' w.heap.size v (rd st8 s.data.toList 0).1 ∧ Below w.heap.size w w' :=
  decode_core s w hg hs _ _ _ rfl
theorem wakes_any (w : World) (hg : Glo w) :
    Calls Tryd.prog 9 #[] w fun e w' => e = .returned (.bool true) ∧ Below w.heap.size w w' := by
  have CD := hide (decode_core ⟨#[97, 195, 169]⟩ w hg (by decide) [97, 233] 0 0 wake_rd)
  have hc : clsV 233 = 2 := by decide
  clear hg
  go_enter Tryd.func9, Tryd.ntmps9
  go_wp2_with (go_at_call 10; refine CD.out.mono ?_; rintro e w1 ⟨v, rfl, hr, hb⟩; obtain ⟨a, cap, rfl, hL, hc1, hc2⟩ := hr.lst)
  have HL := hide hL
  have HB := hide hb
  clear hr hL hb
  have HA := hide (show Below w.heap.size w (w1.alloc (.cells #[.int .i64 97, .int .i64 233] 3)) from HB.out.alloc HB.out.size _)
  have HL1 := hide (show Lst (w1.alloc (.cells #[.int .i64 97, .int .i64 233] 3)) a [97, 233] from HL.out.below ((Below.refl _ _).alloc (Nat.le_refl _) _))
  have HL2 := hide (show Lst (w1.alloc (.cells #[.int .i64 97, .int .i64 233] 3)) (some ⟨w1.heap.size, 0, none⟩) [97, 233] by
    refine Or.inr ⟨w1.heap.size, 0, rfl, by simp, fun i hi => ?_⟩
    match i, hi with
    | 0, _ => simp
    | 1, _ => simp)
  go_wp2_with fail
  refine (same_any a (some ⟨w1.heap.size, 0, none⟩) 2 cap 2 [97, 233] _ rfl (by omega) HL1.out HL2.out).mono ?_
  rintro e w' ⟨rfl, n, rfl⟩
  have HE := hide (below_drewN HA.out n)
  go_wp2_with (go_at_call 16; refine (class_any _ _).mono ?_; rintro e w' ⟨rfl, rfl⟩)
  go_ret
  exact ⟨rfl, HE.out⟩
end Go.Proofs.YtncmkiejamkklaaDoor
