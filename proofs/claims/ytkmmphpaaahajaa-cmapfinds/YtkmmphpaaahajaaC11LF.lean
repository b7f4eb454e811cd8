/-
  The law CmapFinds, walked.
-/
import Derived.Test.YtkmmphpaaahajaaC11Op
import Derived.Test.YtkmmphpaaahajaaC11Rf
import Derived.Test.YtkmmphpaaahajaaC11Rg
namespace Go.Proofs.Ytkmmphpaaahajaa
open Go.ChangeShapes Go.WideShapes Go.RowKit Go.Deep
set_option linter.unusedVariables false

theorem wf64 {a : Int} (h : (Lit.int .i64 a).wf = true) : R64 a := ⟨(bounds_i64 h).1, (bounds_i64 h).2⟩
set_option maxHeartbeats 1000000 in
theorem finds_walk (a : Option Addr) (n c : Nat) (cs : List Ch) (x y : Int) (w : World) (hT : CIn w a n cs) (hx : R64 x) (hy : R64 y) :
    Calls Try.prog 4 #[.slice a n c, .int .i64 x, .int .i64 y] w fun e w' => e = .returned (.bool true) ∧ Below w.heap.size w w' := by
  have CW := hide wakes_any
  by_cases hl : 5000 < n
  · have hl' : (5000 : Int) < (n : Int) := by omega
    clear hT hx hy
    go_enter Try.func4, Try.ntmps4
    go_wp2_with fail
    refine (CW.out _).mono ?_
    rintro e w1 ⟨rfl, h1⟩
    have H1 := hide h1
    clear h1
    go_wp2_with fail
    go_ret
    exact ⟨rfl, H1.out⟩
  have hl' : ¬ (5000 : Int) < (n : Int) := by omega
  obtain ⟨g, c', w1, hr, hb1, hL1⟩ := copy_any w a n c cs hT.len (by omega) hT.lst
  have HR := hide hr
  have HB1 := hide hb1
  have HL1 := hide hL1
  have C1 := hide (fun w1 (h : CLst w1 (some ⟨g, 0, none⟩) cs) => find_any (some ⟨g, 0, none⟩) cs n c' x w1 hT.len (by omega) hx hT.rng h)
  have C2 := hide (fun w1 (h : CLst w1 a cs) => rfind_any a cs n c x w1 hT.len (by omega) hx hT.rng h)
  have C3 := hide (fun w1 (h : CLst w1 (some ⟨g, 0, none⟩) cs) => good_any (some ⟨g, 0, none⟩) cs n c' y w1 hT.len (by omega) hy h)
  have C4 := hide (fun w1 (h : CLst w1 a cs) => rgood_any a cs n c y w1 hT.len (by omega) hy h)
  have C5 := hide (fun w1 (h : CLst w1 (some ⟨g, 0, none⟩) cs) (h2 : CLst w1 a cs) => same_refl (some ⟨g, 0, none⟩) a c' c n cs w1 hT.len (by omega) h h2)
  have HL := hide hT.lst
  have n5 : (n : Int) ≤ 5000 := by omega
  generalize finV cs x = F at C1 C2
  generalize gooB cs y = G at C3 C4
  clear hr hb1 hL1 hT hx hy hl
  go_enter Try.func4, Try.ntmps4
  go_wp2_with (at_builtin; refine Lib.wpList_append_run _ rfl _ _ _ _ rfl _ _ rfl rfl _ _ HR.out ?_)
  refine (C1.out _ HL1.out).mono ?_
  rintro e w2 ⟨rfl, h2⟩
  have HB2 := hide (HB1.out.trans (h2.mono HB1.out.size))
  have HL2 := hide (HL1.out.below h2)
  clear h2
  go_wp2_with fail
  refine (C2.out _ (HL.out.below HB2.out)).mono ?_
  rintro e w3 ⟨rfl, hw⟩
  subst hw
  go_wp2_with fail
  refine (C3.out _ HL2.out).mono ?_
  rintro e w4 ⟨rfl, h4⟩
  have HB4 := hide (HB2.out.trans (h4.mono HB2.out.size))
  have HL4 := hide (HL2.out.below h4)
  clear h4
  go_wp2_with fail
  refine (C4.out _ (HL.out.below HB4.out)).mono ?_
  rintro e w5 ⟨rfl, h5⟩
  have HB5 := hide (HB4.out.trans (h5.mono HB4.out.size))
  have HL5 := hide (HL4.out.below h5)
  clear h5
  cases G
  all_goals
    go_wp2_with fail
    refine (C5.out _ HL5.out (HL.out.below HB5.out)).mono ?_
    rintro e w6 ⟨rfl, h6⟩
    have HB6 := hide (HB5.out.trans (h6.mono HB5.out.size))
    clear h6
    go_wp2_with fail
    refine (CW.out _).mono ?_
    rintro e w7 ⟨rfl, h7⟩
    have HB7 := hide (HB6.out.trans (h7.mono HB6.out.size))
    clear h7
    go_wp2_with fail
    go_ret
    exact ⟨rfl, HB7.out⟩
end Go.Proofs.Ytkmmphpaaahajaa
