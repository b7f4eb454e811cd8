/-
  The law CmapBuilds, walked.
-/
import Derived.Test.YthgpchjkeidilaaC11Op
import Derived.Test.YthgpchjkeidilaaC11Rc
import Derived.Test.YthgpchjkeidilaaC11Rd
namespace Go.Proofs.Ythgpchjkeidilaa
open Go.ChangeShapes Go.WideShapes Go.RowKit Go.Deep
set_option linter.unusedVariables false

def CpR (a : Option Addr) (n c : Nat) (cs : List Ch) (u : World) : Prop := ∃ g c' u', (Builtin.append_ #[22, 22] 22 #[.slice (some ⟨u.heap.size, 0, none⟩) 0 0, .slice a n c]).run Try.prog (u.alloc (.cells #[] 31)) = .ok (.slice (some ⟨g, 0, none⟩) n c') u' ∧ Below u.heap.size u u' ∧ CLst u' (some ⟨g, 0, none⟩) cs
theorem both_any (cs : List Ch) (n : Nat) (wd : Bool) (hl : cs.length = n) (hm : n ≤ 5000) :
    ∃ (S : ByteArray) (e : Int), 0 ≤ e ∧ e ≤ 110 ∧
      (∀ a c w, CLst w a cs → Calls Try.prog 5 #[.slice a n c, .bool wd] w fun x w' => x = .returned (.tuple #[.string S, .int .i64 e]) ∧ Below w.heap.size w w') ∧
      (∀ a c w, CLst w a cs → Calls Try.prog 6 #[.slice a n c, .bool wd] w fun x w' => x = .returned (.tuple #[.string S, .int .i64 e]) ∧ Below w.heap.size w w') := by
  cases hg : gooB cs 4096
  · exact ⟨_, 110, by omega, by omega, fun a c w h => build_bad a cs n c wd w hl (by omega) h hg, fun a c w h => rbuild_bad a cs n c wd w hl (by omega) h hg⟩
  cases wd
  · have hr := fun a c w (h : CLst w a cs) => rbuild_nar a cs n c w hl h hg
    unfold NbR at hr
    cases hn : narB cs
    · rw [hn] at hr
      simp only [Bool.false_eq_true, if_false] at hr
      exact ⟨_, 110, by omega, by omega, fun a c w h => build_not a cs n c w hl h hg hn, hr⟩
    · rw [hn] at hr
      simp only [if_true] at hr
      exact ⟨_, 0, by omega, by omega, fun a c w h => build_nar a cs n c w hl h hg hn, hr⟩
  · exact ⟨_, 0, by omega, by omega, fun a c w h => build_wide a cs n c w hl h hg, fun a c w h => rbuild_wide a cs n c w hl h hg⟩
set_option maxHeartbeats 2000000 in
theorem builds_walk (a : Option Addr) (n c : Nat) (cs : List Ch) (wd : Bool) (w : World) (hT : CIn w a n cs) :
    Calls Try.prog 3 #[.slice a n c, .bool wd] w fun e w' => e = .returned (.bool true) ∧ Below w.heap.size w w' := by
  have CW := hide wakes_any
  by_cases hl : 5000 < n
  · have hl' : (5000 : Int) < (n : Int) := by omega
    clear hT
    go_enter Try.func3, Try.ntmps3
    go_wp2_with fail
    refine (CW.out _).mono ?_
    rintro e w1 ⟨rfl, h1⟩
    have H1 := hide h1
    clear h1
    go_wp2_with fail
    go_ret
    exact ⟨rfl, H1.out⟩
  have hl' : ¬ (5000 : Int) < (n : Int) := by omega
  have n5 : (n : Int) ≤ 5000 := by omega
  obtain ⟨g1, k1, u1, cr1, cb1, cl1⟩ := (show CpR a n c cs w from copy_any w a n c cs hT.len (by omega) hT.lst)
  obtain ⟨S, E, hE0, hE1, cB, cR⟩ := both_any cs n wd hT.len (by omega)
  have CB := hide cB
  have CR := hide cR
  have R1 := hide cr1
  have U1 := hide cb1
  have L1 := hide cl1
  have HLS := hide hT.lst
  clear cr1 cb1 cl1 cB cR hT hl
  go_enter Try.func3, Try.ntmps3
  go_wp2_with (at_builtin; refine Lib.wpList_append_run _ rfl _ _ _ _ rfl _ _ rfl rfl _ _ R1.out ?_)
  refine (CB.out _ _ _ L1.out).mono ?_
  rintro e x1 ⟨rfl, hb1⟩
  have B1 := hide (U1.out.trans (hb1.mono U1.out.size))
  clear hb1
  go_wp2_with fail
  refine (CR.out _ _ _ (HLS.out.below B1.out)).mono ?_
  rintro e x2 ⟨rfl, hb2⟩
  have B2 := hide (B1.out.trans (hb2.mono B1.out.size))
  clear hb2
  go_wp2_with fail
  refine (CW.out _).mono ?_
  rintro e w9 ⟨rfl, hb9⟩
  have B99 := hide (B2.out.trans (hb9.mono B2.out.size))
  clear hb9
  go_wp2_with fail
  go_ret
  exact ⟨rfl, B99.out⟩
end Go.Proofs.Ythgpchjkeidilaa
