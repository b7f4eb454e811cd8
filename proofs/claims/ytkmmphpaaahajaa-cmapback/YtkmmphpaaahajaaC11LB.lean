/-
  The law CmapBack, walked.
-/
import Derived.Test.YtkmmphpaaahajaaC11Op
import Derived.Test.YtkmmphpaaahajaaC11Ss
import Derived.Test.YtkmmphpaaahajaaC11Bq
namespace Go.Proofs.Ytkmmphpaaahajaa
open Go.ChangeShapes Go.WideShapes Go.RowKit Go.Deep
set_option linter.unusedVariables false

def CpR (a : Option Addr) (n c : Nat) (cs : List Ch) (u : World) : Prop := ∃ g c' u', (Builtin.append_ #[23, 23] 23 #[.slice (some ⟨u.heap.size, 0, none⟩) 0 0, .slice a n c]).run Try.prog (u.alloc (.cells #[] 47)) = .ok (.slice (some ⟨g, 0, none⟩) n c') u' ∧ Below u.heap.size u u' ∧ CLst u' (some ⟨g, 0, none⟩) cs
set_option maxHeartbeats 2000000 in
theorem back_walk (a : Option Addr) (n c : Nat) (cs : List Ch) (w : World) (hT : CIn w a n cs) :
    Calls Try.prog 6 #[.slice a n c] w fun e w' => e = .returned (.bool true) ∧ Below w.heap.size w w' := by
  have CW := hide wakes_any
  by_cases hl : 500 < n
  · have hl' : (500 : Int) < (n : Int) := by omega
    clear hT
    go_enter Try.func6, Try.ntmps6
    go_wp2_with fail
    refine (CW.out _).mono ?_
    rintro e w1 ⟨rfl, h1⟩
    have H1 := hide h1
    clear h1
    go_wp2_with fail
    go_ret
    exact ⟨rfl, H1.out⟩
  have hl' : ¬ (500 : Int) < (n : Int) := by omega
  have n5 : (n : Int) ≤ 500 := by omega
  have HT := hide hT
  have CP := hide (fun (u : World) (h : Below w.heap.size w u) => (show CpR a n c cs u from copy_any u a n c cs hT.len (by omega) (hT.lst.below h)))
  have CS := hide (fun a1 k1 u (h : CLst u a1 cs) (h2 : CLst u a cs) => same_refl a1 a k1 c n cs u hT.len (by omega) h h2)
  have CG := hide (fun g k u (h : CLst u (some ⟨g, 0, none⟩) cs) => good_any (some ⟨g, 0, none⟩) cs n k 4096 u hT.len (by omega) ⟨by omega, by omega⟩ h)
  have HLN := hide hT.len
  have HLS := hide hT.lst
  have HNN := hide (show n ≤ 500 by omega)
  cases hg : gooB cs 4096
  · rw [hg] at CG
    have CB1 := hide (fun g k u (h : CLst u (some ⟨g, 0, none⟩) cs) => build_bad (some ⟨g, 0, none⟩) cs n k true u hT.len (by omega) h hg)
    have CB2 := hide (fun g k u (h : CLst u (some ⟨g, 0, none⟩) cs) => build_bad (some ⟨g, 0, none⟩) cs n k false u hT.len (by omega) h hg)
    clear hT hl hg
    have B0 := hide (Below.refl w.heap.size w)
    obtain ⟨g1, k1, u1, cr1, cb1, cl1⟩ := CP.out _ B0.out
    have R1 := hide cr1
    have U1 := hide (B0.out.trans (cb1.mono B0.out.size))
    have L1 := hide cl1
    clear cr1 cb1 cl1
    go_enter Try.func6, Try.ntmps6
    go_wp2_with (at_builtin; refine Lib.wpList_append_run _ rfl _ _ _ _ rfl _ _ rfl rfl _ _ R1.out ?_)
    refine (CB1.out _ _ _ L1.out).mono ?_
    rintro e x1 ⟨rfl, hb1⟩
    have B1 := hide (U1.out.trans (hb1.mono U1.out.size))
    clear hb1
    obtain ⟨g2, k2, u2, cr2, cb2, cl2⟩ := CP.out _ B1.out
    have R2 := hide cr2
    have U2 := hide (B1.out.trans (cb2.mono B1.out.size))
    have L2 := hide cl2
    clear cr2 cb2 cl2
    go_wp2_with (at_builtin; refine Lib.wpList_append_run _ rfl _ _ _ _ rfl _ _ rfl rfl _ _ R2.out ?_)
    refine (CB2.out _ _ _ L2.out).mono ?_
    rintro e x2 ⟨rfl, hb2⟩
    have B2 := hide (U2.out.trans (hb2.mono U2.out.size))
    clear hb2
    obtain ⟨g3, k3, u3, cr3, cb3, cl3⟩ := CP.out _ B2.out
    have R3 := hide cr3
    have U3 := hide (B2.out.trans (cb3.mono B2.out.size))
    have L3 := hide cl3
    clear cr3 cb3 cl3
    go_wp2_with (at_builtin; refine Lib.wpList_append_run _ rfl _ _ _ _ rfl _ _ rfl rfl _ _ R3.out ?_)
    refine (CG.out _ _ _ L3.out).mono ?_
    rintro e x3 ⟨rfl, hb3⟩
    have B3 := hide (U3.out.trans (hb3.mono U3.out.size))
    clear hb3
    go_wp2_with fail
    refine (CW.out _).mono ?_
    rintro e w9 ⟨rfl, hb9⟩
    have B99 := hide (B3.out.trans (hb9.mono B3.out.size))
    clear hb9
    go_wp2_with fail
    go_ret
    exact ⟨rfl, B99.out⟩
  rw [hg] at CG
  have CB1 := hide (fun g k u (h : CLst u (some ⟨g, 0, none⟩) cs) => build_wide (some ⟨g, 0, none⟩) cs n k u hT.len h hg)
  have hw1 := wide_back cs hg
  have hsz1 : (wiT cs).length ≤ 1073741824 := by
    unfold wiT
    rw [List.length_append, List.length_append, List.length_append, fo_len, g3_len, hT.len]
    simp [opT, tw_len, fo_len]; omega
  have CR1 := hide (fun u => (show Calls Try.prog 9 #[.string ⟨(wiT cs).toArray⟩, .int .i64 ((4096 : Nat) : Int)] u (RdR u (some cs)) by
    have := read_any ⟨(wiT cs).toArray⟩ 4096 u (by simpa [ByteArray.size] using hsz1) (by omega) (by omega)
    rw [show (⟨(wiT cs).toArray⟩ : ByteArray).data.toList = wiT cs by simp, hw1] at this
    exact this))
  generalize (⟨(wiT cs).toArray⟩ : ByteArray) = TA at *
  cases hn : narB cs
  · have CB2 := hide (fun g k u (h : CLst u (some ⟨g, 0, none⟩) cs) => build_not (some ⟨g, 0, none⟩) cs n k u hT.len h hg hn)
    clear hT hl hg hn hw1 hsz1
    have B0 := hide (Below.refl w.heap.size w)
    obtain ⟨g1, k1, u1, cr1, cb1, cl1⟩ := CP.out _ B0.out
    have R1 := hide cr1
    have U1 := hide (B0.out.trans (cb1.mono B0.out.size))
    have L1 := hide cl1
    clear cr1 cb1 cl1
    go_enter Try.func6, Try.ntmps6
    go_wp2_with (at_builtin; refine Lib.wpList_append_run _ rfl _ _ _ _ rfl _ _ rfl rfl _ _ R1.out ?_)
    refine (CB1.out _ _ _ L1.out).mono ?_
    rintro e x1 ⟨rfl, hb1⟩
    have B1 := hide (U1.out.trans (hb1.mono U1.out.size))
    clear hb1
    obtain ⟨g2, k2, u2, cr2, cb2, cl2⟩ := CP.out _ B1.out
    have R2 := hide cr2
    have U2 := hide (B1.out.trans (cb2.mono B1.out.size))
    have L2 := hide cl2
    clear cr2 cb2 cl2
    go_wp2_with (at_builtin; refine Lib.wpList_append_run _ rfl _ _ _ _ rfl _ _ rfl rfl _ _ R2.out ?_)
    refine (CB2.out _ _ _ L2.out).mono ?_
    rintro e x2 ⟨rfl, hb2⟩
    have B2 := hide (U2.out.trans (hb2.mono U2.out.size))
    clear hb2
    obtain ⟨g3, k3, u3, cr3, cb3, cl3⟩ := CP.out _ B2.out
    have R3 := hide cr3
    have U3 := hide (B2.out.trans (cb3.mono B2.out.size))
    have L3 := hide cl3
    clear cr3 cb3 cl3
    go_wp2_with (at_builtin; refine Lib.wpList_append_run _ rfl _ _ _ _ rfl _ _ rfl rfl _ _ R3.out ?_)
    refine (CG.out _ _ _ L3.out).mono ?_
    rintro e x3 ⟨rfl, hb3⟩
    have B3 := hide (U3.out.trans (hb3.mono U3.out.size))
    clear hb3
    go_wp2_with fail
    refine (CR1.out _).mono ?_
    rintro e y4 ⟨v4, rfl, hr4, hb4⟩
    have B4 := hide (B3.out.trans (hb4.mono B3.out.size))
    obtain ⟨a4, m4, rfl, hl4⟩ := hr4.lst
    have M4 := hide hl4
    rw [HLN.out]
    clear hb4 hr4 hl4
    go_wp2_with fail
    refine (CS.out _ _ _ M4.out (HLS.out.below B4.out)).mono ?_
    rintro e z4 ⟨rfl, hc4⟩
    have B5 := hide (B4.out.trans (hc4.mono B4.out.size))
    clear hc4
    go_wp2_with fail
    refine (CW.out _).mono ?_
    rintro e w9 ⟨rfl, hb9⟩
    have B99 := hide (B5.out.trans (hb9.mono B5.out.size))
    clear hb9
    go_wp2_with fail
    go_ret
    exact ⟨rfl, B99.out⟩
  have CB2 := hide (fun g k u (h : CLst u (some ⟨g, 0, none⟩) cs) => build_nar (some ⟨g, 0, none⟩) cs n k u hT.len h hg hn)
  have hw2 := nar_back cs hg hn
  have hsz2 : (naT cs).length ≤ 1073741824 := by
    have e : naT cs = opT 1 ++ s4 cs := by unfold naT s4; simp only [List.append_assoc]
    rw [e, List.length_append, s4_len, hT.len]
    simp [opT, tw_len, fo_len]; omega
  have CR2 := hide (fun u => (show Calls Try.prog 9 #[.string ⟨(naT cs).toArray⟩, .int .i64 ((4096 : Nat) : Int)] u (RdR u (some cs)) by
    have := read_any ⟨(naT cs).toArray⟩ 4096 u (by simpa [ByteArray.size] using hsz2) (by omega) (by omega)
    rw [show (⟨(naT cs).toArray⟩ : ByteArray).data.toList = naT cs by simp, hw2] at this
    exact this))
  generalize (⟨(naT cs).toArray⟩ : ByteArray) = TB at *
  clear hT hl hg hn hw1 hsz1 hw2 hsz2
  have B0 := hide (Below.refl w.heap.size w)
  obtain ⟨g1, k1, u1, cr1, cb1, cl1⟩ := CP.out _ B0.out
  have R1 := hide cr1
  have U1 := hide (B0.out.trans (cb1.mono B0.out.size))
  have L1 := hide cl1
  clear cr1 cb1 cl1
  go_enter Try.func6, Try.ntmps6
  go_wp2_with (at_builtin; refine Lib.wpList_append_run _ rfl _ _ _ _ rfl _ _ rfl rfl _ _ R1.out ?_)
  refine (CB1.out _ _ _ L1.out).mono ?_
  rintro e x1 ⟨rfl, hb1⟩
  have B1 := hide (U1.out.trans (hb1.mono U1.out.size))
  clear hb1
  obtain ⟨g2, k2, u2, cr2, cb2, cl2⟩ := CP.out _ B1.out
  have R2 := hide cr2
  have U2 := hide (B1.out.trans (cb2.mono B1.out.size))
  have L2 := hide cl2
  clear cr2 cb2 cl2
  go_wp2_with (at_builtin; refine Lib.wpList_append_run _ rfl _ _ _ _ rfl _ _ rfl rfl _ _ R2.out ?_)
  refine (CB2.out _ _ _ L2.out).mono ?_
  rintro e x2 ⟨rfl, hb2⟩
  have B2 := hide (U2.out.trans (hb2.mono U2.out.size))
  clear hb2
  obtain ⟨g3, k3, u3, cr3, cb3, cl3⟩ := CP.out _ B2.out
  have R3 := hide cr3
  have U3 := hide (B2.out.trans (cb3.mono B2.out.size))
  have L3 := hide cl3
  clear cr3 cb3 cl3
  go_wp2_with (at_builtin; refine Lib.wpList_append_run _ rfl _ _ _ _ rfl _ _ rfl rfl _ _ R3.out ?_)
  refine (CG.out _ _ _ L3.out).mono ?_
  rintro e x3 ⟨rfl, hb3⟩
  have B3 := hide (U3.out.trans (hb3.mono U3.out.size))
  clear hb3
  go_wp2_with fail
  refine (CR1.out _).mono ?_
  rintro e y4 ⟨v4, rfl, hr4, hb4⟩
  have B4 := hide (B3.out.trans (hb4.mono B3.out.size))
  obtain ⟨a4, m4, rfl, hl4⟩ := hr4.lst
  have M4 := hide hl4
  rw [HLN.out]
  clear hb4 hr4 hl4
  go_wp2_with fail
  refine (CS.out _ _ _ M4.out (HLS.out.below B4.out)).mono ?_
  rintro e z4 ⟨rfl, hc4⟩
  have B5 := hide (B4.out.trans (hc4.mono B4.out.size))
  clear hc4
  go_wp2_with fail
  refine (CR2.out _).mono ?_
  rintro e y6 ⟨v6, rfl, hr6, hb6⟩
  have B6 := hide (B5.out.trans (hb6.mono B5.out.size))
  obtain ⟨a6, m6, rfl, hl6⟩ := hr6.lst
  have M6 := hide hl6
  rw [HLN.out]
  clear hb6 hr6 hl6
  go_wp2_with fail
  refine (CS.out _ _ _ M6.out (HLS.out.below B6.out)).mono ?_
  rintro e z6 ⟨rfl, hc6⟩
  have B7 := hide (B6.out.trans (hc6.mono B6.out.size))
  clear hc6
  go_wp2_with fail
  refine (CW.out _).mono ?_
  rintro e w9 ⟨rfl, hb9⟩
  have B99 := hide (B7.out.trans (hb9.mono B7.out.size))
  clear hb9
  go_wp2_with fail
  go_ret
  exact ⟨rfl, B99.out⟩
end Go.Proofs.Ytkmmphpaaahajaa
