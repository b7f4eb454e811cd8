/-
  The law SfntBuilds, walked.
-/
import Derived.Test.YtgmmhlpdkoiheaaDoorS8Te
import Derived.Test.YtgmmhlpdkoiheaaDoorS8To
import Derived.Test.YtgmmhlpdkoiheaaDoorS8Wr
import Derived.Test.YtgmmhlpdkoiheaaDoorS8Wak
namespace Go.Proofs.YtgmmhlpdkoiheaaDoor
open Go.RowKit Go.Deep
set_option linter.unusedVariables false
set_option linter.unusedSimpArgs false

set_option maxRecDepth 8000 in
set_option maxHeartbeats 4000000 in
theorem builds_walk (a : Option Addr) (n c : Nat) (l : List Tab) (t : ByteArray) (w : World) (hT : TIn w a n l) (hG : Glo8 w) :
    Calls Tryd.prog 6 #[.slice a n c, .string t] w fun e w' => e = .returned (.bool true) ∧ Below w.heap.size w w' := by
  have CLg := hide (long_any a l n c w hT)
  have CW := hide (fun w hg => wakes8_any w hg)
  have HT := hide hT
  have HG := hide hG
  have hnm : (n : Int) ≤ 4398046511104 := by have := hT.most; omega
  clear hT hG
  go_enter Tryd.func6, Tryd.ntmps6
  go_wp2_with fail
  refine CLg.out.mono ?_
  rintro e w1 ⟨B, rfl, hB, m1, rfl⟩
  have HW1 := hide (below_drewN (Below.refl w.heap.size w) m1)
  cases B with
  | true =>
    clear hB
    go_wp2_with (go_at_call 9; refine (CW.out _ (HG.out.below HW1.out)).mono ?_; rintro e w2 ⟨rfl, h2⟩)
    go_ret
    exact ⟨rfl, below_t5 HW1.out h2⟩
  | false =>
    obtain ⟨hn4, hx4⟩ := hB rfl
    clear hB
    generalize w.drewN m1 = w1 at HW1 ⊢
    obtain ⟨g, c', w2, hr, t2, b2⟩ := app_tabs w1 a n c w1.heap.size l HT.out.len (by omega) (HT.out.lst.below HW1.out) rfl
    have HRU := hide hr
    have HT2 := hide t2
    have HB2 := hide (below_t5 HW1.out b2)
    have HTA := hide ((HT.out.lst.below HW1.out).below b2)
    have hzz : ∀ x ∈ l, x.1.size ≤ 1073741824 ∧ x.2.size ≤ 1073741824 := fun x hx => by have := hx4 x hx; omega
    have C1 := hide (build_any (some ⟨g, 0, none⟩) l n c' w2 HT.out.len (by omega) hzz t2 (HG.out.below HB2.out))
    have C2 := hide (fun w3 (hb : Below w2.heap.size w2 w3) => rbuild_any a l n c w3 HT.out.len (by omega) hzz (HTA.out.below hb))
    have C3 := hide (fun w3 (hb : Below w2.heap.size w2 w3) => find_any (some ⟨g, 0, none⟩) l n c' t w3 HT.out.len (by omega) (fun x hx => by have := hx4 x hx; omega) (HT2.out.below hb))
    have C4 := hide (fun w3 (hb : Below w2.heap.size w2 w3) => rfind_any a l n c t w3 HT.out.len (by omega) (HTA.out.below hb))
    have C5 := hide (fun w3 (hb : Below w2.heap.size w2 w3) => tsame_any (some ⟨g, 0, none⟩) a l n c' c w3 HT.out.len (by omega) (HT2.out.below hb) (HTA.out.below hb))
    unfold BuR at C1 C2
    generalize btS l = TX at C1 C2
    generalize bErr l = ER at C1 C2
    obtain ⟨d, ok, hd⟩ : ∃ d ok, fnR (finV l t) = .tuple #[.string d, .bool ok] := by
      unfold fnR
      cases finV l t with
      | none => exact ⟨_, _, rfl⟩
      | some d => exact ⟨_, _, rfl⟩
    rw [hd] at C3 C4
    clear hr t2 b2 hn4 hx4 hzz hd
    go_wp2_with (at_builtin; refine Lib.wpList_append_run _ rfl _ _ _ _ rfl _ _ rfl rfl _ _ HRU.out ?_)
    refine C1.out.mono ?_
    rintro e w3 ⟨rfl, h3⟩
    have HB3 := hide h3
    clear h3
    go_wp2_with fail
    refine (C2.out _ HB3.out).mono ?_
    rintro e w4 ⟨rfl, h4⟩
    have HB4 := hide (below_t5 HB3.out h4)
    clear h4
    go_wp2_with fail
    refine (C3.out _ HB4.out).mono ?_
    rintro e w5 ⟨rfl, h5⟩
    have HB5 := hide (below_t5 HB4.out h5)
    clear h5
    go_wp2_with fail
    refine (C4.out _ HB5.out).mono ?_
    rintro e w6 ⟨rfl, hw6⟩
    replace hw6 := hw6.symm
    subst hw6
    have HB6 := HB5
    go_wp2_with fail
    refine (C5.out _ HB6.out).mono ?_
    rintro e w7 ⟨rfl, m7, rfl⟩
    have HB7 := hide (below_t5 HB2.out (below_drewN HB6.out m7))
    go_wp2_with fail
    refine (CW.out _ (HG.out.below HB7.out)).mono ?_
    rintro e w8 ⟨rfl, h8⟩
    have HB8 := hide (below_t5 HB7.out h8)
    clear h8
    go_wp2_with fail
    go_ret
    exact ⟨rfl, HB8.out⟩
end Go.Proofs.YtgmmhlpdkoiheaaDoor
