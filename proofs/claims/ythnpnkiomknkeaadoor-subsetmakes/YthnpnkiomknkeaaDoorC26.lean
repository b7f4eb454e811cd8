/-
  Joined: F12Rc.
-/
import Derived.Test.YthnpnkiomknkeaaDoorC08
import Derived.Test.YthnpnkiomknkeaaDoorC18
import Derived.Test.YthnpnkiomknkeaaDoorC22
import Derived.Test.YthnpnkiomknkeaaDoorC25
namespace Go.Proofs.YthnpnkiomknkeaaDoor.F12
open Go.RowKit Go.Deep
set_option linter.unusedVariables false
set_option linter.unusedSimpArgs false
set_option maxRecDepth 8000 in
set_option maxHeartbeats 8000000 in
theorem rcheck_any (m : Mt) (aa ab ga ca : Option Addr) (na nb ng nc ka kb kg kc : Nat) (gs : List ByteArray) (cs : List C11.Ch) (w : World) (hM : MIn w m aa na ab nb) (hng : gs.length = ng) (hnc : cs.length = nc) (hma : na ≤ 1000000) (hmb : nb ≤ 1000000) (hmg : ng ≤ 1000000) (hmc : nc ≤ 1000000) (hz : ∀ g ∈ gs, g.size ≤ 1000000) (hG : G10.SLst w ga gs) (hC : C11.CLst w ca cs) :
    Calls Tryd.prog 23 #[.agg (fcs m (.slice aa na ka) (.slice ab nb kb) (.slice ga ng kg) (.slice ca nc kc))] w fun e w' => e = .returned (.int .i64 (ckV m gs cs)) ∧ Below w.heap.size w w' := by
  have hna := hM.hna
  have hma' : (na : Int) ≤ 1000000 := by omega
  have hmg' : (ng : Int) ≤ 1000000 := by omega
  have bw := (Below.refl w.heap.size w).alloc (Nat.le_refl _) (.cells (fcs m (.slice aa na ka) (.slice ab nb kb) (.slice ga ng kg) (.slice ca nc kc)) 29)
  have k1 := Blk.new w (fcs m (.slice aa na ka) (.slice ab nb kb) (.slice ga ng kg) (.slice ca nc kc)) 29
  have CG := hide (Go.Proofs.YthnpnkiomknkeaaDoor.rgood_any m aa ab na ka nb kb _ ⟨hM.up, hM.hna, hM.hnb, hM.ma, hM.mb, hM.la.below bw, hM.lb.below bw, hM.xa, hM.xb⟩ hma hmb)
  have CP := hide (fun (u : World) (hu : Below w.heap.size w u) (h : ng ≤ 4096) => rparts_any ga ng kg gs u hng h hz (hG.below hu))
  have CD := hide (fun (p : Option Addr) (c : Nat) (pss : List (List Nat)) (u : World) (h2 : ng ≤ 4096) (hp : cpV gs = some pss) (hL : PLst u p pss) => rdeep_any p ng c pss u (by rw [(cp_bd hp).1]; exact hng) h2 (by rw [← hng]; exact (cp_bd hp).2) hL)
  have HPL := hide (fun (pss : List (List Nat)) (hp : cpV gs = some pss) => show pss.length = ng by rw [(cp_bd hp).1]; exact hng)
  have CC := hide (fun (u : World) (hu : Below w.heap.size w u) => C11.rgood_any ca cs nc kc (ng : Int) u hnc (by omega) ⟨by omega, by omega⟩ (hC.below hu))
  have HIN := hide (fun h : goodB m = true => good_in h)
  have E := hide (show ckV m gs cs = if goodB m then (if ng = na then (match cpV gs with | none => 100 | some pss => if deepB pss then 101 else if C11.gooB cs (ng : Int) then 0 else 110) else 100) else 90 by unfold ckV; rw [hna, hng] <;> rfl)
  have HNA := hide hna
  generalize ckV m gs cs = R at E ⊢
  obtain ⟨gb, hgb⟩ : ∃ gb, goodB m = gb := ⟨_, rfl⟩
  rw [hgb] at CG E HIN
  obtain ⟨up, sc, de, gap, b0, b1, b2, b3, lg, ad, be⟩ := m
  have HB1 := hide bw
  have HK1 := hide k1
  clear hna hng hnc hz hM hG hC bw k1 hgb
  simp only [mcs, fcs] at CG HB1 HK1 HNA HIN ⊢
  go_enter Tryd.func23, Tryd.ntmps23
  go_wp2_with fail
  refine CG.out.mono ?_
  rintro e w1 ⟨rfl, h1⟩
  have hk := HK1.out.below h1
  have e9 := hk.cell 9
  have e11 := hk.cell 11
  have e12 := hk.cell 12
  simp at e9 e11 e12
  have xlt := hk.lt
  have HB2 := hide (below_t5 HB1.out h1)
  have HK2 := hide hk
  clear h1 hk HB1 HK1
  cases gb with
  | false =>
    have E0 := E.out
    simp only [↓reduceIte, Bool.false_eq_true] at E0
    subst E0
    go_wp2_with fail
    go_ret
    exact ⟨rfl, HB2.out⟩
  | true =>
    by_cases hne : ng = na
    case neg =>
      have E0 := E.out
      simp only [↓reduceIte, Bool.false_eq_true, hne] at E0
      subst E0
      have hne1 : ((ng : Int) == (na : Int)) = false := by rw [beq_eq_false_iff_ne]; omega
      have hne2 : (ng : Int) ≠ (na : Int) := by omega
      go_wp2_with fail
      go_ret
      exact ⟨rfl, HB2.out⟩
    subst hne
    have h4 : 1 ≤ ng ∧ ng ≤ 4096 := by have := (HIN.out rfl).2.2.2.1; have := HNA.out; omega
    have CP1 := hide (CP.out w1 HB2.out h4.2)
    have hne1 : ((ng : Int) == (ng : Int)) = true := by simp
    go_wp2_with fail
    refine CP1.out.mono ?_
    rintro e w2 ⟨h2, h3⟩
    have hk := HK2.out.below h2
    have f11 := hk.cell 11
    have f12 := hk.cell 12
    simp at f11 f12
    have xlt2 := hk.lt
    have HB3 := hide (below_t5 HB2.out h2)
    have HK3 := hide hk
    clear hk h2 e9 e11 e12 xlt HB2 HK2 CP CP1 CG
    rcases h3 with ⟨hcp, rfl⟩ | ⟨pss, hcp, g, rfl, hPL⟩
    · have E0 := E.out
      simp only [hcp, ↓reduceIte, Bool.false_eq_true] at E0
      subst E0
      clear hcp
      go_wp2_with fail
      go_ret
      exact ⟨rfl, HB3.out⟩
    · have CD1 := hide (CD.out (some ⟨g, 0, none⟩) ng pss w2 h4.2 hcp hPL)
      have HPL1 := hide (HPL.out pss hcp)
      have E0 := E.out
      simp only [hcp, ↓reduceIte, Bool.false_eq_true] at E0
      have HE0 := hide E0
      clear hcp hPL E0 E CD HPL
      go_wp2_with fail
      refine CD1.out.mono ?_
      rintro e w3 ⟨dg, o, rfl, hko, hDI, h3⟩
      have hk := HK3.out.below h3
      have f11 := hk.cell 11
      have f12 := hk.cell 12
      simp at f11 f12
      have xlt3 := hk.lt
      have HB4 := hide (below_t5 HB3.out h3)
      have HKO := hide hko
      have HDI := hide hDI
      have h42 : (ng : Int) ≤ 4096 := by omega
      clear hk h3 HB3 HK3 hko hDI CD1
      go_wp2_with fail
      go_loopw [6] (fun vi wq => ∃ i : Nat, vi = .int .i64 (i : Int) ∧ Hid (wq = w3 ∧ i ≤ ng ∧ ∀ j, j < i → dpV pss 9 j = false)) (fun vi _ => ng - (intOf vi).toNat)
      case atStart => exact ⟨0, rfl, hide ⟨rfl, by omega, fun j hj => by omega⟩⟩
      case round =>
        obtain ⟨i, rfl, HV⟩ := hrel
        obtain ⟨hw, hi, hall⟩ := HV.out
        replace hw := hw.symm
        subst hw
        have hi0 : (0 : Int) ≤ (i : Int) := by omega
        have HALL := hide hall
        clear HV hall
        by_cases hin : i < ng
        · have hin' : (i : Int) < (ng : Int) := by omega
          have oc := HKO.out.cell i
          rw [ilA_at o i (by rw [HDI.out.len]; exact hin)] at oc
          have olt := HKO.out.lt
          have hfin := HDI.out.fin (by omega) i hin
          obtain ⟨x, hx⟩ : ∃ x, o.getD i 0 = x := ⟨_, rfl⟩
          rw [hx] at oc hfin
          have HF := hide hfin
          clear hx hfin
          by_cases h8 : 8 < x
          · have hd : deepB pss = true := by
              unfold deepB
              rw [List.any_eq_true]
              exact ⟨i, by rw [List.mem_range, HPL1.out]; exact hin, by rw [← HF.out]; simpa using h8⟩
            have E0 := HE0.out
            simp only [hd, ↓reduceIte] at E0
            subst E0
            clear hd
            go_wp2_with fail
            go_ret
            exact ⟨rfl, HB4.out⟩
          · have h8' : ¬ 8 < x := h8
            have HA2 := hide (show ∀ j, j < i + 1 → dpV pss 9 j = false from fun j hj => by
              rcases Nat.lt_or_ge j i with h | h
              · exact HALL.out j h
              · rw [show j = i by omega, ← HF.out]; simpa using h8)
            clear h8
            go_wp2_with fail
            go_roundw
            case rel => exact ⟨i + 1, by go_num, hide ⟨by first | rfl | trivial, by omega, HA2.out⟩⟩
            case measure => simp [intOf]; omega
        · have hin' : ¬ (i : Int) < (ng : Int) := by omega
          have hd : deepB pss = false := by
            unfold deepB
            rw [List.any_eq_false]
            intro j hj
            rw [List.mem_range, HPL1.out] at hj
            rw [HALL.out j (by omega)]
            simp
          have E0 := HE0.out
          simp only [hd, ↓reduceIte, Bool.false_eq_true] at E0
          have HE1 := hide E0
          have CC1 := hide (CC.out w3 HB4.out)
          clear hd E0 HE0 CC
          go_wp2_with fail
          refine CC1.out.mono ?_
          rintro e w4 ⟨rfl, h4⟩
          have HB5 := hide (below_t5 HB4.out h4)
          clear h4 CC1
          cases hcb : C11.gooB cs (ng : Int) with
          | true =>
            have E0 := HE1.out
            simp only [hcb, ↓reduceIte] at E0
            subst E0
            clear hcb
            go_wp2_with fail
            go_ret
            exact ⟨rfl, HB5.out⟩
          | false =>
            have E0 := HE1.out
            simp only [hcb, ↓reduceIte, Bool.false_eq_true] at E0
            subst E0
            clear hcb
            go_wp2_with fail
            go_ret
            exact ⟨rfl, HB5.out⟩
end Go.Proofs.YthnpnkiomknkeaaDoor.F12
