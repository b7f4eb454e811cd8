/-
  What the reference's Whole and the law's same answer; the law SfntReads, walked.
-/
import Derived.Test.YtgmmhlpdkoiheaaDoorS8Wh
import Derived.Test.YtgmmhlpdkoiheaaDoorS8Wak
namespace Go.Proofs.YtgmmhlpdkoiheaaDoor
open Go.RowKit Go.Deep
set_option linter.unusedVariables false
set_option linter.unusedSimpArgs false

set_option maxRecDepth 8000 in
set_option maxHeartbeats 2000000 in
theorem rwhole_any (s : ByteArray) (w : World) (hs : s.size ≤ 1000000000) : Calls Tryd.prog 17 #[.string s] w fun e w' => e = .returned (.bool (whoB s)) ∧ Below w.heap.size w w' := by
  have CR := hide (rread_gen s w (by omega))
  obtain ⟨E, hEE⟩ : ∃ E, errV s.data.toList = E := ⟨_, rfl⟩
  obtain ⟨WB, hWB⟩ : ∃ WB, whoB s = WB := ⟨_, rfl⟩
  rw [hWB]
  have HE := hide hEE
  by_cases h0 : E = 0
  case neg =>
    have h0' : (E != 0) = true := by simpa using h0
    have e : WB = false := by rw [← hWB]; unfold whoB; rw [tabV_no (by rw [hEE]; exact h0)]; rfl
    subst e
    clear h0 hEE hWB hs
    go_enter Tryd.func17, Tryd.ntmps17
    go_wp2_with fail
    refine CR.out.mono ?_
    rintro e w1 ⟨v, rfl, hT, hb⟩
    rw [HE.out]
    have HB := hide hb
    clear hT hb
    go_wp2_with fail
    go_ret
    exact ⟨rfl, HB.out⟩
  subst h0
  obtain ⟨n, hn⟩ : ∃ n, nTab s.data.toList = n := ⟨_, rfl⟩
  have her := err_rise hEE
  rw [hn] at her
  obtain ⟨he1, he2, he3, he4⟩ := her
  have hh := he2
  unfold hdB at hh
  rw [Bool.and_eq_true, Bool.and_eq_true, Bool.and_eq_true, Bool.and_eq_true, decide_eq_true_eq, decide_eq_true_eq, decide_eq_true_eq, decide_eq_true_eq, hn] at hh
  obtain ⟨g1, g2, g3, _, g5⟩ := hh
  have hlen : s.data.toList.length = s.size := (Lib.size_eq s).symm
  rw [hlen] at g1 g5 he3 he4
  have HT : Hid (tabV s = (rowsV s.data.toList n).map (tbOf s)) := hide (by unfold tabV; rw [if_pos hEE, hn])
  have HFH := hide (fun k r hr hh => fin_head hEE k r (by rw [hn]; exact hr) hh)
  have HFN := hide (fun hno => fin_nohead hEE (by rw [hn]; exact hno))
  have HOK : Hid (∀ r ∈ rowsV s.data.toList n, r.pl % 4 = 0 ∧ r.pl + r.ln ≤ s.size) := hide (fun r hr => by
    rw [fauG_eq] at he3
    cases e : okG s.size n [] (rowsV s.data.toList n) with
    | false => rw [e] at he3; simp at he3
    | true =>
      have h2 := okG_pl s.size n _ [] e r hr
      unfold plB at h2
      rw [Bool.and_eq_true, Bool.and_eq_true, decide_eq_true_eq, decide_eq_true_eq, decide_eq_true_eq] at h2
      exact ⟨h2.1, h2.2.2⟩)
  have HSZ := hide (And.intro hlen (And.intro g5 (And.intro g3 he4)))
  have HWB := hide hWB
  have hs1 : (s.size : Int) ≤ 1048576 := by omega
  have hn32 : (n : Int) ≤ 32 := by omega
  have HN1 := hide g2
  clear hEE hWB hs hn he1 he2 he3 he4 g1 g2 g3 g5 hlen
  go_enter Tryd.func17, Tryd.ntmps17
  go_wp2_with fail
  refine CR.out.mono ?_
  rintro e w1 ⟨v, rfl, hT, hb⟩
  rw [HE.out]
  have hnl : (tabV s).length = n := by rw [HT.out, List.length_map, rowsV_len]
  obtain ⟨g, cap, hv, hgl, hcell⟩ := hT.at (by rw [hnl]; exact HN1.out)
  rw [hnl] at hv
  subst hv
  rw [HT.out] at hcell
  have HB := hide hb
  have HC := hide hcell
  clear hT hb hcell hnl
  go_wp2_with fail
  go_loop [5] (fun vi => ∃ k : Nat, vi = .int .i64 k ∧ Hid (k ≤ n ∧ ∀ j, j < k → ∀ r, (rowsV s.data.toList n)[j]? = some r → ¬ (isHd r.b0 r.b1 r.b2 r.b3 = true ∧ 12 ≤ (tbOf s r).2.size))) (fun vi => n - (intOf vi).toNat)
  case atStart => exact ⟨0, rfl, hide ⟨by omega, fun j hj => by omega⟩⟩
  case round =>
    obtain ⟨k, rfl, HV⟩ := hrel
    obtain ⟨hk, hall⟩ := HV.out
    have hk0 : (0 : Int) ≤ (k : Int) := by omega
    clear HV
    have HALL := hide hall
    clear hall
    by_cases hlt : k < n
    case neg =>
      have hlt' : ¬ (k : Int) < (n : Int) := by omega
      have e : WB = false := by
        rw [← HWB.out]
        refine HFN.out (fun i r hr => ?_)
        have hi := (List.getElem?_eq_some_iff.1 hr).1
        rw [rowsV_len] at hi
        exact HALL.out i (by omega) r hr
      subst e
      clear HALL hlt HWB
      go_wp2_with fail
      go_ret
      exact ⟨rfl, HB.out⟩
    have hlt' : (k : Int) < (n : Int) := by omega
    have hx := rowsV_at s.data.toList n k hlt
    have hz := HSZ.out
    obtain ⟨A, hA⟩ : ∃ A : Nat, A = 12 + 16 * k := ⟨_, rfl⟩
    have hAi : (12 : Int) + 16 * (k : Int) = (A : Int) := by omega
    unfold rwAt at hx
    rw [← hA] at hx
    obtain ⟨r, hr⟩ : ∃ r, rowV (s.data.toList.drop A) = r := ⟨_, rfl⟩
    have hrn := row_nums s.data.toList A (by omega)
    have hrk := rowV_ok (s.data.toList.drop A)
    rw [hr] at hx hrn hrk
    obtain ⟨c0, c1⟩ := HC.out k (tbOf s r) (by rw [List.getElem?_map, hx]; rfl)
    have hok := HOK.out r (List.mem_of_getElem? hx)
    obtain ⟨b0, b1, b2, b3, sum, pl, ln⟩ := r
    obtain ⟨⟨o1, o2⟩, ⟨o3, o4⟩, ⟨o5, o6⟩⟩ := hrk
    simp only at o1 o2 o3 o4 o5 o6 hrn hok
    obtain ⟨P, rfl⟩ : ∃ P : Nat, pl = (P : Int) := ⟨pl.toNat, by omega⟩
    obtain ⟨Q, rfl⟩ : ∃ Q : Nat, ln = (Q : Int) := ⟨ln.toNat, by omega⟩
    unfold tbOf tgT at c0 c1
    simp only [Int.toNat_natCast] at c0 c1
    have hq := hd_eq b0 b1 b2 b3
    obtain ⟨D, hD⟩ : ∃ D, s.extract P (P + Q) = D := ⟨_, rfl⟩
    rw [hD] at c1
    have hDs : D.size = Q := by rw [← hD, ByteArray.size_extract]; omega
    have hD2 : (tbOf s ⟨b0, b1, b2, b3, sum, (P : Int), (Q : Int)⟩).2 = D := by unfold tbOf; simp only [Int.toNat_natCast]; exact hD
    have hDb : (D.size : Int) ≤ 1048576 := by omega
    obtain ⟨TG, hTG⟩ : ∃ TG, TG = tgS b0 b1 b2 b3 := ⟨_, rfl⟩
    have c0' : w1.cell? ⟨g, k * 2, none⟩ = some (.string TG) := by rw [hTG]; exact c0
    rw [← hTG] at hq
    have HXX := hide hx
    clear c0 hTG hr hx
    cases hi : isHd b0 b1 b2 b3 with
    | false =>
      rw [hi] at hq
      have HNX : Hid (∀ j, j < k + 1 → ∀ r, (rowsV s.data.toList n)[j]? = some r → ¬ (isHd r.b0 r.b1 r.b2 r.b3 = true ∧ 12 ≤ (tbOf s r).2.size)) := hide (fun j hj q hqq => by
        rcases Nat.lt_or_ge j k with h' | h'
        · exact HALL.out j h' q hqq
        · obtain rfl : j = k := by omega
          rw [HXX.out] at hqq; injection hqq with hqq; rw [← hqq]; simp only; rw [hi]; simp)
      clear HALL HXX hi hrn hok hz hA hD hD2 hDs
      go_wp2_with fail
      go_round
      case rel => exact ⟨k + 1, by go_num, hide ⟨by omega, HNX.out⟩⟩
      case measure => simp [intOf]; omega
    | true =>
    rw [hi] at hq
    by_cases h12 : 12 ≤ D.size
    case neg =>
      have h12' : ¬ (12 : Int) ≤ (D.size : Int) := by omega
      have HNX : Hid (∀ j, j < k + 1 → ∀ r, (rowsV s.data.toList n)[j]? = some r → ¬ (isHd r.b0 r.b1 r.b2 r.b3 = true ∧ 12 ≤ (tbOf s r).2.size)) := hide (fun j hj q hqq => by
        rcases Nat.lt_or_ge j k with h' | h'
        · exact HALL.out j h' q hqq
        · obtain rfl : j = k := by omega
          rw [HXX.out] at hqq; injection hqq with hqq; rw [← hqq, hD2]; exact fun h => h12 h.2)
      clear HALL HXX hi hrn hok hz hA hD hD2 hDs h12
      go_wp2_with fail
      go_round
      case rel => exact ⟨k + 1, by go_num, hide ⟨by omega, HNX.out⟩⟩
      case measure => simp [intOf]; omega
    have h12' : (12 : Int) ≤ (D.size : Int) := by omega
    have CP := hide (show ∀ z w, z = ((A + 8 : Nat) : Int) → Calls Tryd.prog 30 #[.string s, .int .i64 z] w fun e w' => e = .returned (.int .i64 (P : Int)) ∧ ∃ n, w' = w.drewN n from fun z w hz2 => by
      have h := ru4_any s (A + 8) z w hz2 (by omega) (by omega)
      rw [← hrn.2.1] at h
      exact h)
    obtain ⟨X, hX⟩ : ∃ X, n4 s.data.toList (P + 8) = X := ⟨_, rfl⟩
    have CX := hide (fun z w (hz2 : z = ((P + 8 : Nat) : Int)) => ru4_any s (P + 8) z w hz2 (by omega) (by omega))
    rw [hX] at CX
    obtain ⟨ZS, hZS⟩ : ∃ ZS, s.extract 0 (P + 8) ++ (⟨#[0, 0, 0, 0]⟩ : ByteArray) ++ s.extract (P + 12) s.size = ZS := ⟨_, rfl⟩
    have z1 : (s.extract 0 (P + 8)).size = P + 8 := by rw [ByteArray.size_extract]; omega
    have z2 : (s.extract (P + 12) s.size).size ≤ s.size := by rw [ByteArray.size_extract]; omega
    have zl : ZS.size ≤ 3000000 := by
      rw [← hZS, ByteArray.size_append, ByteArray.size_append, z1]
      show P + 8 + 4 + _ ≤ _
      omega
    have a1 : ∀ w, (Op.stringOp .add (s.extract 0 (P + 8)) (⟨#[0, 0, 0, 0]⟩ : ByteArray)).run Tryd.prog w = .ok (.string (s.extract 0 (P + 8) ++ ⟨#[0, 0, 0, 0]⟩)) w := fun w => run_string_add_sum (P := Tryd.prog) w _ _ (by rw [z1]; show P + 8 + 4 ≤ _; omega)
    have a2 : ∀ w, (Op.stringOp .add (s.extract 0 (P + 8) ++ ⟨#[0, 0, 0, 0]⟩) (s.extract (P + 12) s.size)).run Tryd.prog w = .ok (.string ZS) w := fun w => by
      rw [← hZS]
      exact run_string_add_sum (P := Tryd.prog) w _ _ (by rw [ByteArray.size_append, z1]; show P + 8 + 4 + _ ≤ _; omega)
    have hzt : ZS.data.toList = s.data.toList.take (P + 8) ++ ([0, 0, 0, 0] ++ s.data.toList.drop (P + 12)) := by
      rw [← hZS, ByteArray.data_append, ByteArray.data_append, Array.toList_append, Array.toList_append, slice_list _ _ _ (by omega), slice_list _ _ _ (Nat.le_refl _), List.drop_zero, List.append_assoc]
      rw [List.take_of_length_le (l := List.drop (P + 12) s.data.toList) (by rw [List.length_drop]; omega)]
      rfl
    obtain ⟨Sz, hSz⟩ : ∃ Sz, sumV ZS.data.toList = Sz := ⟨_, rfl⟩
    have CZ := hide (fun w => rsum_any ZS w (by omega))
    rw [hSz] at CZ
    have hS1 : Sz < 4294967296 := by rw [← hSz]; exact sumV_lt _
    have hsz := sum_zero s.data.toList P (by omega) (by omega)
    rw [← hzt, hSz, hX] at hsz
    have hX1 : X < 4294967296 := by rw [← hX]; exact n4_lt _ _
    have hown := own_iff X Sz (sumV s.data.toList) hX1 hsz hS1
    have eW : WB = decide (sumV s.data.toList = 2981146554) := by
      rw [← HWB.out]
      unfold whoB
      rw [HFH.out k _ HXX.out hi, hD2]
      unfold whV
      simp only
      rw [show decide (12 ≤ D.size) = true by simpa using h12, Bool.true_and]
    rw [← eW] at hown
    have ha := and_32n (2981146554 - (Sz : Int))
    obtain ⟨Y, hY⟩ : ∃ Y : Int, (2981146554 - (Sz : Int)) % 4294967296 = Y := ⟨_, rfl⟩
    rw [hY] at ha hown
    have hY0 : 0 ≤ Y := by rw [← hY]; exact Int.emod_nonneg _ (by decide)
    have hY1 : Y < 4294967296 := by rw [← hY]; exact Int.emod_lt_of_pos _ (by decide)
    have HOWN := hide hown
    have s0 : (0 : Int) ≤ (Sz : Int) := by omega
    have s1 : (Sz : Int) ≤ 4294967295 := by omega
    have w2 : IntKind.i64.wrap (2981146554 - (Sz : Int)) = 2981146554 - (Sz : Int) := by rw [IntKind.wrap_i64]; omega
    have w3 : IntKind.i64.wrap ((P : Int) + 8) = (P : Int) + 8 := by rw [IntKind.wrap_i64]; omega
    have w4 : IntKind.i64.wrap ((P : Int) + 12) = (P : Int) + 12 := by rw [IntKind.wrap_i64]; omega
    have t1 : ((P : Int) + 8).toNat = P + 8 := by omega
    have t2 : ((P : Int) + 12).toNat = P + 12 := by omega
    have t3 : (P : Int) + 8 ≤ (s.size : Int) := by omega
    have t4 : (P : Int) + 12 ≤ (s.size : Int) := by omega
    have t5 : P + 8 ≤ s.size := by omega
    have t6 : P + 12 ≤ s.size := by omega
    have t7 : (0 : Int) ≤ (P : Int) + 8 := by omega
    have t8 : (0 : Int) ≤ (P : Int) + 12 := by omega
    have hA1 : (A : Int) ≤ 1000 := by omega
    have hA0 : (0 : Int) ≤ (A : Int) := by omega
    have hP1 : (P : Int) ≤ 1048576 := by omega
    generalize s.extract 0 (P + 8) ++ ⟨#[0, 0, 0, 0]⟩ = R1 at a1 a2
    clear hown eW hsz hS1 hX1 hSz hzt hZS z1 z2 zl hX hi hrn hok hz hA hD hD2 hDs h12 HALL HXX hY
    go_wp2_with fail
    refine (CP.out _ _ (by omega)).mono ?_
    rintro e wy ⟨rfl, m, hy⟩
    subst wy
    have HBV := hide (below_drewN HB.out m)
    generalize w1.drewN m = V at HBV ⊢
    go_wp2_with fail
    rename_i kk1
    have HA := hide kk1
    clear kk1
    go_quiet ((first | (go_at_call 30; exact Calls.quiet_of (CX.out _ _ (by omega))) | (go_at_call 11; exact Calls.quiet_of_same (CZ.out _))))
    refine HA.out _ _ ?_
    go_wp2_with fail
    go_ret
    exact ⟨by rw [← HOWN.out]; rfl, below_drewN HBV.out _⟩
theorem tsame_any (a b : Option Addr) (l : List Tab) (n ca cb : Nat) (w : World) (hn : l.length = n) (hm : n ≤ 1048576) (hA : TLst w a l) (hB : TLst w b l) :
    Calls Tryd.prog 15 #[.slice a n ca, .slice b n cb] w fun e w' => e = .returned (.bool true) ∧ ∃ m, w' = w.drewN m := by
  have HA := hide hA
  have HB := hide hB
  have HN := hide hn
  have h5 : (n : Int) ≤ 1048576 := by omega
  have t0 : ((n : Int) != (n : Int)) = false := by simp
  clear hA hB hn hm
  go_enter Tryd.func15, Tryd.ntmps15
  go_wp2_with fail
  go_loopw [5] (fun vi wr => ∃ (k m : Nat), vi = .int .i64 k ∧ wr = w.drewN m ∧ Hid (k ≤ n)) (fun vi _ => n - (intOf vi).toNat)
  case atStart => exact ⟨0, 0, rfl, rfl, hide (by omega)⟩
  case round =>
    obtain ⟨k, m, rfl, rfl, HK⟩ := hrel
    by_cases hlt : k < n
    · have hlt' : (k : Int) < (n : Int) := by omega
      have hl := HN.out
      obtain ⟨x, hx⟩ : ∃ x, l[k]? = some x := ⟨_, List.getElem?_eq_getElem (by omega)⟩
      rcases HA.out with hz | ⟨p, po, rfl, hp, hcp⟩
      · rw [hz] at hl; simp at hl; omega
      rcases HB.out with hz | ⟨q, qo, rfl, hq, hcq⟩
      · rw [hz] at hl; simp at hl; omega
      obtain ⟨c0, c1⟩ := hcp k x hx
      obtain ⟨d0, d1⟩ := hcq k x hx
      obtain ⟨x1, x2⟩ := x
      clear hcp hcq hl hx
      go_wp2_with fail
      go_quiet (fail)
      go_wp2
      go_roundw
      case rel => exact ⟨k + 1, _, by go_num, rfl, hide (by omega)⟩
      case measure => simp [intOf]; omega
    · have hlt' : ¬ (k : Int) < (n : Int) := by omega
      go_wp2
      go_ret
      exact ⟨rfl, m, rfl⟩
set_option maxRecDepth 8000 in
set_option maxHeartbeats 1000000 in
theorem reads_core (s : ByteArray) (w : World) (hg : Glo8 w) (hs : s.size ≤ maxLen) :
    Calls Tryd.prog 5 #[.string s] w fun e w' => e = .returned (.bool true) ∧ Below w.heap.size w w' := by
  unfold maxLen at hs
  have CW := hide (fun w hg => wakes8_any w hg)
  have hs0 : (s.size : Int) ≤ 9223372036854775807 := by omega
  have HG := hide hg
  by_cases hm : s.size ≤ 20000
  case neg =>
    have hm' : (20000 : Int) < (s.size : Int) := by omega
    clear hm hs hg
    go_enter Tryd.func5, Tryd.ntmps5
    go_wp2_with (go_at_call 9; refine (CW.out _ HG.out).mono ?_; rintro e w1 ⟨rfl, h1⟩)
    go_ret
    exact ⟨rfl, h1⟩
  have hm' : ¬ (20000 : Int) < (s.size : Int) := by omega
  have C1 := hide (read_gen s w hg (by omega))
  have C2 := hide (fun w => rread_gen s w (by omega))
  have C3 := hide (fun w hg => whole_any s w hg (by omega))
  have C4 := hide (fun w => rwhole_any s w (by omega))
  have CS := hide (fun a b ca cb w hA hB => tsame_any a b (tabV s) (tabV s).length ca cb w rfl (by have := tabV_len s; omega) hA hB)
  have hE : errV s.data.toList = errV s.data.toList := rfl
  obtain ⟨E, hEE⟩ : ∃ E, errV s.data.toList = E := ⟨_, rfl⟩
  have HE := hide hEE
  generalize whoB s = WB at C3 C4
  clear hm hs hg hE hEE
  go_enter Tryd.func5, Tryd.ntmps5
  go_wp2_with fail
  refine C1.out.mono ?_
  rintro e w1 ⟨v, rfl, hT, hb⟩
  rw [HE.out]
  have HB1 := hide hb
  have HT1 := hide hT
  clear hT hb
  go_wp2_with fail
  refine (C2.out _).mono ?_
  rintro e w2 ⟨v2, rfl, hT2, hb2⟩
  rw [HE.out]
  have hT1 := HT1.out.later hb2
  obtain ⟨a, ca, rfl, hL1⟩ := hT1.lst
  obtain ⟨b, cb, rfl, hL2⟩ := hT2.lst
  have HB2 := hide (below_t5 HB1.out hb2)
  have CS2 := hide (CS.out a b ca cb w2 hL1 hL2)
  clear hT1 hT2 hb2 hL1 hL2 HT1
  generalize (tabV s).length = N at CS2
  go_wp2_with fail
  refine CS2.out.mono ?_
  rintro e w3 ⟨rfl, m, hw3⟩
  subst hw3
  have HB3 := hide (below_drewN HB2.out m)
  go_wp2_with fail
  refine (C3.out _ (HG.out.below HB3.out)).mono ?_
  rintro e w4 ⟨rfl, hb4⟩
  have HB4 := hide (below_t5 HB3.out hb4)
  clear hb4
  go_wp2_with fail
  refine (C4.out _).mono ?_
  rintro e w5 ⟨rfl, hb5⟩
  have HB5 := hide (below_t5 HB4.out hb5)
  clear hb5
  go_wp2_with fail
  refine (CW.out _ (HG.out.below HB5.out)).mono ?_
  rintro e w6 ⟨rfl, hb6⟩
  have HB6 := hide (below_t5 HB5.out hb6)
  clear hb6
  go_wp2_with fail
  go_ret
  exact ⟨rfl, HB6.out⟩
end Go.Proofs.YtgmmhlpdkoiheaaDoor
