/-
  The law SfntBack, walked.
-/
import Derived.Test.YtgmmhlpdkoiheaaDoorBT
import Derived.Test.YtgmmhlpdkoiheaaDoorS8Wr
import Derived.Test.YtgmmhlpdkoiheaaDoorS8Wak
import Derived.WalkLawsBesides
namespace Go.Proofs.YtgmmhlpdkoiheaaDoor
open Go.RowKit Go.Deep
set_option linter.unusedVariables false
set_option linter.unusedSimpArgs false

/- what is asked of each table that is read -/
theorem back_facts (l m : List Tab) (n i : Nat) (hgo : goM m) (hn : m.length = n) (hp : m.Perm l) (hi : i < n) :
    ∃ (t d e : ByteArray), bkS m n i = (t, e) ∧ finV l t = some d ∧ e.size = d.size ∧ d.size = (m.getD i tz).2.size ∧ isH m i = (eqS t ⟨#[104, 101, 97, 100]⟩ && decide (12 ≤ d.size)) ∧
      (isH m i = false → d = e) ∧ (isH m i = true → 12 ≤ d.size ∧ d.extract 0 8 ++ e.extract 8 12 ++ d.extract 12 d.size = e) ∧
      (∀ j, i = j + 1 → ∃ t', (bkS m n j).1 = t' ∧ Op.bytesLess t'.toList t.toList = true) := by
  have hil : i < m.length := by omega
  have hg := getD_some m i hil
  have hst := ((go_iff m).1 hgo).2
  have hpw : l.Pairwise fun x y => x.1 ≠ y.1 := by
    have := st_pw hst
    exact (hp.pairwise_iff (fun {a b} h e => h e.symm)).1 this
  refine ⟨_, (m.getD i tz).2, _, rfl, ?_, ?_, rfl, rfl, ?_, ?_, ?_⟩
  · exact fin_of l hpw (m.getD i tz) (hp.subset (by rw [hg]; exact List.getElem_mem hil))
  · rw [Lib.size_eq]; exact bkD_len m n i
  · intro h
    apply bs_ext
    show _ = bkD m n i
    unfold bkD
    rw [h]; rfl
  · intro h
    have h' := h
    unfold isH at h'
    rw [Bool.and_eq_true, decide_eq_true_eq] at h'
    refine ⟨h'.2, ?_⟩
    have hbl := bkD_len m n i
    have hes : (⟨(bkD m n i).toArray⟩ : ByteArray).size = (m.getD i tz).2.size := by rw [Lib.size_eq]; exact hbl
    apply bs_ext
    rw [ByteArray.data_append, ByteArray.data_append, Array.toList_append, Array.toList_append, slice_list _ _ _ (by omega), slice_list _ _ _ (by rw [hes]; omega), slice_list _ _ _ (Nat.le_refl _)]
    show _ = bkD m n i
    have e0 : (⟨(bkD m n i).toArray⟩ : ByteArray).data.toList = bkD m n i := rfl
    rw [e0]
    unfold bkD
    rw [if_pos h]
    have hl8 : ((m.getD i tz).2.data.toList.take 8).length = 8 := by rw [List.length_take, ← Lib.size_eq]; omega
    rw [List.drop_zero, List.drop_left' hl8, List.take_left' (nu_len m n), List.take_of_length_le (l := List.drop 12 _) (by rw [List.length_drop, ← Lib.size_eq]; omega), List.append_assoc]
  · intro j hj
    subst hj
    refine ⟨_, rfl, ?_⟩
    have := (List.pairwise_iff_getElem.1 hst) j (j + 1) (by omega) hil (by omega)
    show Op.bytesLess (m.getD j tz).1.toList (m.getD (j + 1) tz).1.toList = true
    rw [getD_some m j (by omega), getD_some m (j + 1) hil]
    exact this
theorem any_succ (f : Nat → Bool) (k : Nat) : (List.range (k + 1)).any f = ((List.range k).any f || f k) := by
  rw [List.range_succ, List.any_append]; simp
theorem cat8b (a b : ByteArray) (h : a.size + b.size ≤ 10000000) : ∀ w, (Op.stringOp .add a b).run Tryd.prog w = .ok (.string (a ++ b)) w := fun w => run_string_add_sum (P := Tryd.prog) w a b (by omega)
set_option maxRecDepth 20000 in
set_option maxHeartbeats 8000000 in
theorem back_walk (a : Option Addr) (n c : Nat) (l : List Tab) (w : World) (hT : TIn w a n l) (hG : Glo8 w) :
    Calls Tryd.prog 7 #[.slice a n c] w fun e w' => e = .returned (.bool true) ∧ Below w.heap.size w w' := by
  have CLg := hide (long_any a l n c w hT)
  have CW := hide (fun w hg => wakes8_any w hg)
  have HT := hide hT
  have HG := hide hG
  have hnm : (n : Int) ≤ 4398046511104 := by have := hT.most; omega
  clear hT hG
  go_enter Tryd.func7, Tryd.ntmps7
  go_wp2_with fail
  refine CLg.out.mono ?_
  rintro e w1 ⟨B, rfl, hB, m1, rfl⟩
  have HW1 := hide (below_drewN (Below.refl w.heap.size w) m1)
  cases B with
  | true =>
    clear hB
    go_wp2_with (go_at_call 9; refine (CW.out _ (HG.out.below HW1.out)).mono ?_; rintro e w2 ⟨rfl, h2⟩)
    go_ret
    exact ⟨rfl, below_t5 HW1.out h2⟩
  | false =>
    obtain ⟨hn4, hx4⟩ := hB rfl
    clear hB
    generalize w.drewN m1 = w1 at HW1 ⊢
    obtain ⟨g, c', w2, hr, t2, b2⟩ := app_tabs w1 a n c w1.heap.size l HT.out.len (by omega) (HT.out.lst.below HW1.out) rfl
    have HRU := hide hr
    have HB2 := hide (below_t5 HW1.out b2)
    have HTA := hide ((HT.out.lst.below HW1.out).below b2)
    have hzz : ∀ x ∈ l, x.1.size ≤ 1073741824 ∧ x.2.size ≤ 1073741824 := fun x hx => by have := hx4 x hx; omega
    have C1 := hide (build_any (some ⟨g, 0, none⟩) l n c' w2 HT.out.len (by omega) hzz t2 (HG.out.below HB2.out))
    unfold BuR at C1
    have HX4 := hide hx4
    have hn40 : (n : Int) ≤ 20000 := by omega
    clear hr t2 b2 hx4 hzz
    by_cases hE : bErr l = 0
    case neg =>
      have hbt : btS l = ⟨#[]⟩ := by unfold btS; rw [if_neg hE]
      have hE2 : bErr l = 80 ∨ bErr l = 2 := by
        unfold bErr at hE ⊢
        split
        · exact Or.inl rfl
        · split
          · split
            · exact Or.inr rfl
            · rename_i h1 h2 h3
              rw [if_neg h1, if_pos h2, if_neg h3] at hE
              exact absurd rfl hE
          · exact Or.inl rfl
      rw [hbt] at C1
      clear hbt hE
      rcases hE2 with e | e
      · rw [e] at C1
        clear e
        go_wp2_with (at_builtin; refine Lib.wpList_append_run _ rfl _ _ _ _ rfl _ _ rfl rfl _ _ HRU.out ?_)
        refine C1.out.mono ?_
        rintro e w3 ⟨rfl, h3⟩
        have HB3 := hide (below_t5 HB2.out h3)
        clear h3
        go_wp2_with (go_at_call 9; refine (CW.out _ (HG.out.below HB3.out)).mono ?_; rintro e w4 ⟨rfl, h4⟩)
        go_ret
        exact ⟨rfl, below_t5 HB3.out h4⟩
      · rw [e] at C1
        clear e
        go_wp2_with (at_builtin; refine Lib.wpList_append_run _ rfl _ _ _ _ rfl _ _ rfl rfl _ _ HRU.out ?_)
        refine C1.out.mono ?_
        rintro e w3 ⟨rfl, h3⟩
        have HB3 := hide (below_t5 HB2.out h3)
        clear h3
        go_wp2_with (go_at_call 9; refine (CW.out _ (HG.out.below HB3.out)).mono ?_; rintro e w4 ⟨rfl, h4⟩)
        go_ret
        exact ⟨rfl, below_t5 HB3.out h4⟩
    obtain ⟨hgo, hm, hsz, hn1, hn2⟩ := ok_facts hE
    obtain ⟨m, hmm⟩ : ∃ m, sorV l = m := ⟨_, rfl⟩
    rw [hmm] at hgo hm hsz
    rw [HT.out.len] at hm hsz hn1 hn2
    have hperm : m.Perm l := by rw [← hmm]; exact sor_perm l
    have hbt : btS l = ⟨(txtV m).toArray⟩ := by unfold btS; rw [if_pos hE, hmm]
    rw [hbt, hE] at C1
    have hF1 := txt_err hgo hm hn1 hn2 hsz
    have hF2 := txt_tab hgo hm hn1 hn2 hsz
    have hF3 := bk_again hgo hm hn1 hn2 hsz
    have hF4 := txt_who hgo hm hn1 hn2 hsz
    have hlen : (⟨(txtV m).toArray⟩ : ByteArray).size = plT m n := by
      rw [Lib.size_eq]; exact (txt_both hgo hm).1.len
    have hbd : ∀ x ∈ bkM m n, x.1.size ≤ 1073741824 ∧ x.2.size ≤ 1073741824 := fun x hx => by
      unfold bkM at hx
      obtain ⟨k, hk, rfl⟩ := List.mem_map.1 hx
      have hk := List.mem_range.1 hk
      have h1 : (bkS m n k).1.size = 4 := h4_of hgo hm hk
      have h2 : (bkS m n k).2.size = (m.getD k tz).2.size := by rw [Lib.size_eq]; exact bkD_len m n k
      have h3 := pl_le' m hk
      omega
    have HBF := hide (fun i (hi : i < n) => back_facts l m n i hgo hm hperm hi)
    have HBD := hide (fun i (hi : i < n) => (hbd (bkS m n i) (List.mem_of_getElem? (bk_at m n i hi))))
    have HAT := hide (fun i (hi : i < n) => bk_at m n i hi)
    have HPL := hide (fun i (hi : i < n) => show (m.getD i tz).2.size ≤ 1048576 by have := pl_le' m hi; omega)
    obtain ⟨TX, hTX⟩ : ∃ T : ByteArray, (⟨(txtV m).toArray⟩ : ByteArray) = T := ⟨_, rfl⟩
    have hF1' : errV TX.data.toList = 0 := by rw [← hTX]; exact hF1
    rw [hTX] at C1 hF2 hF3 hF4 hlen
    have CR := hide (fun w hg => read_gen TX w hg (by rw [hlen]; omega))
    have CWh := hide (fun w hg => whole_any TX w hg (by rw [hlen]; omega))
    unfold RdR at CR
    rw [hF1', hF2] at CR
    rw [hF4] at CWh
    have CB2 := hide (fun (b : Option Addr) c w (hL : TLst w b (bkM m n)) hg => build_any b (bkM m n) n c w (bk_len m n) (by omega) hbd hL hg)
    unfold BuR at CB2
    rw [hF3.1, hF3.2] at CB2
    have CFi := hide (fun t w (hL : TLst w a l) => rfind_any a l n c t w HT.out.len (by omega) hL)
    have HAN := hide (any_succ (isH m))
    have HBL := hide (bk_len m n)
    clear hF1 hF1' hF2 hF3 hF4 hbt hlen hbd hgo hm hsz hperm hmm hE hTX hn2
    go_wp2_with (at_builtin; refine Lib.wpList_append_run _ rfl _ _ _ _ rfl _ _ rfl rfl _ _ HRU.out ?_)
    refine C1.out.mono ?_
    rintro e w3 ⟨rfl, h3⟩
    have HB3 := hide (below_t5 HB2.out h3)
    have HTA3 := hide (HTA.out.below h3)
    clear h3 HTA
    go_wp2_with fail
    refine (CR.out _ (HG.out.below HB3.out)).mono ?_
    rintro e w4 ⟨v, rfl, hTv, h4⟩
    have HB4 := hide (below_t5 HB3.out h4)
    have HTA4 := hide (HTA3.out.below h4)
    obtain ⟨bq, cq, hv, hTL⟩ := hTv.lst
    rw [HBL.out] at hv
    subst hv
    have hTL' : TLst w4 bq (bkM m n) := hTL
    rcases hTL with hz | ⟨b, off, rfl, hbl, hcell⟩
    · have := HBL.out
      rw [hz] at this
      simp at this
      omega
    have HTL := hide hTL'
    have HC := hide (show ∀ u, Below w4.heap.size w4 u → ∀ i x, (bkM m n)[i]? = some x → u.cell? ⟨b, off + i * 2, none⟩ = some (.string x.1) ∧ u.cell? ⟨b, off + i * 2 + 1, none⟩ = some (.string x.2) from fun u hu i x hx => by
      rw [hu.cell (p := ⟨b, off + i * 2, none⟩) hbl, hu.cell (p := ⟨b, off + i * 2 + 1, none⟩) hbl]
      exact hcell i x hx)
    clear hTv h4 hTL' hcell HTA3
    obtain ⟨HD, hHD⟩ : ∃ HD : Nat → Bool, HD = fun k => (List.range k).any (isH m) := ⟨_, rfl⟩
    have HHD := hide hHD
    rw [show (List.range n).any (isH m) = HD n by rw [hHD]] at CWh
    clear hHD
    go_wp2_with fail
    go_loopw [7, 8] (fun vh vi wr => ∃ (k q : Nat), vi = .int .i64 k ∧ vh = .bool (HD k) ∧ wr = w4.drewN q ∧ Hid (k ≤ n)) (fun _ vi _ => n - (intOf vi).toNat)
    case atStart => exact ⟨0, 0, rfl, by rw [HHD.out]; rfl, rfl, hide (by omega)⟩
    case round =>
      obtain ⟨k, q, rfl, rfl, rfl, HV⟩ := hrel
      have hk := HV.out
      have hk0 : (0 : Int) ≤ (k : Int) := by omega
      clear HV
      have HBq := hide (below_drewN (Below.refl w4.heap.size w4) q)
      by_cases hlt : k < n
      case neg =>
        obtain rfl : n = k := by omega
        have hlt' : ¬ (n : Int) < (n : Int) := by omega
        generalize w4.drewN q = w5 at HBq ⊢
        obtain ⟨g5, c5, w6, hr6, t6, b6⟩ := app_tabs w5 (some ⟨b, off, none⟩) n cq w5.heap.size (bkM m n) HBL.out (by omega) (HTL.out.below HBq.out) rfl
        have HR6 := hide hr6
        have HB6 := hide (below_t5 HB4.out (below_t5 HBq.out b6))
        have CB3 := hide (CB2.out (some ⟨g5, 0, none⟩) c5 w6 t6 (HG.out.below HB6.out))
        clear hr6 t6 b6 hk hlt
        go_wp2_with (at_builtin; refine Lib.wpList_append_run _ rfl _ _ _ _ rfl _ _ rfl rfl _ _ HR6.out ?_)
        refine CB3.out.mono ?_
        rintro e w7 ⟨rfl, h7⟩
        have HB7 := hide (below_t5 HB6.out h7)
        clear h7
        go_wp2_with fail
        refine (CWh.out _ (HG.out.below HB7.out)).mono ?_
        rintro e w8 ⟨rfl, h8⟩
        have HB8 := hide (below_t5 HB7.out h8)
        clear h8
        go_wp2_with fail
        refine (CW.out _ (HG.out.below HB8.out)).mono ?_
        rintro e w9 ⟨rfl, h9⟩
        have HB9 := hide (below_t5 HB8.out h9)
        clear h9
        go_wp2_with fail
        go_ret
        exact ⟨rfl, HB9.out⟩
      have hlt' : (k : Int) < (n : Int) := by omega
      obtain ⟨t, d, e, hbk, hfin, hes, hds, hiH, hno, hyes, hprev⟩ := HBF.out k hlt
      have hat := HAT.out k hlt
      rw [hbk] at hat
      obtain ⟨c0, c1⟩ := HC.out _ (Below.refl _ _) k _ hat
      simp only at c0 c1
      obtain ⟨z1, z2⟩ := HBD.out k hlt
      rw [hbk] at z1 z2
      simp only at z1 z2
      have hfi := CFi.out t (w4.drewN q) (HTA4.out.below HBq.out)
      rw [hfin] at hfi
      have CF := hide (show Calls Tryd.prog 22 #[.slice a n c, .string t] (w4.drewN q) fun e w' => e = .returned (.tuple #[.string d, .bool true]) ∧ w' = w4.drewN q from hfi)
      have HDS := hide (show d.size ≤ 1048576 by have := HPL.out k hlt; omega)
      have zd : (d.size : Int) ≤ 1073741824 := by omega
      have ze : (e.size : Int) ≤ 1073741824 := by omega
      have hne : ((d.size : Int) != (e.size : Int)) = false := by rw [hes]; simp
      have hHD1 : HD (k + 1) = (HD k || isH m k) := by rw [HHD.out]; exact HAN.out k
      clear hfi hfin hds hat hbk z1 z2
      by_cases hk1 : 0 < k
      case neg =>
        have hk1' : ¬ (0 : Int) < (k : Int) := by omega
        have hk1n : ¬ 0 < k := by omega
        have hk1d : decide (0 < k) = false := by rw [decide_eq_false_iff_not]; omega
        clear hprev hk hk1
        cases hH : isH m k with
        | false =>
          rw [hH, Bool.or_false] at hHD1
          have HHD1 := hide hHD1
          obtain rfl := hno hH
          rw [hH] at hiH
          clear hno hyes hHD1 hes
          cases hq : eqS t ⟨#[104, 101, 97, 100]⟩ with
          | false =>
            have hq' : (t.toList == [104, 101, 97, 100]) = false := by rw [← eqS_hd]; exact hq
            clear hq hiH hH
            go_wp2_with fail
            refine CF.out.mono ?_
            rintro e9 w9 ⟨rfl, hw9⟩
            replace hw9 := hw9.symm
            subst hw9
            go_wp2_with fail
            go_quiet (fail)
            go_wp2_with fail
            go_roundw
            case rel => exact ⟨k + 1, _, by go_num, by rw [HHD1.out], rfl, hide (by omega)⟩
            case measure => simp [intOf]; omega
          | true =>
            have hq' : (t.toList == [104, 101, 97, 100]) = true := by rw [← eqS_hd]; exact hq
            rw [hq, Bool.true_and] at hiH
            have h12 : ¬ (12 : Int) ≤ (d.size : Int) := by
              have := hiH.symm
              simp at this
              omega
            clear hq hiH hH
            go_wp2_with fail
            refine CF.out.mono ?_
            rintro e9 w9 ⟨rfl, hw9⟩
            replace hw9 := hw9.symm
            subst hw9
            go_wp2_with fail
            go_quiet (fail)
            go_wp2_with fail
            go_roundw
            case rel => exact ⟨k + 1, _, by go_num, by rw [HHD1.out], rfl, hide (by omega)⟩
            case measure => simp [intOf]; omega
        | true =>
          rw [hH, Bool.or_true] at hHD1
          have HHD1 := hide hHD1
          obtain ⟨h12, hcat⟩ := hyes hH
          rw [hH] at hiH
          replace hiH := hiH.symm
          rw [Bool.and_eq_true] at hiH
          have hq' : (t.toList == [104, 101, 97, 100]) = true := by rw [← eqS_hd]; exact hiH.1
          have h12' : (12 : Int) ≤ (d.size : Int) := by omega
          have h12e : (12 : Int) ≤ (e.size : Int) := by omega
          have a1 := cat8b (d.extract 0 8) (e.extract 8 12) (by rw [ByteArray.size_extract, ByteArray.size_extract]; omega)
          have a2 := cat8b (d.extract 0 8 ++ e.extract 8 12) (d.extract 12 d.size) (by rw [ByteArray.size_append, ByteArray.size_extract, ByteArray.size_extract, ByteArray.size_extract]; have := HDS.out; omega)
          rw [hcat] at a2
          generalize d.extract 0 8 ++ e.extract 8 12 = P1 at a1 a2
          clear hno hyes hHD1 hes hiH hH hcat h12
          go_wp2_with fail
          refine CF.out.mono ?_
          rintro e9 w9 ⟨rfl, hw9⟩
          replace hw9 := hw9.symm
          subst hw9
          go_wp2_with fail
          go_quiet (fail)
          go_wp2_with fail
          go_quiet (fail)
          go_wp2_with fail
          go_roundw
          case rel => exact ⟨k + 1, _, by go_num, by rw [HHD1.out], rfl, hide (by omega)⟩
          case measure => simp [intOf]; omega
      obtain ⟨j, rfl⟩ : ∃ j, k = j + 1 := ⟨k - 1, by omega⟩
      obtain ⟨t', ht', hls⟩ := hprev j rfl
      obtain ⟨d0, d1⟩ := HC.out _ (Below.refl _ _) j _ (HAT.out j (by omega))
      rw [ht'] at d0
      have hk1' : (0 : Int) < (j : Int) + 1 := by omega
      have hj0 : (0 : Int) ≤ (j : Int) := by omega
      have hj1 : (j : Int) + 1 < (n : Int) := by omega
      have hle : (Op.bytesLess t.toList t'.toList || t.toList == t'.toList) = false := by rw [less_total, hls]; rfl
      clear hprev ht' d1 hls hk1
      cases hH : isH m (j + 1) with
      | false =>
        rw [hH, Bool.or_false] at hHD1
        have HHD1 := hide hHD1
        obtain rfl := hno hH
        rw [hH] at hiH
        clear hno hyes hHD1 hes
        cases hq : eqS t ⟨#[104, 101, 97, 100]⟩ with
        | false =>
          have hq' : (t.toList == [104, 101, 97, 100]) = false := by rw [← eqS_hd]; exact hq
          clear hq hiH hH
          go_wp2_with fail
          refine CF.out.mono ?_
          rintro e9 w9 ⟨rfl, hw9⟩
          replace hw9 := hw9.symm
          subst hw9
          go_wp2_with fail
          go_quiet (fail)
          go_wp2_with fail
          go_roundw
          case rel => exact ⟨(j + 1) + 1, _, by go_num, by rw [HHD1.out], rfl, hide (by omega)⟩
          case measure => simp [intOf]; omega
        | true =>
          have hq' : (t.toList == [104, 101, 97, 100]) = true := by rw [← eqS_hd]; exact hq
          rw [hq, Bool.true_and] at hiH
          have h12 : ¬ (12 : Int) ≤ (d.size : Int) := by
            have := hiH.symm
            simp at this
            omega
          clear hq hiH hH
          go_wp2_with fail
          refine CF.out.mono ?_
          rintro e9 w9 ⟨rfl, hw9⟩
          replace hw9 := hw9.symm
          subst hw9
          go_wp2_with fail
          go_quiet (fail)
          go_wp2_with fail
          go_roundw
          case rel => exact ⟨(j + 1) + 1, _, by go_num, by rw [HHD1.out], rfl, hide (by omega)⟩
          case measure => simp [intOf]; omega
      | true =>
        rw [hH, Bool.or_true] at hHD1
        have HHD1 := hide hHD1
        obtain ⟨h12, hcat⟩ := hyes hH
        rw [hH] at hiH
        replace hiH := hiH.symm
        rw [Bool.and_eq_true] at hiH
        have hq' : (t.toList == [104, 101, 97, 100]) = true := by rw [← eqS_hd]; exact hiH.1
        have h12' : (12 : Int) ≤ (d.size : Int) := by omega
        have h12e : (12 : Int) ≤ (e.size : Int) := by omega
        have a1 := cat8b (d.extract 0 8) (e.extract 8 12) (by rw [ByteArray.size_extract, ByteArray.size_extract]; omega)
        have a2 := cat8b (d.extract 0 8 ++ e.extract 8 12) (d.extract 12 d.size) (by rw [ByteArray.size_append, ByteArray.size_extract, ByteArray.size_extract, ByteArray.size_extract]; have := HDS.out; omega)
        rw [hcat] at a2
        generalize d.extract 0 8 ++ e.extract 8 12 = P1 at a1 a2
        clear hno hyes hHD1 hes hiH hH hcat h12
        go_wp2_with fail
        refine CF.out.mono ?_
        rintro e9 w9 ⟨rfl, hw9⟩
        replace hw9 := hw9.symm
        subst hw9
        go_wp2_with fail
        go_quiet (fail)
        go_wp2_with fail
        go_quiet (fail)
        go_wp2_with fail
        go_roundw
        case rel => exact ⟨(j + 1) + 1, _, by go_num, by rw [HHD1.out], rfl, hide (by omega)⟩
        case measure => simp [intOf]; omega
end Go.Proofs.YtgmmhlpdkoiheaaDoor
