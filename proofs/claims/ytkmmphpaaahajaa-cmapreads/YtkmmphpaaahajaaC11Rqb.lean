/-
  What the reference's four answers (made by c11rq.py).
-/
import Derived.Test.YtkmmphpaaahajaaC11Rqa
namespace Go.Proofs.Ytkmmphpaaahajaa
open Go.RowKit Go.Deep
set_option linter.unusedVariables false
set_option linter.unusedSimpArgs false

set_option maxRecDepth 8000 in
set_option maxHeartbeats 16000000 in
theorem rfo_ok (s : ByteArray) (n : Nat) (w : World) (hs : s.size ≤ 1073741824) (h : foB s.data.toList = true) (hn : n ≤ 4096) :
    Calls Try.prog 25 #[.string s, .int .i64 (n : Int)] w (AdR w w.heap.size (foV s.data.toList n)) := by
  have hs' : (s.size : Int) ≤ 1073741824 := by omega
  have hn' : (n : Int) ≤ 4096 := by omega
  have hT := foB_t.1 h
  rw [← Lib.size_eq] at hT
  obtain ⟨h1, h2, h3, h4, h5, h6⟩ := hT
  have hv : foV s.data.toList n = foW (s.data.toList.take (n2 s.data.toList 2)) (n2 s.data.toList 6 / 2) n := by unfold foV; rw [h]; rfl
  rw [hv]
  have h1' : ¬ (s.size : Int) < 16 := by omega
  have h1b : (2 : Int) ≤ (s.size : Int) := by omega
  have hq := head_eq s 2 [0, 4]
  rw [decide_eq_true h2] at hq
  have C2 := hide (fun w => ru2_any s 2 2 w rfl (by omega) hs)
  have C6 := hide (fun w => ru2_any s 6 6 w rfl (by omega) hs)
  have CI := hide ris_any
  have b2 := n2_lt s.data.toList 2
  have b6 := n2_lt s.data.toList 6
  have hx := ext_take s (n2 s.data.toList 2)
  have hxs : (s.extract 0 (n2 s.data.toList 2)).size = n2 s.data.toList 2 := by rw [ByteArray.size_extract]; omega
  rw [← hx]
  clear hx hv h
  generalize n2 s.data.toList 2 = Z at *
  obtain ⟨M, hM⟩ : ∃ M, n2 s.data.toList 6 / 2 = M := ⟨_, rfl⟩
  rw [hM] at h4 h5 ⊢
  obtain ⟨t, ht⟩ : ∃ t : Int, ((n2 s.data.toList 6 : Nat) : Int) = t := ⟨_, rfl⟩
  rw [ht] at C6
  have t0 : 0 ≤ t := by omega
  have t1 : t ≤ 65535 := by omega
  have d1 : t.tdiv 2 = (M : Int) := by rw [Int.tdiv_eq_ediv_of_nonneg t0]; omega
  have d2 : t / 2 = (M : Int) := by omega
  have d3 : t.tmod 2 = 0 := by rw [Int.tmod_eq_emod_of_nonneg t0]; omega
  have d4 : t % 2 = 0 := by omega
  have m1 : (M : Int) ≤ 32767 := by omega
  have m0 : (0 : Int) ≤ (M : Int) := by omega
  have c2 : ¬ (M : Int) < 1 := by omega
  have c3 : ¬ (Z : Int) < 16 + 8 * (M : Int) := by omega
  have c4 : ¬ (s.size : Int) < (Z : Int) := by omega
  have c4n : decide (s.size < Z) = false := by simp; omega
  have z0 : (0 : Int) ≤ (Z : Int) := by omega
  have z1 : (Z : Int) ≤ 65535 := by omega
  have H5 := hide h5
  have HXS := hide hxs
  have HMM : Hid (1 ≤ M ∧ M ≤ 32767 ∧ Z ≤ 65535) := hide (by omega)
  obtain ⟨X, hX⟩ : ∃ X, s.extract 0 Z = X := ⟨_, rfl⟩
  rw [hX] at HXS ⊢
  have hXs : (X.size : Int) = (Z : Int) := by have := HXS.out; omega
  have CU := hide (fun (j : Nat) (z : Int) (w : World) (hz : z = (j : Int)) (h : j + 2 ≤ Z) => ru2_any X j z w hz (by rw [HXS.out]; exact h) (by rw [HXS.out]; omega))
  have HL2 := hide (n2_lt X.data.toList)
  have HXL : Hid (X.data.toList.length = Z) := hide (by rw [← Lib.size_eq]; exact HXS.out)
  have HVB := hide (fun (i : Nat) => @foW_bad X.data.toList M n i)
  have HVL := hide (@foW_last X.data.toList M n)
  have HVF := hide (fun (i : Nat) => @foW_full X.data.toList M n i)
  have HVO := hide (@foW_ok X.data.toList M n)
  clear h1 h2 h3 h4 h5 h6 hM ht hxs b2 b6 hs hn
  go_enter Try.func25, Try.ntmps25
  go_wp2_with fail
  refine (C6.out _).mono ?_
  rintro e w1 ⟨rfl, k1, hw⟩
  subst hw
  go_wp2_with fail
  refine (C2.out _).mono ?_
  rintro e w1 ⟨rfl, k2, hw⟩
  subst hw
  go_wp2_with fail
  refine (C6.out _).mono ?_
  rintro e w1 ⟨rfl, k3, hw⟩
  subst hw
  go_wp2_with fail
  go_loopw [8] (fun vi wr => ∃ (k : Nat), vi = .int .i64 k ∧ Hid (k ≤ M ∧ (∀ j, j < k → okS X.data.toList M j = true) ∧ (k = M → leS X.data.toList M = 65536) ∧ ∃ m, wr = w.drewN m)) (fun vi _ => M - (intOf vi).toNat)
  case atStart => exact ⟨0, rfl, hide ⟨by omega, fun j hj => by omega, fun h => by have := HMM.out; omega, _, rfl⟩⟩
  case round =>
    obtain ⟨k, rfl, HV⟩ := hrel
    obtain ⟨hk, hok, hlast, m, hwm⟩ := HV.out
    subst hwm
    have hk0 : (0 : Int) ≤ (k : Int) := by omega
    have HOK := hide hok
    have HLA := hide hlast
    clear HV hok hlast
    by_cases hlt : k < M
    case neg =>
      have hlt' : ¬ (k : Int) < (M : Int) := by omega
      have EV : Hid (foW X.data.toList M n = accS X.data.toList M n M) := hide (HVO.out (fun i hi => HOK.out i (by omega)) (HLA.out (by omega)))
      have HOM : Hid (∀ j, j < M → okS X.data.toList M j = true) := hide (fun j hj => HOK.out j (by omega))
      clear HOK HLA
      go_wp2_with fail
      clear hlt hlt' hk hk0
      go_loopw [11, 12] (fun vo vi wr => ∃ (q : Nat) (cur : List Ch), vi = .int .i64 q ∧ Hid (q ≤ M ∧ accS X.data.toList M n q = some cur ∧ BD cur ∧ CRow wr w.heap.size vo cur ∧ Below w.heap.size w wr)) (fun _ vi _ => M - (intOf vi).toNat)
      case atStart => exact ⟨0, [], rfl, hide ⟨by omega, rfl, BD.nil, CRow.nil _ _, below_drewN (Below.refl _ _) _⟩⟩
      case round =>
        obtain ⟨q, cur, rfl, HV⟩ := hrel
        obtain ⟨hq1, hac, hbd, hcr, hbw⟩ := HV.out
        have hq0 : (0 : Int) ≤ (q : Int) := by omega
        have HAC := hide hac
        have HBD := hide hbd
        have HCR := hide hcr
        have HBW := hide hbw
        clear HV hac hbd hcr hbw
        by_cases hlt : q < M
        case neg =>
          have hlt' : ¬ (q : Int) < (M : Int) := by omega
          have E : Hid (foW X.data.toList M n = some cur) := hide (by
            obtain rfl : q = M := by omega
            rw [EV.out, HAC.out])
          go_wp2_with fail
          go_ret2
          rw [E.out]
          exact ⟨_, rfl, HCR.out, HBW.out⟩
        have hlt' : (q : Int) < (M : Int) := by omega
        have h5o := H5.out
        have C1 := hide (fun z w (hz : z = ((14 + 2 * q : Nat) : Int)) => CU.out (14 + 2 * q) z w hz (by omega))
        have Ca := hide (fun z w (hz : z = ((16 + 2 * M + 2 * q : Nat) : Int)) => CU.out (16 + 2 * M + 2 * q) z w hz (by omega))
        have Cd := hide (fun z w (hz : z = ((16 + 4 * M + 2 * q : Nat) : Int)) => CU.out (16 + 4 * M + 2 * q) z w hz (by omega))
        have Co := hide (fun z w (hz : z = ((spl M q : Nat) : Int)) => CU.out (spl M q) z w hz (by unfold spl; omega))
        have ba := HL2.out (16 + 2 * M + 2 * q)
        have bb := HL2.out (14 + 2 * q)
        have bd := HL2.out (16 + 4 * M + 2 * q)
        have bo := HL2.out (spl M q)
        have bp : spl M q ≤ 1073741824 := by unfold spl; have := HMM.out; omega
        have HP : Hid (16 + 6 * (M : Int) + 2 * (q : Int) = ((spl M q : Nat) : Int)) := hide (by unfold spl; omega)
        have EOK : okS X.data.toList M q = decide (leS X.data.toList q ≤ n2 X.data.toList (16 + 2 * M + 2 * q) ∧ n2 X.data.toList (16 + 2 * M + 2 * q) ≤ n2 X.data.toList (14 + 2 * q)) := rfl
        rw [HOM.out q hlt] at EOK
        have EOK2 := (of_decide_eq_true EOK.symm).2
        have EAC := hide (show accS X.data.toList M n (q + 1) = segG X.data.toList (n2 X.data.toList (16 + 2 * M + 2 * q)) (n2 X.data.toList (16 + 4 * M + 2 * q)) (n2 X.data.toList (spl M q)) (spl M q) n cur (n2 X.data.toList (14 + 2 * q) - n2 X.data.toList (16 + 2 * M + 2 * q) + 1) by rw [accS, HAC.out]; exact segF_eq _ _ _ _ _ _)
        clear EOK h5o
        generalize n2 X.data.toList (16 + 2 * M + 2 * q) = A at *
        generalize n2 X.data.toList (14 + 2 * q) = B at *
        generalize n2 X.data.toList (16 + 4 * M + 2 * q) = D at *
        generalize n2 X.data.toList (spl M q) = O at *
        generalize spl M q = P at *
        have a0 : (0 : Int) ≤ (A : Int) := by omega
        have b1 : (B : Int) ≤ 65535 := by omega
        have ab : (A : Int) ≤ (B : Int) := by omega
        have dd0 : (0 : Int) ≤ (D : Int) := by omega
        have dd1 : (D : Int) ≤ 65535 := by omega
        have oo0 : (0 : Int) ≤ (O : Int) := by omega
        have oo1 : (O : Int) ≤ 65535 := by omega
        have pp0 : (0 : Int) ≤ (P : Int) := by omega
        have pp1 : (P : Int) ≤ 1073741824 := by omega
        obtain ⟨cnt, hcnt⟩ : ∃ cnt, B - A + 1 = cnt := ⟨_, rfl⟩
        rw [hcnt] at EAC
        have HCN := hide hcnt
        have HAB := hide EOK2
        clear hcnt EOK2 ba bb bd bo bp
        go_wp2_with fail
        refine (C1.out _ _ (by omega)).mono ?_
        rintro e w1 ⟨rfl, m1, hw⟩
        subst hw
        go_wp2_with fail
        refine (Ca.out _ _ (by omega)).mono ?_
        rintro e w1 ⟨rfl, m2, hw⟩
        subst hw
        go_wp2_with fail
        refine (Cd.out _ _ (by omega)).mono ?_
        rintro e w1 ⟨rfl, m3, hw⟩
        subst hw
        have hp := HP.out
        go_wp2_with fail
        refine (Co.out _ _ (by omega)).mono ?_
        rintro e w1 ⟨rfl, m4, hw⟩
        subst hw
        have HB3 : Hid (∀ m, Below w.heap.size w (wr.drewN m)) := hide (fun m => below_drewN HBW.out m)
        have HC3 : Hid (∀ m, CRow (wr.drewN m) w.heap.size u11 cur) := hide (fun m => HCR.out)
        go_wp2_with fail
        clear hp
        go_loopw [11, 18] (fun vo vc wr => ∃ (j : Nat) (cu : List Ch), vc = .int .i64 ((A + j : Nat) : Int) ∧ Hid (j ≤ cnt ∧ segG X.data.toList A D O P n cur j = some cu ∧ BD cu ∧ CRow wr w.heap.size vo cu ∧ Below w.heap.size w wr)) (fun _ vc _ => A + cnt - (intOf vc).toNat)
        case atStart => exact ⟨0, cur, rfl, hide ⟨by omega, rfl, HBD.out, HC3.out _, HB3.out _⟩⟩
        case round =>
          obtain ⟨j, cu, rfl, HV⟩ := hrel
          obtain ⟨hj, hgr, hbd, hcr, hbw⟩ := HV.out
          have HGR := hide hgr
          have HBD2 := hide hbd
          have HCR2 := hide hcr
          have HBW2 := hide hbw
          clear HV hgr hbd hcr hbw HC3 HB3
          obtain ⟨c, hc⟩ : ∃ c : Int, ((A + j : Nat) : Int) = c := ⟨_, rfl⟩
          rw [hc]
          have HC := hide hc
          have q0 : 0 ≤ c := by omega
          have q1 : c ≤ 65536 := by have := HCN.out; have := HAB.out; omega
          by_cases hlt2 : j < cnt
          case neg =>
            have hlt2' : ¬ c ≤ (B : Int) := by have := HCN.out; have := HAB.out; omega
            have EJ : Hid (accS X.data.toList M n (q + 1) = some cu) := hide (by
              rw [EAC.out, ← HGR.out]
              obtain rfl : j = cnt := by omega
              rfl)
            clear hc
            go_wp2_with fail
            go_roundw
            case rel => exact ⟨q + 1, cu, by go_num, hide ⟨by omega, EJ.out, HBD2.out, HCR2.out, HBW2.out⟩⟩
            case measure => simp [intOf]; omega
          have hlt2' : c ≤ (B : Int) := by have := HCN.out; have := HAB.out; omega
          have q2 : c ≤ 65535 := by omega
          have q3 : (A : Int) ≤ c := by omega
          have ENX : Hid (((A + (j + 1) : Nat) : Int) = c + 1) := hide (by have := HC.out; omega)
          have EST0 : Hid (segG X.data.toList A D O P n cur (j + 1) = if c = 65535 ∨ isP c = false then some cu else gstep n cu c (glW X.data.toList A D O P (A + j))) := hide (by
            rw [segG, HGR.out]
            show stG _ _ _ _ _ _ _ _ = _
            unfold stG
            rw [HC.out]
            have e : (A + j = 65535 ∨ isP c = false) ↔ (c = 65535 ∨ isP c = false) := by
              have := HC.out
              constructor
              · rintro (h | h)
                · exact Or.inl (by omega)
                · exact Or.inr h
              · rintro (h | h)
                · exact Or.inl (by omega)
                · exact Or.inr h
            by_cases hh : c = 65535 ∨ isP c = false
            · rw [if_pos (e.2 hh), if_pos hh]
            · rw [if_neg (fun x => hh (e.1 x)), if_neg hh])
          have ENO : Hid (segG X.data.toList A D O P n cur (j + 1) = none → foW X.data.toList M n = none) := hide (fun h => HVF.out (q + 1) (by omega) (by rw [EAC.out]; exact segG_end h (by omega)))
          clear hc
          by_cases c1 : c = 65535
          · have E : Hid (segG X.data.toList A D O P n cur (j + 1) = some cu) := hide (by rw [EST0.out, if_pos (Or.inl c1)])
            have c1' : (c == 65535) = true := by simpa using c1
            clear EST0 ENO c1
            go_wp2_with fail
            go_roundw
            case rel => exact ⟨j + 1, cu, by rw [ENX.out], hide ⟨by omega, E.out, HBD2.out, HCR2.out, HBW2.out⟩⟩
            case measure => have := HC.out; simp [intOf]; omega
          have c1' : (c == 65535) = false := by simpa using c1
          cases hpt : isP c
          · have E : Hid (segG X.data.toList A D O P n cur (j + 1) = some cu) := hide (by rw [EST0.out, if_pos (Or.inr hpt)])
            have CI1 := hide (fun w => CI.out c w)
            rw [hpt] at CI1
            clear EST0 ENO c1 hpt
            go_wp2_with fail
            refine (CI1.out _).mono ?_
            rintro e w1 ⟨rfl, hw⟩
            replace hw := hw.symm
            subst hw
            go_wp2_with fail
            go_roundw
            case rel => exact ⟨j + 1, cu, by rw [ENX.out], hide ⟨by omega, E.out, HBD2.out, HCR2.out, HBW2.out⟩⟩
            case measure => have := HC.out; simp [intOf]; omega
          have EST : Hid (segG X.data.toList A D O P n cur (j + 1) = gstep n cu c (glW X.data.toList A D O P (A + j))) := hide (by
            rw [EST0.out, if_neg]
            rintro (h | h)
            · exact c1 h
            · rw [hpt] at h; cases h)
          have CI := hide (fun (c' : Int) w (h : c' = c) => CI.out c' w)
          have CI : Hid (∀ (c' : Int) w, c' = c → Calls Try.prog 41 #[.int .i64 c'] w fun e w' => e = .returned (.bool true) ∧ w' = w) := hide (fun c' w h => by have := CI.out c' w h; rw [h, hpt] at this; rw [h]; exact this)
          have CI := hide (fun (c' : Int) w => fun (h : c' = c) => CI.out c' w h)
          have HPT := hide hpt
          have CI : Hid (∀ (c' : Int) w, Calls Try.prog 41 #[.int .i64 c] w fun e w' => e = .returned (.bool true) ∧ w' = w) := hide (fun c' w => CI.out c w rfl)
          obtain ⟨Y, hY⟩ : ∃ Y, (A + j + D) % 65536 = Y := ⟨_, rfl⟩
          have y1 : (c + (D : Int)) % 65536 = (Y : Int) := by have := HC.out; omega
          have y2 : (c + (D : Int)).tmod 65536 = (Y : Int) := by rw [Int.tmod_eq_emod_of_nonneg (by omega)]; exact y1
          have yb : (Y : Int) ≤ 65535 := by omega
          have HY := hide hY
          clear EST0 c1 hpt hY
          by_cases o1 : O = 0
          · have EG : glW X.data.toList A D O P (A + j) = some Y := by unfold glW; rw [if_pos o1, HY.out]
            have o1' : ((O : Int) != 0) = false := by simpa using o1
            clear o1
            have CT := hide (radd_any w.heap.size u11 c (Y : Int) cu wr HCR2.out HBW2.out.size HBD2.out (by omega) (by omega) q0 (by omega))
            have hst : stP cu c (Y : Int) = addC cu c (Y : Int) := by unfold stP; rw [HPT.out]; rfl
            rw [hst] at CT
            have E1 : Hid (segG X.data.toList A D O P n cur (j + 1) = gstep n cu c (some Y)) := hide (by rw [EST.out, EG])
            have CT2 := hide (fun m => (show Calls Try.prog 40 #[u11, .int .i64 c, .int .i64 (Y : Int)] (wr.drewN m) (AdR (wr.drewN m) w.heap.size (addC cu c (Y : Int))) by
              have := radd_any w.heap.size u11 c (Y : Int) cu (wr.drewN m) HCR2.out HBW2.out.size HBD2.out (by omega) (by omega) q0 (by omega)
              rw [hst] at this
              exact this))
            have gb : (Y : Int) ≤ 65535 := by omega
            have HADD := hide (fun cs2 h => HBD2.out.add (cs' := cs2) q0 (by omega) (by omega : (0 : Int) ≤ (Y : Int)) (by omega) h)
            clear hst EG EST CT2
            by_cases hg : Y < n
            case neg =>
              have EN := hide (ENO.out (by rw [E1.out]; exact if_neg hg))
              have hg' : (n : Int) ≤ (Y : Int) := by omega
              clear E1 HADD ENO hg
              generalize addC cu c (Y : Int) = AD at *
              cases AD with
              | none =>
                go_wp2_with fail
                refine (CI.out c _).mono ?_
                rintro e w1 ⟨rfl, hw⟩
                replace hw := hw.symm
                subst hw
                go_wp2_with fail
                refine CT.out.mono ?_
                rintro e w1 ⟨rfl, ht⟩
                have HT2 := hide (HBW2.out.trans (show Below w.heap.size wr w1 from ⟨ht.os, ht.tape, ht.output, ht.size, ht.block⟩))
                clear ht
                go_wp2_with fail
                go_ret2
                rw [EN.out]
                exact ⟨rfl, HT2.out⟩
              | some cs2 =>
                go_wp2_with fail
                refine (CI.out c _).mono ?_
                rintro e w1 ⟨rfl, hw⟩
                replace hw := hw.symm
                subst hw
                go_wp2_with fail
                refine CT.out.mono ?_
                rintro e w1 ⟨v2, rfl, _, ht⟩
                have HT2 := hide (HBW2.out.trans (show Below w.heap.size wr w1 from ⟨ht.os, ht.tape, ht.output, ht.size, ht.block⟩))
                clear ht
                go_wp2_with fail
                go_ret2
                rw [EN.out]
                exact ⟨rfl, HT2.out⟩
            have hg' : ¬ (n : Int) ≤ (Y : Int) := by omega
            have E2 : Hid (segG X.data.toList A D O P n cur (j + 1) = addC cu c (Y : Int)) := hide (by rw [E1.out]; exact if_pos hg)
            clear E1 hg
            generalize addC cu c (Y : Int) = AD at *
            cases AD with
            | none =>
              have EN := hide (ENO.out E2.out)
              clear E2 HADD ENO
              go_wp2_with fail
              refine (CI.out c _).mono ?_
              rintro e w1 ⟨rfl, hw⟩
              replace hw := hw.symm
              subst hw
              go_wp2_with fail
              refine CT.out.mono ?_
              rintro e w1 ⟨rfl, ht⟩
              have HT2 := hide (HBW2.out.trans (show Below w.heap.size wr w1 from ⟨ht.os, ht.tape, ht.output, ht.size, ht.block⟩))
              clear ht
              go_wp2_with fail
              go_ret2
              rw [EN.out]
              exact ⟨rfl, HT2.out⟩
            | some cs2 =>
              have HBD3 := hide (HADD.out cs2 rfl)
              clear HADD ENO
              go_wp2_with fail
              refine (CI.out c _).mono ?_
              rintro e w1 ⟨rfl, hw⟩
              replace hw := hw.symm
              subst hw
              go_wp2_with fail
              refine CT.out.mono ?_
              rintro e w1 ⟨v2, rfl, hc2, ht⟩
              have HCR3 := hide hc2
              have HT2 := hide (HBW2.out.trans (show Below w.heap.size wr w1 from ⟨ht.os, ht.tape, ht.output, ht.size, ht.block⟩))
              clear ht hc2
              go_wp2_with fail
              go_roundw
              case rel => exact ⟨j + 1, cs2, by rw [ENX.out], hide ⟨by omega, E2.out, HBD3.out, HCR3.out, HT2.out⟩⟩
              case measure => have := HC.out; simp [intOf]; omega
          have o1' : ((O : Int) != 0) = true := by simp; omega
          have AT : P + O + 2 * (A + j - A) = P + O + 2 * j := by omega
          by_cases o2 : O % 2 = 0
          case neg =>
            have EG : glW X.data.toList A D O P (A + j) = none := by unfold glW; rw [if_neg o1, if_pos (Or.inl o2)]
            have EN := hide (ENO.out (by rw [EST.out, EG]; rfl))
            have r1 : (O : Int) % 2 = 1 := by omega
            have r2 : (O : Int).tmod 2 = 1 := by rw [Int.tmod_eq_emod_of_nonneg (by omega)]; exact r1
            clear EG o1 o2 AT EST ENO
            go_wp2_with fail
            refine (CI.out c _).mono ?_
            rintro e w1 ⟨rfl, hw⟩
            replace hw := hw.symm
            subst hw
            go_wp2_with fail
            go_ret2
            rw [EN.out]
            exact ⟨rfl, HBW2.out⟩
          have r1 : (O : Int) % 2 = 0 := by omega
          have r2 : (O : Int).tmod 2 = 0 := by rw [Int.tmod_eq_emod_of_nonneg (by omega)]; exact r1
          by_cases o3 : Z < P + O + 2 * j + 2
          · have EG : glW X.data.toList A D O P (A + j) = none := by unfold glW; rw [if_neg o1, if_pos (Or.inr (by rw [HXL.out, AT]; exact o3))]
            have EN := hide (ENO.out (by rw [EST.out, EG]; rfl))
            have o3' : (Z : Int) < (P : Int) + (O : Int) + 2 * (c - (A : Int)) + 2 := by have := HC.out; omega
            clear EG o1 o2 AT EST ENO o3
            go_wp2_with fail
            refine (CI.out c _).mono ?_
            rintro e w1 ⟨rfl, hw⟩
            replace hw := hw.symm
            subst hw
            go_wp2_with fail
            go_ret2
            rw [EN.out]
            exact ⟨rfl, HBW2.out⟩
          have o3' : ¬ (Z : Int) < (P : Int) + (O : Int) + 2 * (c - (A : Int)) + 2 := by have := HC.out; omega
          have CAT := hide (fun z w (hz : z = ((P + O + 2 * j : Nat) : Int)) => CU.out (P + O + 2 * j) z w hz (by omega))
          have HAT : Hid ((P : Int) + (O : Int) + 2 * (c - (A : Int)) = ((P + O + 2 * j : Nat) : Int)) := hide (by have := HC.out; omega)
          have EG0 : glW X.data.toList A D O P (A + j) = if n2 X.data.toList (P + O + 2 * j) = 0 then some 0 else some ((n2 X.data.toList (P + O + 2 * j) + D) % 65536) := by
            unfold glW
            rw [if_neg o1, if_neg]
            · rw [AT]
            · rintro (h | h)
              · exact h o2
              · rw [HXL.out, AT] at h; exact o3 h
          have bt := HL2.out (P + O + 2 * j)
          generalize n2 X.data.toList (P + O + 2 * j) = TD at *
          clear o1 o2 o3 AT
          by_cases o4 : TD = 0
          · have EG : glW X.data.toList A D O P (A + j) = some 0 := by rw [EG0, if_pos o4]
            have o4' : ((TD : Int) != 0) = false := by simpa using o4
            rw [← o4] at EG
            clear o4 EG0
            have CT := hide (radd_any w.heap.size u11 c (TD : Int) cu wr HCR2.out HBW2.out.size HBD2.out (by omega) (by omega) q0 (by omega))
            have hst : stP cu c (TD : Int) = addC cu c (TD : Int) := by unfold stP; rw [HPT.out]; rfl
            rw [hst] at CT
            have E1 : Hid (segG X.data.toList A D O P n cur (j + 1) = gstep n cu c (some TD)) := hide (by rw [EST.out, EG])
            have CT2 := hide (fun m => (show Calls Try.prog 40 #[u11, .int .i64 c, .int .i64 (TD : Int)] (wr.drewN m) (AdR (wr.drewN m) w.heap.size (addC cu c (TD : Int))) by
              have := radd_any w.heap.size u11 c (TD : Int) cu (wr.drewN m) HCR2.out HBW2.out.size HBD2.out (by omega) (by omega) q0 (by omega)
              rw [hst] at this
              exact this))
            have gb : (TD : Int) ≤ 65535 := by omega
            have HADD := hide (fun cs2 h => HBD2.out.add (cs' := cs2) q0 (by omega) (by omega : (0 : Int) ≤ (TD : Int)) (by omega) h)
            clear hst EG EST CT
            by_cases hg : TD < n
            case neg =>
              have EN := hide (ENO.out (by rw [E1.out]; exact if_neg hg))
              have hg' : (n : Int) ≤ (TD : Int) := by omega
              clear E1 HADD ENO hg
              generalize addC cu c (TD : Int) = AD at *
              cases AD with
              | none =>
                go_wp2_with fail
                refine (CI.out c _).mono ?_
                rintro e w1 ⟨rfl, hw⟩
                replace hw := hw.symm
                subst hw
                go_wp2_with fail
                refine (CAT.out _ _ HAT.out).mono ?_
                rintro e w1 ⟨rfl, mm, hw⟩
                subst hw
                go_wp2_with fail
                refine (CT2.out _).mono ?_
                rintro e w1 ⟨rfl, ht⟩
                have HT2 := hide (HBW2.out.trans (show Below w.heap.size wr w1 from ⟨ht.os, ht.tape, ht.output, ht.size, ht.block⟩))
                clear ht
                go_wp2_with fail
                go_ret2
                rw [EN.out]
                exact ⟨rfl, HT2.out⟩
              | some cs2 =>
                go_wp2_with fail
                refine (CI.out c _).mono ?_
                rintro e w1 ⟨rfl, hw⟩
                replace hw := hw.symm
                subst hw
                go_wp2_with fail
                refine (CAT.out _ _ HAT.out).mono ?_
                rintro e w1 ⟨rfl, mm, hw⟩
                subst hw
                go_wp2_with fail
                refine (CT2.out _).mono ?_
                rintro e w1 ⟨v2, rfl, _, ht⟩
                have HT2 := hide (HBW2.out.trans (show Below w.heap.size wr w1 from ⟨ht.os, ht.tape, ht.output, ht.size, ht.block⟩))
                clear ht
                go_wp2_with fail
                go_ret2
                rw [EN.out]
                exact ⟨rfl, HT2.out⟩
            have hg' : ¬ (n : Int) ≤ (TD : Int) := by omega
            have E2 : Hid (segG X.data.toList A D O P n cur (j + 1) = addC cu c (TD : Int)) := hide (by rw [E1.out]; exact if_pos hg)
            clear E1 hg
            generalize addC cu c (TD : Int) = AD at *
            cases AD with
            | none =>
              have EN := hide (ENO.out E2.out)
              clear E2 HADD ENO
              go_wp2_with fail
              refine (CI.out c _).mono ?_
              rintro e w1 ⟨rfl, hw⟩
              replace hw := hw.symm
              subst hw
              go_wp2_with fail
              refine (CAT.out _ _ HAT.out).mono ?_
              rintro e w1 ⟨rfl, mm, hw⟩
              subst hw
              go_wp2_with fail
              refine (CT2.out _).mono ?_
              rintro e w1 ⟨rfl, ht⟩
              have HT2 := hide (HBW2.out.trans (show Below w.heap.size wr w1 from ⟨ht.os, ht.tape, ht.output, ht.size, ht.block⟩))
              clear ht
              go_wp2_with fail
              go_ret2
              rw [EN.out]
              exact ⟨rfl, HT2.out⟩
            | some cs2 =>
              have HBD3 := hide (HADD.out cs2 rfl)
              clear HADD ENO
              go_wp2_with fail
              refine (CI.out c _).mono ?_
              rintro e w1 ⟨rfl, hw⟩
              replace hw := hw.symm
              subst hw
              go_wp2_with fail
              refine (CAT.out _ _ HAT.out).mono ?_
              rintro e w1 ⟨rfl, mm, hw⟩
              subst hw
              go_wp2_with fail
              refine (CT2.out _).mono ?_
              rintro e w1 ⟨v2, rfl, hc2, ht⟩
              have HCR3 := hide hc2
              have HT2 := hide (HBW2.out.trans (show Below w.heap.size wr w1 from ⟨ht.os, ht.tape, ht.output, ht.size, ht.block⟩))
              clear ht hc2
              go_wp2_with fail
              go_roundw
              case rel => exact ⟨j + 1, cs2, by rw [ENX.out], hide ⟨by omega, E2.out, HBD3.out, HCR3.out, HT2.out⟩⟩
              case measure => have := HC.out; simp [intOf]; omega
          · obtain ⟨GG, hGG⟩ : ∃ GG, (TD + D) % 65536 = GG := ⟨_, rfl⟩
            have EG : glW X.data.toList A D O P (A + j) = some GG := by rw [EG0, if_neg o4, hGG]
            have o4' : ((TD : Int) != 0) = true := by simp; omega
            have v1 : ((TD : Int) + (D : Int)) % 65536 = (GG : Int) := by omega
            have v2 : ((TD : Int) + (D : Int)).tmod 65536 = (GG : Int) := by rw [Int.tmod_eq_emod_of_nonneg (by omega)]; exact v1
            have td0 : (0 : Int) ≤ (TD : Int) := by omega
            have td1 : (TD : Int) ≤ 65535 := by omega
            have gbb : GG ≤ 65535 := by omega
            clear o4 EG0 hGG
            have CT := hide (radd_any w.heap.size u11 c (GG : Int) cu wr HCR2.out HBW2.out.size HBD2.out (by omega) (by omega) q0 (by omega))
            have hst : stP cu c (GG : Int) = addC cu c (GG : Int) := by unfold stP; rw [HPT.out]; rfl
            rw [hst] at CT
            have E1 : Hid (segG X.data.toList A D O P n cur (j + 1) = gstep n cu c (some GG)) := hide (by rw [EST.out, EG])
            have CT2 := hide (fun m => (show Calls Try.prog 40 #[u11, .int .i64 c, .int .i64 (GG : Int)] (wr.drewN m) (AdR (wr.drewN m) w.heap.size (addC cu c (GG : Int))) by
              have := radd_any w.heap.size u11 c (GG : Int) cu (wr.drewN m) HCR2.out HBW2.out.size HBD2.out (by omega) (by omega) q0 (by omega)
              rw [hst] at this
              exact this))
            have gb : (GG : Int) ≤ 65535 := by omega
            have HADD := hide (fun cs2 h => HBD2.out.add (cs' := cs2) q0 (by omega) (by omega : (0 : Int) ≤ (GG : Int)) (by omega) h)
            clear hst EG EST CT
            by_cases hg : GG < n
            case neg =>
              have EN := hide (ENO.out (by rw [E1.out]; exact if_neg hg))
              have hg' : (n : Int) ≤ (GG : Int) := by omega
              clear E1 HADD ENO hg
              generalize addC cu c (GG : Int) = AD at *
              cases AD with
              | none =>
                go_wp2_with fail
                refine (CI.out c _).mono ?_
                rintro e w1 ⟨rfl, hw⟩
                replace hw := hw.symm
                subst hw
                go_wp2_with fail
                refine (CAT.out _ _ HAT.out).mono ?_
                rintro e w1 ⟨rfl, mm, hw⟩
                subst hw
                go_wp2_with fail
                refine (CT2.out _).mono ?_
                rintro e w1 ⟨rfl, ht⟩
                have HT2 := hide (HBW2.out.trans (show Below w.heap.size wr w1 from ⟨ht.os, ht.tape, ht.output, ht.size, ht.block⟩))
                clear ht
                go_wp2_with fail
                go_ret2
                rw [EN.out]
                exact ⟨rfl, HT2.out⟩
              | some cs2 =>
                go_wp2_with fail
                refine (CI.out c _).mono ?_
                rintro e w1 ⟨rfl, hw⟩
                replace hw := hw.symm
                subst hw
                go_wp2_with fail
                refine (CAT.out _ _ HAT.out).mono ?_
                rintro e w1 ⟨rfl, mm, hw⟩
                subst hw
                go_wp2_with fail
                refine (CT2.out _).mono ?_
                rintro e w1 ⟨v2, rfl, _, ht⟩
                have HT2 := hide (HBW2.out.trans (show Below w.heap.size wr w1 from ⟨ht.os, ht.tape, ht.output, ht.size, ht.block⟩))
                clear ht
                go_wp2_with fail
                go_ret2
                rw [EN.out]
                exact ⟨rfl, HT2.out⟩
            have hg' : ¬ (n : Int) ≤ (GG : Int) := by omega
            have E2 : Hid (segG X.data.toList A D O P n cur (j + 1) = addC cu c (GG : Int)) := hide (by rw [E1.out]; exact if_pos hg)
            clear E1 hg
            generalize addC cu c (GG : Int) = AD at *
            cases AD with
            | none =>
              have EN := hide (ENO.out E2.out)
              clear E2 HADD ENO
              go_wp2_with fail
              refine (CI.out c _).mono ?_
              rintro e w1 ⟨rfl, hw⟩
              replace hw := hw.symm
              subst hw
              go_wp2_with fail
              refine (CAT.out _ _ HAT.out).mono ?_
              rintro e w1 ⟨rfl, mm, hw⟩
              subst hw
              go_wp2_with fail
              refine (CT2.out _).mono ?_
              rintro e w1 ⟨rfl, ht⟩
              have HT2 := hide (HBW2.out.trans (show Below w.heap.size wr w1 from ⟨ht.os, ht.tape, ht.output, ht.size, ht.block⟩))
              clear ht
              go_wp2_with fail
              go_ret2
              rw [EN.out]
              exact ⟨rfl, HT2.out⟩
            | some cs2 =>
              have HBD3 := hide (HADD.out cs2 rfl)
              clear HADD ENO
              go_wp2_with fail
              refine (CI.out c _).mono ?_
              rintro e w1 ⟨rfl, hw⟩
              replace hw := hw.symm
              subst hw
              go_wp2_with fail
              refine (CAT.out _ _ HAT.out).mono ?_
              rintro e w1 ⟨rfl, mm, hw⟩
              subst hw
              go_wp2_with fail
              refine (CT2.out _).mono ?_
              rintro e w1 ⟨v2, rfl, hc2, ht⟩
              have HCR3 := hide hc2
              have HT2 := hide (HBW2.out.trans (show Below w.heap.size wr w1 from ⟨ht.os, ht.tape, ht.output, ht.size, ht.block⟩))
              clear ht hc2
              go_wp2_with fail
              go_roundw
              case rel => exact ⟨j + 1, cs2, by rw [ENX.out], hide ⟨by omega, E2.out, HBD3.out, HCR3.out, HT2.out⟩⟩
              case measure => have := HC.out; simp [intOf]; omega
    have hlt' : (k : Int) < (M : Int) := by omega
    have h5o := H5.out
    have C1 := hide (fun z w (hz : z = ((14 + 2 * k : Nat) : Int)) => CU.out (14 + 2 * k) z w hz (by omega))
    have Ca := hide (fun z w (hz : z = ((16 + 2 * M + 2 * k : Nat) : Int)) => CU.out (16 + 2 * M + 2 * k) z w hz (by omega))
    have ba := HL2.out (16 + 2 * M + 2 * k)
    have bb := HL2.out (14 + 2 * k)
    have EOK := hide (show okS X.data.toList M k = decide (leS X.data.toList k ≤ n2 X.data.toList (16 + 2 * M + 2 * k) ∧ n2 X.data.toList (16 + 2 * M + 2 * k) ≤ n2 X.data.toList (14 + 2 * k)) from rfl)
    have ELE := hide (show leS X.data.toList (k + 1) = n2 X.data.toList (14 + 2 * k) + 1 from rfl)
    generalize n2 X.data.toList (16 + 2 * M + 2 * k) = A at *
    generalize n2 X.data.toList (14 + 2 * k) = B at *
    clear h5o
    have a0 : (0 : Int) ≤ (A : Int) := by omega
    have a1 : (A : Int) ≤ 65535 := by omega
    have b0 : (0 : Int) ≤ (B : Int) := by omega
    have b1 : (B : Int) ≤ 65535 := by omega
    go_wp2_with fail
    refine (C1.out _ _ (by omega)).mono ?_
    rintro e w1 ⟨rfl, m1, hw⟩
    subst hw
    go_wp2_with fail
    refine (Ca.out _ _ (by omega)).mono ?_
    rintro e w1 ⟨rfl, m2, hw⟩
    subst hw
    by_cases c5 : B < A
    · have E := hide (HVB.out k hlt (by rw [EOK.out]; exact decide_eq_false (by omega)))
      have c5' : (B : Int) < (A : Int) := by omega
      go_wp2_with fail
      go_ret2
      rw [E.out]
      exact ⟨rfl, below_drewN (Below.refl _ _) _⟩
    have c5' : ¬ (B : Int) < (A : Int) := by omega
    have FIN : Hid (leS X.data.toList k ≤ A → okS X.data.toList M k = true) := hide (fun h => by rw [EOK.out]; exact decide_eq_true (by omega))
    have FNO : Hid (¬ leS X.data.toList k ≤ A → foW X.data.toList M n = none) := hide (fun h => HVB.out k hlt (by rw [EOK.out]; exact decide_eq_false (by omega)))
    have FLA : Hid (k + 1 = M → B ≠ 65535 → foW X.data.toList M n = none) := hide (fun h1 h2 => HVL.out (by rw [← h1, ELE.out]; omega))
    have FEN : Hid (okS X.data.toList M k = true → ∀ i, i < k + 1 → okS X.data.toList M i = true) := hide (fun h i hi => by
      rcases Nat.lt_or_ge i k with h' | h'
      · exact HOK.out i h'
      · obtain rfl : i = k := by omega
        exact h)
    have FLS : Hid (B = 65535 → k + 1 = M → leS X.data.toList M = 65536) := hide (fun h1 h2 => by rw [← h2, ELE.out, h1])
    clear EOK ELE ba bb
    have km : IntKind.i64.wrap ((M : Int) - 1) = (M : Int) - 1 := by rw [IntKind.wrap_i64]; omega
    by_cases c7 : k = 0
    · have E := hide (FEN.out (FIN.out (by rw [c7]; exact Nat.zero_le _)))
      have c7' : ¬ (0 : Int) < (k : Int) := by omega
      have c7n : decide (0 < k) = false := by simp; omega
      by_cases c8 : k + 1 = M
      · have c8' : ((k : Int) == (M : Int) - 1) = true := by simp; omega
        by_cases c9 : B = 65535
        · have c9' : ((B : Int) != 65535) = false := by simp; omega
          have EL := hide (FLS.out c9)
          clear c7 c9 c8 FIN FNO FLA FEN FLS
          go_wp2_with fail
          go_roundw
          case rel => exact ⟨k + 1, by go_num, hide ⟨by omega, E.out, EL.out, _, rfl⟩⟩
          case measure => simp [intOf]; omega
        · have c9' : ((B : Int) != 65535) = true := by simp; omega
          have EN := hide (FLA.out c8 c9)
          clear c7 c9 c8 FIN FNO FLA FEN FLS
          go_wp2_with fail
          go_ret2
          rw [EN.out]
          exact ⟨rfl, below_drewN (Below.refl _ _) _⟩
      · have c8' : ((k : Int) == (M : Int) - 1) = false := by simp; omega
        have HC8 := hide c8
        clear c7 c8 FIN FNO FLA FEN FLS
        go_wp2_with fail
        go_roundw
        case rel => exact ⟨k + 1, by go_num, hide ⟨by omega, E.out, fun h => absurd h HC8.out, _, rfl⟩⟩
        case measure => simp [intOf]; omega
    obtain ⟨p, hp⟩ : ∃ p, k = p + 1 := ⟨k - 1, by omega⟩
    have Cp := hide (fun z w (hz : z = ((14 + 2 * p : Nat) : Int)) => CU.out (14 + 2 * p) z w hz (by have := H5.out; omega))
    have ELP := hide (show leS X.data.toList k = n2 X.data.toList (14 + 2 * p) + 1 by rw [hp]; rfl)
    generalize n2 X.data.toList (14 + 2 * p) = PB at *
    have HPZ : Hid (12 + 2 * (k : Int) = ((14 + 2 * p : Nat) : Int)) := hide (by omega)
    have c7' : (0 : Int) < (k : Int) := by omega
    have c7n : decide (0 < k) = true := by simp; omega
    clear hp
    by_cases c6 : A ≤ PB
    · have EN := hide (FNO.out (by rw [ELP.out]; omega))
      have c6' : (A : Int) ≤ (PB : Int) := by omega
      clear c7 FIN FNO FLA FEN FLS c6
      go_wp2_with fail
      refine (Cp.out _ _ HPZ.out).mono ?_
      rintro e w1 ⟨rfl, m3, hw⟩
      subst hw
      go_wp2_with fail
      go_ret2
      rw [EN.out]
      exact ⟨rfl, below_drewN (Below.refl _ _) _⟩
    have c6' : ¬ (A : Int) ≤ (PB : Int) := by omega
    have E := hide (FEN.out (FIN.out (by rw [ELP.out]; omega)))
    by_cases c8 : k + 1 = M
    · have c8' : ((k : Int) == (M : Int) - 1) = true := by simp; omega
      by_cases c9 : B = 65535
      · have c9' : ((B : Int) != 65535) = false := by simp; omega
        have EL := hide (FLS.out c9)
        clear c7 c9 c8 FIN FNO FLA FEN FLS c6
        go_wp2_with fail
        refine (Cp.out _ _ HPZ.out).mono ?_
        rintro e w1 ⟨rfl, m3, hw⟩
        subst hw
        go_wp2_with fail
        go_roundw
        case rel => exact ⟨k + 1, by go_num, hide ⟨by omega, E.out, EL.out, _, rfl⟩⟩
        case measure => simp [intOf]; omega
      · have c9' : ((B : Int) != 65535) = true := by simp; omega
        have EN := hide (FLA.out c8 c9)
        clear c7 c9 c8 FIN FNO FLA FEN FLS c6
        go_wp2_with fail
        refine (Cp.out _ _ HPZ.out).mono ?_
        rintro e w1 ⟨rfl, m3, hw⟩
        subst hw
        go_wp2_with fail
        go_ret2
        rw [EN.out]
        exact ⟨rfl, below_drewN (Below.refl _ _) _⟩
    · have c8' : ((k : Int) == (M : Int) - 1) = false := by simp; omega
      have HC8 := hide c8
      clear c7 c8 FIN FNO FLA FEN FLS c6
      go_wp2_with fail
      refine (Cp.out _ _ HPZ.out).mono ?_
      rintro e w1 ⟨rfl, m3, hw⟩
      subst hw
      go_wp2_with fail
      go_roundw
      case rel => exact ⟨k + 1, by go_num, hide ⟨by omega, E.out, fun h => absurd h HC8.out, _, rfl⟩⟩
      case measure => simp [intOf]; omega
end Go.Proofs.Ytkmmphpaaahajaa
