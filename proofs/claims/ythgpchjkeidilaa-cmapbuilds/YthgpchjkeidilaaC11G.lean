/-
  What cmap's walkGroups answers.
-/
import Derived.Test.YthgpchjkeidilaaC11T
namespace Go.Proofs.Ythgpchjkeidilaa
open Go.RowKit Go.Deep
set_option linter.unusedVariables false

def takeF (L : Nat) : Value := .func (.func 17) #[] #[.pointer (some ⟨L, 0, none⟩)]
theorem head_eq (s : ByteArray) (k : Nat) (t : List UInt8) : ((s.extract 0 k).toList == t) = decide (s.data.toList.take k = t) := by
  rw [Lib.toList_data, Lib.extract_data]
  simp only [Nat.sub_zero, List.drop_zero]
  cases h : decide (s.data.toList.take k = t)
  · rw [beq_eq_false_iff_ne]; simpa using h
  · rw [beq_iff_eq]; simpa using h
set_option maxRecDepth 8000 in
set_option maxHeartbeats 2000000 in
theorem groups_bad (L : Nat) (s : ByteArray) (n : Nat) (w : World) (hs : s.size ≤ 1073741824) (h : twB s.data.toList = false) :
    Calls Try.prog 31 #[.string s, .int .i64 (n : Int), .func (.func 17) #[] #[.pointer (some ⟨L, 0, none⟩)]] w fun e w' => e = .returned (.bool false) ∧ ∃ m, w' = w.drewN m := by
  have hs' : (s.size : Int) ≤ 1073741824 := by omega
  have hT : ¬ (16 ≤ s.data.toList.length ∧ s.data.toList.take 4 = [0, 12, 0, 0] ∧ n4 s.data.toList 12 ≤ 4096 ∧ n4 s.data.toList 4 = 16 + 12 * n4 s.data.toList 12 ∧ 16 + 12 * n4 s.data.toList 12 ≤ s.data.toList.length) := fun hh => by rw [twB_t.2 hh] at h; cases h
  rw [← Lib.size_eq] at hT
  clear h
  by_cases h1 : s.size < 16
  · have h1' : (s.size : Int) < 16 := by omega
    clear hT
    go_enter Try.func31, Try.ntmps31
    go_wp2_with fail
    go_ret
    exact ⟨rfl, 0, rfl⟩
  have h1' : ¬ (s.size : Int) < 16 := by omega
  have h1b : (4 : Int) ≤ (s.size : Int) := by omega
  have hq := head_eq s 4 [0, 12, 0, 0]
  by_cases h2 : s.data.toList.take 4 = [0, 12, 0, 0]
  case neg =>
    rw [decide_eq_false h2] at hq
    clear hT h2
    go_enter Try.func31, Try.ntmps31
    go_wp2_with fail
    go_ret
    exact ⟨rfl, 0, rfl⟩
  rw [decide_eq_true h2] at hq
  have CF := hide (fun (j : Nat) (z : Int) (w : World) (hz : z = (j : Int)) (h : j + 4 ≤ s.size) => four_any s j z w hz h hs)
  have C12 := hide (fun w => CF.out 12 12 w rfl (by omega))
  have C4 := hide (fun w => CF.out 4 4 w rfl (by omega))
  have HT : Hid (¬ (n4 s.data.toList 12 ≤ 4096 ∧ n4 s.data.toList 4 = 16 + 12 * n4 s.data.toList 12 ∧ 16 + 12 * n4 s.data.toList 12 ≤ s.size)) := hide (fun hh => hT ⟨by omega, h2, hh⟩)
  have b4 := n4_lt s.data.toList 4
  have b12 := n4_lt s.data.toList 12
  obtain ⟨M, hM⟩ : ∃ M : Int, ((n4 s.data.toList 12 : Nat) : Int) = M := ⟨_, rfl⟩
  obtain ⟨Z, hZ⟩ : ∃ Z : Int, ((n4 s.data.toList 4 : Nat) : Int) = Z := ⟨_, rfl⟩
  rw [hM] at C12
  rw [hZ] at C4
  have m0 : 0 ≤ M := by omega
  have m1 : M ≤ 4294967295 := by omega
  have HT' : Hid (¬ (M ≤ 4096 ∧ Z = 16 + 12 * M ∧ 16 + 12 * M ≤ (s.size : Int))) := hide (fun hh => HT.out (by omega))
  clear hT HT b4 b12 hM hZ h2
  by_cases h3 : 4096 < M
  · clear HT'
    go_enter Try.func31, Try.ntmps31
    go_wp2_with fail
    refine (C12.out _).mono ?_
    rintro e w1 ⟨rfl, k1, hw⟩
    subst hw
    go_wp2_with fail
    go_ret
    exact ⟨rfl, _, rfl⟩
  have h3' : decide (4096 < M) = false := by simp; omega
  have h3b : M ≤ 4096 := by omega
  by_cases h4 : Z = 16 + 12 * M
  case neg =>
    have h4' : (Z != 16 + 12 * M) = true := by simpa using h4
    clear HT' h4 h3
    go_enter Try.func31, Try.ntmps31
    go_wp2_with fail
    refine (C12.out _).mono ?_
    rintro e w1 ⟨rfl, k1, hw⟩
    subst hw
    go_wp2_with fail
    refine (C4.out _).mono ?_
    rintro e w1 ⟨rfl, k2, hw⟩
    subst hw
    go_wp2_with fail
    go_ret
    exact ⟨rfl, _, rfl⟩
  have h4' : (Z != 16 + 12 * M) = false := by simpa using h4
  have h5 : (s.size : Int) < 16 + 12 * M := by have := HT'.out; omega
  clear HT' h4 h3
  go_enter Try.func31, Try.ntmps31
  go_wp2_with fail
  refine (C12.out _).mono ?_
  rintro e w1 ⟨rfl, k1, hw⟩
  subst hw
  go_wp2_with fail
  refine (C4.out _).mono ?_
  rintro e w1 ⟨rfl, k2, hw⟩
  subst hw
  go_wp2_with fail
  go_ret
  exact ⟨rfl, _, rfl⟩
set_option maxRecDepth 8000 in
set_option maxHeartbeats 4000000 in
theorem groups_ok (L : Nat) (s : ByteArray) (n : Nat) (w : World) (hs : s.size ≤ 1073741824) (h : twB s.data.toList = true) (hn : n ≤ 4096) (hS : TkS w L []) :
    Calls Try.prog 31 #[.string s, .int .i64 (n : Int), .func (.func 17) #[] #[.pointer (some ⟨L, 0, none⟩)]] w (TkR w L (twV s.data.toList n)) := by
  have hs' : (s.size : Int) ≤ 1073741824 := by omega
  have hn' : (n : Int) ≤ 4096 := by omega
  have hT := twB_t.1 h
  rw [← Lib.size_eq] at hT
  obtain ⟨h1, h2, h3, h4, h5⟩ := hT
  have h1' : ¬ (s.size : Int) < 16 := by omega
  have h1b : (4 : Int) ≤ (s.size : Int) := by omega
  have hq := head_eq s 4 [0, 12, 0, 0]
  rw [decide_eq_true h2] at hq
  have CF := hide (fun (j : Nat) (z : Int) (w : World) (hz : z = (j : Int)) (h : j + 4 ≤ s.size) => four_any s j z w hz h hs)
  have C12 := hide (fun w => CF.out 12 12 w rfl (by omega))
  have C4 := hide (fun w => CF.out 4 4 w rfl (by omega))
  have CP := hide isPt_any
  have HVB := hide (fun (i : Nat) => @twV_bad s.data.toList n i)
  have HVF := hide (fun (i : Nat) => @twV_full s.data.toList n i)
  have HVO := hide (@twV_ok s.data.toList n h)
  have HLL := hide (n4_lt s.data.toList)
  obtain ⟨M, hM⟩ : ∃ M : Nat, n4 s.data.toList 12 = M := ⟨_, rfl⟩
  rw [hM] at C12 h3 h4 h5 HVB HVF HVO
  obtain ⟨Z, hZ⟩ : ∃ Z : Int, ((n4 s.data.toList 4 : Nat) : Int) = Z := ⟨_, rfl⟩
  rw [hZ] at C4
  have h3' : ¬ (4096 : Int) < (M : Int) := by omega
  have h3b : (M : Int) ≤ 4096 := by omega
  have h3c : (0 : Int) ≤ (M : Int) := by omega
  have h4' : (Z != 16 + 12 * (M : Int)) = false := by simp; omega
  have h5' : ¬ (s.size : Int) < 16 + 12 * (M : Int) := by omega
  have H5 := hide h5
  have HS := hide hS
  clear h h1 h2 h3 h4 h5 hM hZ hS
  go_enter Try.func31, Try.ntmps31
  go_wp2_with fail
  refine (C12.out _).mono ?_
  rintro e w1 ⟨rfl, k1, hw⟩
  subst hw
  go_wp2_with fail
  refine (C4.out _).mono ?_
  rintro e w1 ⟨rfl, k2, hw⟩
  subst hw
  go_wp2_with fail
  go_loopw [9, 44] (fun vl vi wr => ∃ (k : Nat) (cur : List Ch), vi = .int .i64 k ∧ vl = .int .i64 ((lea s.data.toList k : Nat) : Int) ∧ Hid (k ≤ M ∧ (∀ j, j < k → okG s.data.toList n j = true) ∧ accG s.data.toList k = some cur ∧ BD cur ∧ TkS wr L cur ∧ TF L w wr)) (fun _ vi _ => M - (intOf vi).toNat)
  case atStart => exact ⟨0, [], rfl, rfl, hide ⟨by omega, fun j hj => by omega, rfl, BD.nil, HS.out.drewN _, (TF.refl _ _).drewN _⟩⟩
  case round =>
    obtain ⟨k, cur, rfl, rfl, HV⟩ := hrel
    obtain ⟨hk, hok, hac, hbd, htk, htf⟩ := HV.out
    have hk0 : (0 : Int) ≤ (k : Int) := by omega
    have HOK := hide hok
    have HAC := hide hac
    have HBD := hide hbd
    have HTK := hide htk
    have HTF := hide htf
    clear HV hok hac hbd htk htf HS
    by_cases hlt : k < M
    case neg =>
      have hlt' : ¬ (k : Int) < (M : Int) := by omega
      have E : Hid (twV s.data.toList n = some cur) := hide (by
        obtain rfl : k = M := by omega
        rw [HVO.out HOK.out, HAC.out])
      generalize ((lea s.data.toList k : Nat) : Int) = le at *
      go_wp2_with fail
      go_ret
      rw [E.out]
      exact ⟨rfl, HTK.out, HTF.out⟩
    have hlt' : (k : Int) < (M : Int) := by omega
    have C1 := hide (fun z w (hz : z = ((16 + 12 * k : Nat) : Int)) => CF.out (16 + 12 * k) z w hz (by have := H5.out; omega))
    have C2 := hide (fun z w (hz : z = ((20 + 12 * k : Nat) : Int)) => CF.out (20 + 12 * k) z w hz (by have := H5.out; omega))
    have C3 := hide (fun z w (hz : z = ((24 + 12 * k : Nat) : Int)) => CF.out (24 + 12 * k) z w hz (by have := H5.out; omega))
    have ba := HLL.out (16 + 12 * k)
    have bb := HLL.out (20 + 12 * k)
    have bg := HLL.out (24 + 12 * k)
    have EOK := hide (show okG s.data.toList n k = decide (lea s.data.toList k ≤ n4 s.data.toList (16 + 12 * k) ∧ n4 s.data.toList (16 + 12 * k) ≤ n4 s.data.toList (20 + 12 * k) ∧ n4 s.data.toList (20 + 12 * k) ≤ 1114111 ∧ n4 s.data.toList (24 + 12 * k) + (n4 s.data.toList (20 + 12 * k) - n4 s.data.toList (16 + 12 * k)) < n) from rfl)
    have EAC := hide (show accG s.data.toList (k + 1) = grpF (n4 s.data.toList (16 + 12 * k)) (n4 s.data.toList (24 + 12 * k)) cur (n4 s.data.toList (20 + 12 * k) - n4 s.data.toList (16 + 12 * k) + 1) by rw [accG, HAC.out]; rfl)
    have ELE := hide (show lea s.data.toList (k + 1) = n4 s.data.toList (20 + 12 * k) + 1 from rfl)
    generalize n4 s.data.toList (16 + 12 * k) = A at *
    generalize n4 s.data.toList (20 + 12 * k) = B at *
    generalize n4 s.data.toList (24 + 12 * k) = G at *
    generalize lea s.data.toList k = LE at *
    obtain ⟨a, hA⟩ : ∃ a : Int, (A : Int) = a := ⟨_, rfl⟩
    obtain ⟨b, hB⟩ : ∃ b : Int, (B : Int) = b := ⟨_, rfl⟩
    obtain ⟨g, hG⟩ : ∃ g : Int, (G : Int) = g := ⟨_, rfl⟩
    obtain ⟨le, hLE⟩ : ∃ le : Int, (LE : Int) = le := ⟨_, rfl⟩
    rw [hA] at C1
    rw [hB] at C2
    rw [hG] at C3
    rw [hLE]
    have a0 : 0 ≤ a := by omega
    have a1 : a ≤ 4294967295 := by omega
    have b0 : 0 ≤ b := by omega
    have b1 : b ≤ 4294967295 := by omega
    have g0 : 0 ≤ g := by omega
    have g1 : g ≤ 4294967295 := by omega
    have HIN := hide (And.intro hA (And.intro hB (And.intro hG hLE)))
    have ENO : Hid (¬ (le ≤ a ∧ a ≤ b ∧ b ≤ 1114111 ∧ g + b - a < (n : Int)) → twV s.data.toList n = none) := hide (fun hh => HVB.out k hlt (by rw [EOK.out]; exact decide_eq_false (by omega)))
    have EYES : Hid ((le ≤ a ∧ a ≤ b ∧ b ≤ 1114111 ∧ g + b - a < (n : Int)) → okG s.data.toList n k = true) := hide (fun hh => by rw [EOK.out]; exact decide_eq_true (by omega))
    clear ba bb bg hA hB hG hLE EOK
    go_wp2_with fail
    refine (C1.out _ _ (by omega)).mono ?_
    rintro e w1 ⟨rfl, m1, hw⟩
    subst hw
    go_wp2_with fail
    refine (C2.out _ _ (by omega)).mono ?_
    rintro e w1 ⟨rfl, m2, hw⟩
    subst hw
    go_wp2_with fail
    refine (C3.out _ _ (by omega)).mono ?_
    rintro e w1 ⟨rfl, m3, hw⟩
    subst hw
    have HTF2 : Hid (∀ m, TF L w (wr.drewN m)) := hide (fun m => HTF.out.drewN m)
    by_cases c1 : a < le
    · have E := hide (ENO.out (by omega))
      clear EYES ENO
      go_wp2_with fail
      go_ret
      rw [E.out]
      exact ⟨rfl, HTF2.out _⟩
    have c1' : decide (a < le) = false := by simp; omega
    by_cases c2 : b < a
    · have E := hide (ENO.out (by omega))
      clear EYES ENO c1
      go_wp2_with fail
      go_ret
      rw [E.out]
      exact ⟨rfl, HTF2.out _⟩
    have c2' : decide (b < a) = false := by simp; omega
    by_cases c3 : 1114111 < b
    · have E := hide (ENO.out (by omega))
      clear EYES ENO c1 c2
      go_wp2_with fail
      go_ret
      rw [E.out]
      exact ⟨rfl, HTF2.out _⟩
    have c3' : decide (1114111 < b) = false := by simp; omega
    by_cases c4 : (n : Int) ≤ g + b - a
    · have E := hide (ENO.out (by omega))
      clear EYES ENO c1 c2 c3
      go_wp2_with fail
      go_ret
      rw [E.out]
      exact ⟨rfl, HTF2.out _⟩
    have c4' : decide ((n : Int) ≤ g + b - a) = false := by simp; omega
    have E := hide (EYES.out (by omega))
    have b2 : b ≤ 1114111 := by omega
    have ab : a ≤ b := by omega
    have g2 : g ≤ 4096 := by omega
    obtain ⟨cnt, hcnt⟩ : ∃ cnt : Nat, (cnt : Int) = b - a + 1 := ⟨(b - a + 1).toNat, by omega⟩
    have HCN := hide hcnt
    have EC : Hid (B - A + 1 = cnt) := hide (by have := HIN.out; omega)
    have gb2 : g + b - a ≤ 4096 := by omega
    clear EYES ENO c1 c2 c3 c4
    go_wp2_with fail
    go_loopw [86] (fun vi wr => ∃ (j : Nat) (cu : List Ch), vi = .int .i64 j ∧ Hid (j ≤ cnt ∧ grpF A G cur j = some cu ∧ BD cu ∧ TkS wr L cu ∧ TF L w wr)) (fun vi _ => cnt - (intOf vi).toNat)
    case atStart => exact ⟨0, cur, rfl, hide ⟨by omega, rfl, HBD.out, HTK.out.drewN _, HTF2.out _⟩⟩
    case round =>
      obtain ⟨j, cu, rfl, HV⟩ := hrel
      obtain ⟨hj, hgr, hbd, htk, htf⟩ := HV.out
      have hj0 : (0 : Int) ≤ (j : Int) := by omega
      have HGR := hide hgr
      have HBD2 := hide hbd
      have HTK2 := hide htk
      have HTF3 := hide htf
      clear HV hgr hbd htk htf
      by_cases hlt2 : j < cnt
      case neg =>
        have hlt2' : ¬ (j : Int) < b - a + 1 := by omega
        have EJ : Hid (accG s.data.toList (k + 1) = some cu) := hide (by
          rw [EAC.out, EC.out, ← HGR.out]
          obtain rfl : j = cnt := by omega
          rfl)
        have EL2 : Hid (((lea s.data.toList (k + 1) : Nat) : Int) = b + 1) := hide (by rw [ELE.out]; have := HIN.out; omega)
        clear hcnt
        go_wp2_with fail
        go_roundw
        case rel => exact ⟨k + 1, cu, by go_num, by rw [EL2.out], hide ⟨by omega, fun i hi => by
            rcases Nat.lt_or_ge i k with h' | h'
            · exact HOK.out i h'
            · obtain rfl : i = k := by omega
              exact E.out, EJ.out, HBD2.out, HTK2.out, HTF3.out⟩⟩
        case measure => simp [intOf]; omega
      have hlt2' : (j : Int) < b - a + 1 := by omega
      obtain ⟨c, hc⟩ : ∃ c, a + (j : Int) = c := ⟨_, rfl⟩
      obtain ⟨q, hq2⟩ : ∃ q, g + (j : Int) = q := ⟨_, rfl⟩
      have q0 : 0 ≤ c := by omega
      have q1 : c ≤ 1114111 := by omega
      have r0 : 0 ≤ q := by omega
      have r1 : q ≤ 4096 := by omega
      have jb : (j : Int) ≤ 1114111 := by omega
      have EST : Hid (grpF A G cur (j + 1) = stP cu c q) := hide (by
        rw [grpF, HGR.out]
        show stP cu _ _ = _
        rw [show (((A + j : Nat) : Int)) = c by have := HIN.out; omega, show (((G + j : Nat) : Int)) = q by have := HIN.out; omega])
      have CP1 := hide (CP.out c)
      cases hp : isP c
      · rw [hp] at CP1
        have EST2 : Hid (grpF A G cur (j + 1) = some cu) := hide (by rw [EST.out, stP, hp]; rfl)
        clear EST hp hcnt
        go_wp2_with fail
        refine (CP1.out _).mono ?_
        rintro e w1 ⟨rfl, hw⟩
        subst hw
        go_wp2_with fail
        go_roundw
        case rel => exact ⟨j + 1, cu, by go_num, hide ⟨by omega, EST2.out, HBD2.out, HTK2.out, HTF3.out⟩⟩
        case measure => simp [intOf]; omega
      · rw [hp] at CP1
        have EST2 : Hid (grpF A G cur (j + 1) = addC cu c q) := hide (by rw [EST.out, stP, hp]; rfl)
        have CT := hide (take_any L c q cu wr HTK2.out HBD2.out r0 (by omega) q0 q1)
        cases hadd : addC cu c q with
        | none =>
          rw [hadd] at CT EST2
          have EN : Hid (twV s.data.toList n = none) := hide (HVF.out (k + 1) (by omega) (by rw [EAC.out, EC.out]; exact grpF_end EST2.out (by omega)))
          clear EST hp hadd hcnt
          go_wp2_with fail
          refine (CP1.out _).mono ?_
          rintro e w1 ⟨rfl, hw⟩
          subst hw
          go_wp2_with fail
          refine CT.out.mono ?_
          rintro e w1 ⟨rfl, ht⟩
          have HT2 := hide (HTF3.out.trans ht)
          clear ht
          go_wp2_with fail
          go_ret
          rw [EN.out]
          exact ⟨rfl, HT2.out⟩
        | some cs2 =>
          rw [hadd] at CT EST2
          have HBD3 := hide (HBD2.out.add q0 q1 r0 (by omega) hadd)
          clear EST hp hadd hcnt
          go_wp2_with fail
          refine (CP1.out _).mono ?_
          rintro e w1 ⟨rfl, hw⟩
          subst hw
          go_wp2_with fail
          refine CT.out.mono ?_
          rintro e w1 ⟨rfl, hk3, ht⟩
          have HK3 := hide hk3
          have HT2 := hide (HTF3.out.trans ht)
          clear ht hk3
          go_wp2_with fail
          go_roundw
          case rel => exact ⟨j + 1, cs2, by go_num, hide ⟨by omega, EST2.out, HBD3.out, HK3.out, HT2.out⟩⟩
          case measure => simp [intOf]; omega
end Go.Proofs.Ythgpchjkeidilaa
