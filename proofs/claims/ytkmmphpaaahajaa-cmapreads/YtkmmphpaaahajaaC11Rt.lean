/-
  What the reference's U2, U4 (any place) and twelve answer.
-/
import Derived.Test.YtkmmphpaaahajaaC11Ra
import Derived.Test.YtkmmphpaaahajaaC11G
namespace Go.Proofs.Ytkmmphpaaahajaa
open Go.RowKit Go.Deep
set_option linter.unusedVariables false
set_option linter.unusedSimpArgs false

def U2R (w : World) (l : List UInt8) (N k : Nat) (e : Ending) (w' : World) : Prop := ∃ y : Nat, e = .returned (.int .i64 (y : Int)) ∧ y ≤ 65535 ∧ (k + 2 ≤ N → y = n2 l k) ∧ ∃ n, w' = w.drewN n
theorem ru2_z (s : ByteArray) (k : Nat) (z : Int) (w : World) (hz : z = (k : Int)) (hm : s.size ≤ 1073741824) (hk : k ≤ 1073741824) :
    Calls Try.prog 22 #[.string s, .int .i64 z] w (U2R w s.data.toList s.size k) := by
  by_cases h : k + 2 ≤ s.size
  · refine (ru2_any s k z w hz h hm).mono ?_
    rintro e w' ⟨h1, h2⟩
    exact ⟨_, h1, by have := n2_lt s.data.toList k; omega, fun _ => rfl, h2⟩
  · subst hz
    have h0 : ¬ (k : Int) < 0 := by omega
    have h1 : (s.size : Int) - 2 < (k : Int) := by omega
    have h2 : (s.size : Int) ≤ 1073741824 := by omega
    have h3 : (0 : Int) ≤ (s.size : Int) := by omega
    have HH := hide h
    clear h
    go_enter Try.func22, Try.ntmps22
    go_wp2_with fail
    go_ret
    exact ⟨0, rfl, by omega, fun h => absurd h HH.out, 0, rfl⟩
def U4R (w : World) (l : List UInt8) (N k : Nat) (e : Ending) (w' : World) : Prop := ∃ y : Nat, e = .returned (.int .i64 (y : Int)) ∧ y ≤ 4294967295 ∧ (k + 4 ≤ N → y = n4 l k) ∧ ∃ n, w' = w.drewN n
theorem ru4_z (s : ByteArray) (k : Nat) (z : Int) (w : World) (hz : z = (k : Int)) (hm : s.size ≤ 1073741824) (hk : k ≤ 1000000000) :
    Calls Try.prog 23 #[.string s, .int .i64 z] w (U4R w s.data.toList s.size k) := by
  subst hz
  have C1 := hide (fun z w (hz : z = (k : Int)) => ru2_z s k z w hz hm (by omega))
  have C2 := hide (fun z w (hz : z = ((k + 2 : Nat) : Int)) => ru2_z s (k + 2) z w hz hm (by omega))
  have k0 : (0 : Int) ≤ (k : Int) := by omega
  have k1 : (k : Int) ≤ 1000000000 := by omega
  clear hm hk
  go_enter Try.func23, Try.ntmps23
  go_wp2_with fail
  refine (C1.out _ _ rfl).mono ?_
  rintro e wy ⟨A, rfl, a1, a2, m1, hy⟩
  subst wy
  have HA2 := hide a2
  have a1' : (A : Int) ≤ 65535 := by omega
  have a0' : (0 : Int) ≤ (A : Int) := by omega
  clear a2
  go_wp2_with fail
  refine (C2.out _ _ (by omega)).mono ?_
  rintro e wy ⟨B, rfl, b1, b2, m2, hy⟩
  subst wy
  have HB2 := hide b2
  have ho := or_two (A : Int) (B : Int) (by omega) (by omega) (by omega) (by omega)
  obtain ⟨R, hR⟩ : ∃ R : Nat, (R : Int) = (A : Int) * 65536 + (B : Int) := ⟨A * 65536 + B, by omega⟩
  rw [← hR] at ho
  have HR := hide hR
  have HAB := hide (And.intro a1 b1)
  clear b2 hR a1 b1
  go_wp2_with fail
  go_ret
  exact ⟨R, rfl, by have := HR.out; have := HAB.out; omega, fun h => by
    have h1 := HA2.out (by omega)
    have h2 := HB2.out (by omega)
    have h3 := HR.out
    unfold n4
    rw [← h1, ← h2]
    omega, _, rfl⟩
set_option maxRecDepth 8000 in
set_option maxHeartbeats 2000000 in
theorem rtw_bad (s : ByteArray) (n : Nat) (w : World) (hs : s.size ≤ 1073741824) (h : twB s.data.toList = false) :
    Calls Try.prog 24 #[.string s, .int .i64 (n : Int)] w fun e w' => e = .returned (.tuple #[.slice none 0 0, .bool false]) ∧ ∃ m, w' = w.drewN m := by
  have hs' : (s.size : Int) ≤ 1073741824 := by omega
  have hT : ¬ (16 ≤ s.data.toList.length ∧ s.data.toList.take 4 = [0, 12, 0, 0] ∧ n4 s.data.toList 12 ≤ 4096 ∧ n4 s.data.toList 4 = 16 + 12 * n4 s.data.toList 12 ∧ 16 + 12 * n4 s.data.toList 12 ≤ s.data.toList.length) := fun hh => by rw [twB_t.2 hh] at h; cases h
  rw [← Lib.size_eq] at hT
  clear h
  have CZ := hide (fun w => ru4_z s 12 12 w rfl hs (by omega))
  by_cases h1 : s.size < 16
  · have h1' : (s.size : Int) < 16 := by omega
    clear hT
    go_enter Try.func24, Try.ntmps24
    go_wp2_with fail
    refine (CZ.out _).mono ?_
    rintro e w1 ⟨y, rfl, y1, _, k1, hw⟩
    subst hw
    go_wp2_with fail
    go_ret2
    exact ⟨rfl, _, rfl⟩
  have h1' : ¬ (s.size : Int) < 16 := by omega
  have h1b : (4 : Int) ≤ (s.size : Int) := by omega
  have hq := head_eq s 4 [0, 12, 0, 0]
  by_cases h2 : s.data.toList.take 4 = [0, 12, 0, 0]
  case neg =>
    rw [decide_eq_false h2] at hq
    clear hT h2
    go_enter Try.func24, Try.ntmps24
    go_wp2_with fail
    refine (CZ.out _).mono ?_
    rintro e w1 ⟨y, rfl, y1, _, k1, hw⟩
    subst hw
    go_wp2_with fail
    go_ret2
    exact ⟨rfl, _, rfl⟩
  rw [decide_eq_true h2] at hq
  have C12 := hide (fun w => ru4_any s 12 12 w rfl (by omega) hs)
  have C4 := hide (fun w => ru4_any s 4 4 w rfl (by omega) hs)
  have HT : Hid (¬ (n4 s.data.toList 12 ≤ 4096 ∧ n4 s.data.toList 4 = 16 + 12 * n4 s.data.toList 12 ∧ 16 + 12 * n4 s.data.toList 12 ≤ s.size)) := hide (fun hh => hT ⟨by omega, h2, hh⟩)
  have b4 := n4_lt s.data.toList 4
  have b12 := n4_lt s.data.toList 12
  obtain ⟨M, hM⟩ : ∃ M : Int, ((n4 s.data.toList 12 : Nat) : Int) = M := ⟨_, rfl⟩
  obtain ⟨Z, hZ⟩ : ∃ Z : Int, ((n4 s.data.toList 4 : Nat) : Int) = Z := ⟨_, rfl⟩
  rw [hM] at C12
  rw [hZ] at C4
  have m0 : 0 ≤ M := by omega
  have m1 : M ≤ 4294967295 := by omega
  have HT' : Hid (¬ (M ≤ 4096 ∧ Z = 16 + 12 * M ∧ 16 + 12 * M ≤ (s.size : Int))) := hide (fun hh => HT.out (by omega))
  clear hT HT b4 b12 hM hZ h2 CZ
  by_cases h3 : 4096 < M
  · clear HT'
    go_enter Try.func24, Try.ntmps24
    go_wp2_with fail
    refine (C12.out _).mono ?_
    rintro e w1 ⟨rfl, k1, hw⟩
    subst hw
    go_wp2_with fail
    go_ret2
    exact ⟨rfl, _, rfl⟩
  have h3' : decide (4096 < M) = false := by simp; omega
  have h3b : M ≤ 4096 := by omega
  by_cases h4 : Z = 16 + 12 * M
  case neg =>
    have h4' : (Z != 16 + 12 * M) = true := by simpa using h4
    clear HT' h4 h3
    go_enter Try.func24, Try.ntmps24
    go_wp2_with fail
    refine (C12.out _).mono ?_
    rintro e w1 ⟨rfl, k1, hw⟩
    subst hw
    go_wp2_with fail
    refine (C4.out _).mono ?_
    rintro e w1 ⟨rfl, k2, hw⟩
    subst hw
    go_wp2_with fail
    go_ret2
    exact ⟨rfl, _, rfl⟩
  have h4' : (Z != 16 + 12 * M) = false := by simpa using h4
  have h5 : (s.size : Int) < 16 + 12 * M := by have := HT'.out; omega
  clear HT' h4 h3
  go_enter Try.func24, Try.ntmps24
  go_wp2_with fail
  refine (C12.out _).mono ?_
  rintro e w1 ⟨rfl, k1, hw⟩
  subst hw
  go_wp2_with fail
  refine (C4.out _).mono ?_
  rintro e w1 ⟨rfl, k2, hw⟩
  subst hw
  go_wp2_with fail
  go_ret2
  exact ⟨rfl, _, rfl⟩
set_option maxRecDepth 8000 in
set_option maxHeartbeats 8000000 in
theorem rtw_ok (s : ByteArray) (n : Nat) (w : World) (hs : s.size ≤ 1073741824) (h : twB s.data.toList = true) (hn : n ≤ 4096) :
    Calls Try.prog 24 #[.string s, .int .i64 (n : Int)] w (AdR w w.heap.size (twV s.data.toList n)) := by
  have hs' : (s.size : Int) ≤ 1073741824 := by omega
  have hn' : (n : Int) ≤ 4096 := by omega
  have hT := twB_t.1 h
  rw [← Lib.size_eq] at hT
  obtain ⟨h1, h2, h3, h4, h5⟩ := hT
  have h1' : ¬ (s.size : Int) < 16 := by omega
  have h1b : (4 : Int) ≤ (s.size : Int) := by omega
  have hq := head_eq s 4 [0, 12, 0, 0]
  rw [decide_eq_true h2] at hq
  have CF := hide (fun (j : Nat) (z : Int) (w : World) (hz : z = (j : Int)) (h : j + 4 ≤ s.size) => ru4_any s j z w hz h hs)
  have C12 := hide (fun w => CF.out 12 12 w rfl (by omega))
  have C4 := hide (fun w => CF.out 4 4 w rfl (by omega))
  have HVB := hide (fun (i : Nat) => @twV_bad s.data.toList n i)
  have HVF := hide (fun (i : Nat) => @twV_full s.data.toList n i)
  have HVO := hide (@twV_ok s.data.toList n h)
  have HLL := hide (n4_lt s.data.toList)
  obtain ⟨M, hM⟩ : ∃ M : Nat, n4 s.data.toList 12 = M := ⟨_, rfl⟩
  rw [hM] at C12 h3 h4 h5 HVB HVF HVO
  obtain ⟨Z, hZ⟩ : ∃ Z : Int, ((n4 s.data.toList 4 : Nat) : Int) = Z := ⟨_, rfl⟩
  rw [hZ] at C4
  have h3' : ¬ (4096 : Int) < (M : Int) := by omega
  have h3b : (M : Int) ≤ 4096 := by omega
  have h3c : (0 : Int) ≤ (M : Int) := by omega
  have h4' : (Z != 16 + 12 * (M : Int)) = false := by simp; omega
  have h5' : ¬ (s.size : Int) < 16 + 12 * (M : Int) := by omega
  have H5 := hide h5
  clear h h1 h2 h3 h4 h5 hM hZ
  go_enter Try.func24, Try.ntmps24
  go_wp2_with fail
  refine (C12.out _).mono ?_
  rintro e w1 ⟨rfl, k1, hw⟩
  subst hw
  go_wp2_with fail
  refine (C4.out _).mono ?_
  rintro e w1 ⟨rfl, k2, hw⟩
  subst hw
  go_wp2_with fail
  go_loopw [7, 8] (fun vl vi wr => ∃ (k : Nat), vi = .int .i64 k ∧ vl = .int .i64 ((lea s.data.toList k : Nat) - 1 : Int) ∧ Hid (k ≤ M ∧ (∀ j, j < k → okG s.data.toList n j = true) ∧ ∃ m, wr = w.drewN m)) (fun _ vi _ => M - (intOf vi).toNat)
  case atStart => exact ⟨0, rfl, rfl, hide ⟨by omega, fun j hj => by omega, _, rfl⟩⟩
  case round =>
    obtain ⟨k, rfl, rfl, HV⟩ := hrel
    obtain ⟨hk, hok, m, hwm⟩ := HV.out
    subst hwm
    have hk0 : (0 : Int) ≤ (k : Int) := by omega
    have HOK := hide hok
    clear HV hok
    by_cases hlt : k < M
    case neg =>
      have hlt' : ¬ (k : Int) < (M : Int) := by omega
      have EV : Hid (twV s.data.toList n = accG s.data.toList M) := hide (by
        obtain rfl : k = M := by omega
        exact HVO.out HOK.out)
      obtain ⟨le, hle⟩ : ∃ le : Int, ((lea s.data.toList k : Nat) : Int) - 1 = le := ⟨_, rfl⟩
      rw [hle]
      have HOM : Hid (∀ j, j < M → okG s.data.toList n j = true) := hide (fun j hj => HOK.out j (by omega))
      clear hle HOK
      go_wp2_with fail
      clear hlt hlt' hk hk0
      go_loopw [12, 13, 14] (fun vo vk vi wr => ∃ (q : Nat) (cur : List Ch), vi = .int .i64 q ∧ vk = .bool true ∧ Hid (q ≤ M ∧ accG s.data.toList q = some cur ∧ BD cur ∧ CRow wr w.heap.size vo cur ∧ Below w.heap.size w wr)) (fun _ _ vi _ => M - (intOf vi).toNat)
      case atStart => exact ⟨0, [], rfl, rfl, hide ⟨by omega, rfl, BD.nil, CRow.nil _ _, below_drewN (Below.refl _ _) _⟩⟩
      case round =>
        obtain ⟨q, cur, rfl, rfl, HV⟩ := hrel
        obtain ⟨hq1, hac, hbd, hcr, hbw⟩ := HV.out
        have hq0 : (0 : Int) ≤ (q : Int) := by omega
        have HAC := hide hac
        have HBD := hide hbd
        have HCR := hide hcr
        have HBW := hide hbw
        clear HV hac hbd hcr hbw
        by_cases hlt : q < M
        case neg =>
          have hlt' : ¬ (q : Int) < (M : Int) := by omega
          have E : Hid (twV s.data.toList n = some cur) := hide (by
            obtain rfl : q = M := by omega
            rw [EV.out, HAC.out])
          go_wp2_with fail
          go_ret2
          rw [E.out]
          exact ⟨_, rfl, HCR.out, HBW.out⟩
        have hlt' : (q : Int) < (M : Int) := by omega
        have C1 := hide (fun z w (hz : z = ((16 + 12 * q : Nat) : Int)) => CF.out (16 + 12 * q) z w hz (by have := H5.out; omega))
        have C2 := hide (fun z w (hz : z = ((20 + 12 * q : Nat) : Int)) => CF.out (20 + 12 * q) z w hz (by have := H5.out; omega))
        have C3 := hide (fun z w (hz : z = ((24 + 12 * q : Nat) : Int)) => CF.out (24 + 12 * q) z w hz (by have := H5.out; omega))
        have EOK : okG s.data.toList n q = decide (lea s.data.toList q ≤ n4 s.data.toList (16 + 12 * q) ∧ n4 s.data.toList (16 + 12 * q) ≤ n4 s.data.toList (20 + 12 * q) ∧ n4 s.data.toList (20 + 12 * q) ≤ 1114111 ∧ n4 s.data.toList (24 + 12 * q) + (n4 s.data.toList (20 + 12 * q) - n4 s.data.toList (16 + 12 * q)) < n) := rfl
        rw [HOM.out q hlt] at EOK
        have EOK2 := of_decide_eq_true EOK.symm
        have EAC := hide (show accG s.data.toList (q + 1) = grpF (n4 s.data.toList (16 + 12 * q)) (n4 s.data.toList (24 + 12 * q)) cur (n4 s.data.toList (20 + 12 * q) - n4 s.data.toList (16 + 12 * q) + 1) by rw [accG, HAC.out]; rfl)
        clear EOK
        generalize n4 s.data.toList (16 + 12 * q) = A at *
        generalize n4 s.data.toList (20 + 12 * q) = B at *
        generalize n4 s.data.toList (24 + 12 * q) = G at *
        obtain ⟨_, o2, o3, o4⟩ := EOK2
        have a0 : (0 : Int) ≤ (A : Int) := by omega
        have a1 : (A : Int) ≤ 1114111 := by omega
        have b0 : (0 : Int) ≤ (B : Int) := by omega
        have b1 : (B : Int) ≤ 1114111 := by omega
        have g0 : (0 : Int) ≤ (G : Int) := by omega
        have g1 : (G : Int) ≤ 4096 := by omega
        obtain ⟨cnt, hcnt⟩ : ∃ cnt, B - A + 1 = cnt := ⟨_, rfl⟩
        rw [hcnt] at EAC
        have HCN := hide hcnt
        have HO := hide (And.intro o2 (And.intro o3 o4))
        clear hcnt o2 o3 o4
        go_wp2_with fail
        refine (C1.out _ _ (by omega)).mono ?_
        rintro e w1 ⟨rfl, m1, hw⟩
        subst hw
        go_wp2_with fail
        refine (C2.out _ _ (by omega)).mono ?_
        rintro e w1 ⟨rfl, m2, hw⟩
        subst hw
        go_wp2_with fail
        refine (C3.out _ _ (by omega)).mono ?_
        rintro e w1 ⟨rfl, m3, hw⟩
        subst hw
        have HB3 : Hid (∀ m, Below w.heap.size w (wr.drewN m)) := hide (fun m => below_drewN HBW.out m)
        have HC3 : Hid (∀ m, CRow (wr.drewN m) w.heap.size u12 cur) := hide (fun m => HCR.out)
        go_wp2_with fail
        go_loopw [12, 13, 18] (fun vo vk vc wr => ∃ (j : Nat) (cu : List Ch), vc = .int .i64 ((A + j : Nat) : Int) ∧ vk = .bool true ∧ Hid (j ≤ cnt ∧ grpF A G cur j = some cu ∧ BD cu ∧ CRow wr w.heap.size vo cu ∧ Below w.heap.size w wr)) (fun _ _ vc _ => A + cnt - (intOf vc).toNat)
        case atStart => exact ⟨0, cur, rfl, rfl, hide ⟨by omega, rfl, HBD.out, HC3.out _, HB3.out _⟩⟩
        case round =>
          obtain ⟨j, cu, rfl, rfl, HV⟩ := hrel
          obtain ⟨hj, hgr, hbd, hcr, hbw⟩ := HV.out
          have HGR := hide hgr
          have HBD2 := hide hbd
          have HCR2 := hide hcr
          have HBW2 := hide hbw
          clear HV hgr hbd hcr hbw HC3 HB3
          obtain ⟨c, hc⟩ : ∃ c : Int, ((A + j : Nat) : Int) = c := ⟨_, rfl⟩
          rw [hc]
          have HC := hide hc
          have q0 : 0 ≤ c := by omega
          have q1 : c ≤ 1114112 := by have := HCN.out; have := HO.out; omega
          by_cases hlt2 : j < cnt
          case neg =>
            have hlt2' : ¬ c ≤ (B : Int) := by have := HCN.out; have := HO.out; omega
            have EJ : Hid (accG s.data.toList (q + 1) = some cu) := hide (by
              rw [EAC.out, ← HGR.out]
              obtain rfl : j = cnt := by omega
              rfl)
            clear hc
            go_wp2_with fail
            go_roundw
            case rel => exact ⟨q + 1, cu, by go_num, rfl, hide ⟨by omega, EJ.out, HBD2.out, HCR2.out, HBW2.out⟩⟩
            case measure => simp [intOf]; omega
          have hlt2' : c ≤ (B : Int) := by have := HCN.out; have := HO.out; omega
          have q2 : c ≤ 1114111 := by omega
          have q3 : (A : Int) ≤ c := by omega
          obtain ⟨g2, hg2⟩ : ∃ g2 : Int, (G : Int) + c - (A : Int) = g2 := ⟨_, rfl⟩
          have HG2 : Hid (((G + j : Nat) : Int) = g2) := hide (by omega)
          have r0 : 0 ≤ g2 := by omega
          have r1 : g2 ≤ 4096 := by have := HCN.out; have := HO.out; omega
          have EST : Hid (grpF A G cur (j + 1) = stP cu c g2) := hide (by rw [grpF, HGR.out, ← HC.out, ← HG2.out]; rfl)
          have CT := hide (radd_any w.heap.size u12 c g2 cu wr HCR2.out HBW2.out.size HBD2.out r0 (by omega) q0 q2)
          cases hadd : stP cu c g2 with
          | none =>
            rw [hadd] at CT EST
            have EN : Hid (twV s.data.toList n = none) := hide (HVF.out (q + 1) (by omega) (by rw [EAC.out]; exact grpF_end EST.out (by omega)))
            clear hadd hc
            go_wp2_with fail
            refine CT.out.mono ?_
            rintro e w1 ⟨rfl, ht⟩
            have HT2 := hide (HBW2.out.trans ht)
            clear ht
            go_wp2_with fail
            go_ret2
            rw [EN.out]
            exact ⟨rfl, HT2.out⟩
          | some cs2 =>
            have HBD3 := hide (HBD2.out.stP r0 (by omega) hadd)
            rw [hadd] at CT EST
            clear hadd hc
            go_wp2_with fail
            refine CT.out.mono ?_
            rintro e w1 ⟨v2, rfl, hc2, ht⟩
            have HCR3 := hide hc2
            have HT2 := hide (HBW2.out.trans ht)
            clear ht hc2
            have ENX : Hid (((A + (j + 1) : Nat) : Int) = c + 1) := hide (by have := HC.out; omega)
            go_wp2_with fail
            go_roundw
            case rel => exact ⟨j + 1, cs2, by rw [ENX.out], rfl, hide ⟨by omega, EST.out, HBD3.out, HCR3.out, HT2.out⟩⟩
            case measure => have := HC.out; simp [intOf]; omega
    have hlt' : (k : Int) < (M : Int) := by omega
    have C1 := hide (fun z w (hz : z = ((16 + 12 * k : Nat) : Int)) => CF.out (16 + 12 * k) z w hz (by have := H5.out; omega))
    have C2 := hide (fun z w (hz : z = ((20 + 12 * k : Nat) : Int)) => CF.out (20 + 12 * k) z w hz (by have := H5.out; omega))
    have C3 := hide (fun z w (hz : z = ((24 + 12 * k : Nat) : Int)) => CF.out (24 + 12 * k) z w hz (by have := H5.out; omega))
    have ba := HLL.out (16 + 12 * k)
    have bb := HLL.out (20 + 12 * k)
    have bg := HLL.out (24 + 12 * k)
    have EOK := hide (show okG s.data.toList n k = decide (lea s.data.toList k ≤ n4 s.data.toList (16 + 12 * k) ∧ n4 s.data.toList (16 + 12 * k) ≤ n4 s.data.toList (20 + 12 * k) ∧ n4 s.data.toList (20 + 12 * k) ≤ 1114111 ∧ n4 s.data.toList (24 + 12 * k) + (n4 s.data.toList (20 + 12 * k) - n4 s.data.toList (16 + 12 * k)) < n) from rfl)
    have ELE := hide (show lea s.data.toList (k + 1) = n4 s.data.toList (20 + 12 * k) + 1 from rfl)
    generalize n4 s.data.toList (16 + 12 * k) = A at *
    generalize n4 s.data.toList (20 + 12 * k) = B at *
    generalize n4 s.data.toList (24 + 12 * k) = G at *
    generalize lea s.data.toList k = LE at *
    obtain ⟨a, hA⟩ : ∃ a : Int, (A : Int) = a := ⟨_, rfl⟩
    obtain ⟨b, hB⟩ : ∃ b : Int, (B : Int) = b := ⟨_, rfl⟩
    obtain ⟨g, hG⟩ : ∃ g : Int, (G : Int) = g := ⟨_, rfl⟩
    obtain ⟨le, hLE⟩ : ∃ le : Int, (LE : Int) - 1 = le := ⟨_, rfl⟩
    rw [hA] at C1
    rw [hB] at C2
    rw [hG] at C3
    rw [hLE]
    have a0 : 0 ≤ a := by omega
    have a1 : a ≤ 4294967295 := by omega
    have b0 : 0 ≤ b := by omega
    have b1 : b ≤ 4294967295 := by omega
    have g0 : 0 ≤ g := by omega
    have g1 : g ≤ 4294967295 := by omega
    have HIN := hide (And.intro hA (And.intro hB (And.intro hG hLE)))
    have ENO : Hid (¬ (le < a ∧ a ≤ b ∧ b ≤ 1114111 ∧ g + b - a < (n : Int)) → twV s.data.toList n = none) := hide (fun hh => HVB.out k hlt (by rw [EOK.out]; exact decide_eq_false (by omega)))
    have EYES : Hid ((le < a ∧ a ≤ b ∧ b ≤ 1114111 ∧ g + b - a < (n : Int)) → okG s.data.toList n k = true) := hide (fun hh => by rw [EOK.out]; exact decide_eq_true (by omega))
    clear ba bb bg hA hB hG hLE EOK
    go_wp2_with fail
    refine (C1.out _ _ (by omega)).mono ?_
    rintro e w1 ⟨rfl, m1, hw⟩
    subst hw
    go_wp2_with fail
    refine (C2.out _ _ (by omega)).mono ?_
    rintro e w1 ⟨rfl, m2, hw⟩
    subst hw
    go_wp2_with fail
    refine (C3.out _ _ (by omega)).mono ?_
    rintro e w1 ⟨rfl, m3, hw⟩
    subst hw
    by_cases c2 : b < a
    · have E := hide (ENO.out (by omega))
      clear EYES ENO
      go_wp2_with fail
      go_ret2
      rw [E.out]
      exact ⟨rfl, below_drewN (Below.refl _ _) _⟩
    have c2' : decide (b < a) = false := by simp; omega
    by_cases c1 : a ≤ le
    · have E := hide (ENO.out (by omega))
      clear EYES ENO c2
      go_wp2_with fail
      go_ret2
      rw [E.out]
      exact ⟨rfl, below_drewN (Below.refl _ _) _⟩
    have c1' : decide (a ≤ le) = false := by simp; omega
    by_cases c3 : 1114111 < b
    · have E := hide (ENO.out (by omega))
      clear EYES ENO c1 c2
      go_wp2_with fail
      go_ret2
      rw [E.out]
      exact ⟨rfl, below_drewN (Below.refl _ _) _⟩
    have c3' : decide (1114111 < b) = false := by simp; omega
    by_cases c4 : (n : Int) ≤ g + b - a
    · have E := hide (ENO.out (by omega))
      clear EYES ENO c1 c2 c3
      go_wp2_with fail
      go_ret2
      rw [E.out]
      exact ⟨rfl, below_drewN (Below.refl _ _) _⟩
    have c4' : decide ((n : Int) ≤ g + b - a) = false := by simp; omega
    have E := hide (EYES.out (by omega))
    have EL2 : Hid (((lea s.data.toList (k + 1) : Nat) : Int) - 1 = b) := hide (by rw [ELE.out]; have := HIN.out; omega)
    clear EYES ENO c1 c2 c3 c4
    go_wp2_with fail
    go_roundw
    case rel => exact ⟨k + 1, by go_num, by rw [EL2.out], hide ⟨by omega, fun i hi => by
        rcases Nat.lt_or_ge i k with h' | h'
        · exact HOK.out i h'
        · obtain rfl : i = k := by omega
          exact E.out, _, rfl⟩⟩
    case measure => simp [intOf]; omega
end Go.Proofs.Ytkmmphpaaahajaa
