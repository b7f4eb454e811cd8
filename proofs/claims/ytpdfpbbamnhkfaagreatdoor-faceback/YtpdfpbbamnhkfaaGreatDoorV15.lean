/-
  Joined: C11Ss, F12R.
-/
import Derived.Test.YtpdfpbbamnhkfaaGreatDoorV14
namespace Go.Proofs.YtpdfpbbamnhkfaaGreatDoor.C11
open Go.RowKit Go.Deep
set_option linter.unusedVariables false
set_option linter.unusedSimpArgs false
theorem ext_take (s : ByteArray) (k : Nat) : (s.extract 0 k).data.toList = s.data.toList.take k := by
  rw [Lib.extract_data]; simp
theorem segG_bd {l : List UInt8} {a d o p n : Nat} {cs : List Ch} (h : BD cs) (hn : n ≤ 4096) (ha : a ≤ 65535) : ∀ (j : Nat), a + j ≤ 65536 → ∀ {cs2}, segG l a d o p n cs j = some cs2 → BD cs2
  | 0, _, cs2, e => by cases e; exact h
  | j + 1, hj, cs2, e => by
    rw [segG] at e
    obtain ⟨x, h1, h2⟩ := Option.bind_eq_some_iff.1 e
    have hx := segG_bd h hn ha j (by omega) h1
    unfold stG at h2
    split at h2
    · cases h2; exact hx
    · rename_i hc
      cases hg : glW l a d o p (a + j) with
      | none => rw [hg] at h2; cases h2
      | some g =>
        rw [hg] at h2
        unfold gstep at h2
        split at h2
        · cases h2
        · rename_i g' e'
          cases e'
          split at h2
          · exact hx.add (by omega) (by omega) (by omega) (by omega) h2
          · cases h2
set_option maxRecDepth 8000 in
set_option maxHeartbeats 2000000 in
theorem segs_bad (L : Nat) (s : ByteArray) (n : Nat) (w : World) (hs : s.size ≤ 1073741824) (h : foB s.data.toList = false) :
    Calls Tryz.prog 208 #[.string s, .int .i64 (n : Int), .func (.func 167) #[] #[.pointer (some ⟨L, 0, none⟩)]] w fun e w' => e = .returned (.bool false) ∧ ∃ m, w' = w.drewN m := by
  have hs' : (s.size : Int) ≤ 1073741824 := by omega
  have hT : ¬ (16 ≤ s.data.toList.length ∧ s.data.toList.take 2 = [0, 4] ∧ n2 s.data.toList 6 % 2 = 0 ∧ 1 ≤ n2 s.data.toList 6 / 2 ∧ 16 + 8 * (n2 s.data.toList 6 / 2) ≤ n2 s.data.toList 2 ∧ n2 s.data.toList 2 ≤ s.data.toList.length) := fun hh => by rw [foB_t.2 hh] at h; cases h
  rw [← Lib.size_eq] at hT
  clear h
  by_cases h1 : s.size < 16
  · have h1' : (s.size : Int) < 16 := by omega
    clear hT
    go_enter Tryz.func208, Tryz.ntmps208
    go_wp2_with fail
    go_ret
    exact ⟨rfl, 0, rfl⟩
  have h1' : ¬ (s.size : Int) < 16 := by omega
  have h1b : (2 : Int) ≤ (s.size : Int) := by omega
  have hq := head_eq s 2 [0, 4]
  by_cases h2 : s.data.toList.take 2 = [0, 4]
  case neg =>
    rw [decide_eq_false h2] at hq
    clear hT h2
    go_enter Tryz.func208, Tryz.ntmps208
    go_wp2_with fail
    go_ret
    exact ⟨rfl, 0, rfl⟩
  rw [decide_eq_true h2] at hq
  have C2 := hide (fun w => two_any s 2 2 w rfl (by omega) hs)
  have C6 := hide (fun w => two_any s 6 6 w rfl (by omega) hs)
  have b2 := n2_lt s.data.toList 2
  have b6 := n2_lt s.data.toList 6
  have HT : Hid (¬ (n2 s.data.toList 6 % 2 = 0 ∧ 1 ≤ n2 s.data.toList 6 / 2 ∧ 16 + 8 * (n2 s.data.toList 6 / 2) ≤ n2 s.data.toList 2 ∧ n2 s.data.toList 2 ≤ s.size)) := hide (fun hh => hT ⟨by omega, h2, hh⟩)
  generalize n2 s.data.toList 2 = Z at *
  generalize n2 s.data.toList 6 = T at *
  obtain ⟨z, hz⟩ : ∃ z : Int, (Z : Int) = z := ⟨_, rfl⟩
  obtain ⟨t, ht⟩ : ∃ t : Int, (T : Int) = t := ⟨_, rfl⟩
  obtain ⟨m, hm⟩ : ∃ m : Int, ((T / 2 : Nat) : Int) = m := ⟨_, rfl⟩
  obtain ⟨r, hr⟩ : ∃ r : Int, ((T % 2 : Nat) : Int) = r := ⟨_, rfl⟩
  rw [hz] at C2
  rw [ht] at C6
  have z0 : 0 ≤ z := by omega
  have z1 : z ≤ 65535 := by omega
  have t0 : 0 ≤ t := by omega
  have t1 : t ≤ 65535 := by omega
  have m0 : 0 ≤ m := by omega
  have m1 : m ≤ 65535 := by omega
  have d1 : t.tdiv 2 = m := by rw [Int.tdiv_eq_ediv_of_nonneg t0]; omega
  have d2 : t / 2 = m := by omega
  have d3 : t.tmod 2 = r := by rw [Int.tmod_eq_emod_of_nonneg t0]; omega
  have d4 : t % 2 = r := by omega
  have HT' : Hid (¬ (r = 0 ∧ 1 ≤ m ∧ 16 + 8 * m ≤ z ∧ z ≤ (s.size : Int))) := hide (fun hh => HT.out (by omega))
  clear hT HT b2 b6 hz ht hm hr h2
  by_cases c1 : r = 0
  case neg =>
    have c1' : (r != 0) = true := by simpa using c1
    clear HT' c1
    go_enter Tryz.func208, Tryz.ntmps208
    go_wp2_with fail
    refine (C2.out _).mono ?_
    rintro e w1 ⟨rfl, k1, hw⟩
    subst hw
    go_wp2_with fail
    refine (C6.out _).mono ?_
    rintro e w1 ⟨rfl, k2, hw⟩
    subst hw
    go_wp2_with fail
    go_ret
    exact ⟨rfl, _, rfl⟩
  subst c1
  by_cases c2 : m < 1
  · clear HT'
    go_enter Tryz.func208, Tryz.ntmps208
    go_wp2_with fail
    refine (C2.out _).mono ?_
    rintro e w1 ⟨rfl, k1, hw⟩
    subst hw
    go_wp2_with fail
    refine (C6.out _).mono ?_
    rintro e w1 ⟨rfl, k2, hw⟩
    subst hw
    go_wp2_with fail
    go_ret
    exact ⟨rfl, _, rfl⟩
  have c2' : decide (m < 1) = false := by simp; omega
  by_cases c3 : z < 16 + 8 * m
  · clear HT' c2
    go_enter Tryz.func208, Tryz.ntmps208
    go_wp2_with fail
    refine (C2.out _).mono ?_
    rintro e w1 ⟨rfl, k1, hw⟩
    subst hw
    go_wp2_with fail
    refine (C6.out _).mono ?_
    rintro e w1 ⟨rfl, k2, hw⟩
    subst hw
    go_wp2_with fail
    go_ret
    exact ⟨rfl, _, rfl⟩
  have c3' : decide (z < 16 + 8 * m) = false := by simp; omega
  have c4 : (s.size : Int) < z := by have := HT'.out; omega
  clear HT' c2 c3
  go_enter Tryz.func208, Tryz.ntmps208
  go_wp2_with fail
  refine (C2.out _).mono ?_
  rintro e w1 ⟨rfl, k1, hw⟩
  subst hw
  go_wp2_with fail
  refine (C6.out _).mono ?_
  rintro e w1 ⟨rfl, k2, hw⟩
  subst hw
  go_wp2_with fail
  go_ret
  exact ⟨rfl, _, rfl⟩
set_option maxRecDepth 8000 in
set_option maxHeartbeats 4000000 in
theorem segs_ok (L : Nat) (s : ByteArray) (n : Nat) (w : World) (hs : s.size ≤ 1073741824) (h : foB s.data.toList = true) (hn : n ≤ 4096) (hS : TkS w L []) :
    Calls Tryz.prog 208 #[.string s, .int .i64 (n : Int), .func (.func 167) #[] #[.pointer (some ⟨L, 0, none⟩)]] w (TkR w L (foV s.data.toList n)) := by
  have hs' : (s.size : Int) ≤ 1073741824 := by omega
  have hn' : (n : Int) ≤ 4096 := by omega
  have hT := foB_t.1 h
  rw [← Lib.size_eq] at hT
  obtain ⟨h1, h2, h3, h4, h5, h6⟩ := hT
  have hv : foV s.data.toList n = foW (s.data.toList.take (n2 s.data.toList 2)) (n2 s.data.toList 6 / 2) n := by unfold foV; rw [h]; rfl
  rw [hv]
  have h1' : ¬ (s.size : Int) < 16 := by omega
  have h1b : (2 : Int) ≤ (s.size : Int) := by omega
  have hq := head_eq s 2 [0, 4]
  rw [decide_eq_true h2] at hq
  have C2 := hide (fun w => two_any s 2 2 w rfl (by omega) hs)
  have C6 := hide (fun w => two_any s 6 6 w rfl (by omega) hs)
  have b2 := n2_lt s.data.toList 2
  have b6 := n2_lt s.data.toList 6
  have hx := ext_take s (n2 s.data.toList 2)
  have hxs : (s.extract 0 (n2 s.data.toList 2)).size = n2 s.data.toList 2 := by rw [ByteArray.size_extract]; omega
  rw [← hx]
  clear hx hv h
  generalize n2 s.data.toList 2 = Z at *
  obtain ⟨M, hM⟩ : ∃ M, n2 s.data.toList 6 / 2 = M := ⟨_, rfl⟩
  rw [hM] at h4 h5 ⊢
  obtain ⟨t, ht⟩ : ∃ t : Int, ((n2 s.data.toList 6 : Nat) : Int) = t := ⟨_, rfl⟩
  rw [ht] at C6
  have t0 : 0 ≤ t := by omega
  have t1 : t ≤ 65535 := by omega
  have d1 : t.tdiv 2 = (M : Int) := by rw [Int.tdiv_eq_ediv_of_nonneg t0]; omega
  have d2 : t / 2 = (M : Int) := by omega
  have d3 : t.tmod 2 = 0 := by rw [Int.tmod_eq_emod_of_nonneg t0]; omega
  have d4 : t % 2 = 0 := by omega
  have m1 : (M : Int) ≤ 32767 := by omega
  have m0 : (0 : Int) ≤ (M : Int) := by omega
  have c2 : ¬ (M : Int) < 1 := by omega
  have c3 : ¬ (Z : Int) < 16 + 8 * (M : Int) := by omega
  have c4 : ¬ (s.size : Int) < (Z : Int) := by omega
  have c4n : decide (s.size < Z) = false := by simp; omega
  have z0 : (0 : Int) ≤ (Z : Int) := by omega
  have z1 : (Z : Int) ≤ 65535 := by omega
  have H5 := hide h5
  have HXS := hide hxs
  have HS := hide hS
  have HMM : Hid (M ≤ 32767) := hide (by omega)
  obtain ⟨X, hX⟩ : ∃ X, s.extract 0 Z = X := ⟨_, rfl⟩
  rw [hX] at HXS ⊢
  have HXX := hide hX
  have CSG := hide (fun (i : Nat) (w : World) (hi : i < M) => seg_any X M i w (by rw [HXS.out]; omega) (by rw [HXS.out]; exact H5.out) hi)
  have CSW := hide (fun (a b d o p : Nat) (cur : List Ch) (w : World) (hd : d ≤ 65535) (ho : o ≤ 65535) (hp : p ≤ 1073741824) (hb : b ≤ 65535) (hab : a ≤ b) (hS : TkS w L cur) (hBD : BD cur) => sw_any L X a b d o p n cur w (by rw [HXS.out]; omega) hd ho hp hb hab hn hS hBD)
  have HL2 := hide (n2_lt X.data.toList)
  have HVB := hide (fun (i : Nat) => @foW_bad X.data.toList M n i)
  have HVL := hide (@foW_last X.data.toList M n)
  have HVF := hide (fun (i : Nat) => @foW_full X.data.toList M n i)
  have HVO := hide (@foW_ok X.data.toList M n)
  clear h1 h2 h3 h4 h5 h6 hM ht hS hxs b2 b6
  go_enter Tryz.func208, Tryz.ntmps208
  go_wp2_with fail
  refine (C2.out _).mono ?_
  rintro e w1 ⟨rfl, k1, hw⟩
  subst hw
  go_wp2_with fail
  refine (C6.out _).mono ?_
  rintro e w1 ⟨rfl, k2, hw⟩
  subst hw
  go_wp2_with fail
  go_loopw [10, 51] (fun vl vi wr => ∃ (k : Nat) (cur : List Ch), vi = .int .i64 k ∧ vl = .int .i64 ((leS X.data.toList k : Nat) : Int) ∧ Hid (k ≤ M ∧ (∀ j, j < k → okS X.data.toList M j = true) ∧ accS X.data.toList M n k = some cur ∧ BD cur ∧ TkS wr L cur ∧ TF L w wr)) (fun _ vi _ => M - (intOf vi).toNat)
  case atStart => exact ⟨0, [], rfl, rfl, hide ⟨by omega, fun j hj => by omega, rfl, BD.nil, HS.out.drewN _, (TF.refl _ _).drewN _⟩⟩
  case round =>
    obtain ⟨k, cur, rfl, rfl, HV⟩ := hrel
    obtain ⟨hk, hok, hac, hbd, htk, htf⟩ := HV.out
    have hk0 : (0 : Int) ≤ (k : Int) := by omega
    have HOK := hide hok
    have HAC := hide hac
    have HBD := hide hbd
    have HTK := hide htk
    have HTF := hide htf
    clear HV hok hac hbd htk htf HS
    by_cases hlt : k < M
    case neg =>
      have hlt' : ¬ (k : Int) < (M : Int) := by omega
      obtain rfl : k = M := by omega
      by_cases hlast : leS X.data.toList k = 65536
      · have E : Hid (foW X.data.toList k n = some cur) := hide (by rw [HVO.out HOK.out hlast, HAC.out])
        have hl' : (((leS X.data.toList k : Nat) : Int) == 65536) = true := by simp; omega
        generalize ((leS X.data.toList k : Nat) : Int) = le at *
        clear hlast
        go_wp2_with fail
        go_ret
        rw [E.out]
        exact ⟨rfl, HTK.out, HTF.out⟩
      · have E := hide (HVL.out hlast)
        have hl' : (((leS X.data.toList k : Nat) : Int) == 65536) = false := by simp; omega
        generalize ((leS X.data.toList k : Nat) : Int) = le at *
        clear hlast
        go_wp2_with fail
        go_ret
        rw [E.out]
        exact ⟨rfl, HTF.out⟩
    have hlt' : (k : Int) < (M : Int) := by omega
    have C1 := hide (fun w => CSG.out k w hlt)
    have ba := HL2.out (16 + 2 * M + 2 * k)
    have bb := HL2.out (14 + 2 * k)
    have bd := HL2.out (16 + 4 * M + 2 * k)
    have bo := HL2.out (spl M k)
    have bp : spl M k ≤ 1073741824 := by unfold spl; have := HMM.out; omega
    have ba : sa X.data.toList M k < 65536 := ba
    have bb : sb X.data.toList k < 65536 := bb
    have bd : sdl X.data.toList M k < 65536 := bd
    have bo : sof X.data.toList M k < 65536 := bo
    have EOK := hide (show okS X.data.toList M k = decide (leS X.data.toList k ≤ sa X.data.toList M k ∧ sa X.data.toList M k ≤ sb X.data.toList k) from rfl)
    have EAC := hide (show accS X.data.toList M n (k + 1) = segG X.data.toList (sa X.data.toList M k) (sdl X.data.toList M k) (sof X.data.toList M k) (spl M k) n cur (sb X.data.toList k - sa X.data.toList M k + 1) by rw [accS, HAC.out]; exact segF_eq _ _ _ _ _ _)
    have ELE := hide (show leS X.data.toList (k + 1) = sb X.data.toList k + 1 from rfl)
    generalize sa X.data.toList M k = A at *
    generalize sb X.data.toList k = B at *
    generalize sdl X.data.toList M k = D at *
    generalize sof X.data.toList M k = O at *
    generalize spl M k = P at *
    generalize leS X.data.toList k = LE at *
    have a0 : (0 : Int) ≤ (A : Int) := by omega
    have a1 : (A : Int) ≤ 65535 := by omega
    have b0 : (0 : Int) ≤ (B : Int) := by omega
    have b1 : (B : Int) ≤ 65535 := by omega
    have HBN := hide (And.intro ba (And.intro bb (And.intro bd (And.intro bo bp))))
    clear ba bb bd bo bp
    go_wp2_with fail
    refine (C1.out _).mono ?_
    rintro e w1 ⟨rfl, hb1⟩
    have HT1 := hide (HTF.out.trans (TF.of_below hb1 (Nat.le_of_lt HTK.out.lt)))
    have HK1 := hide (HTK.out.below hb1)
    clear hb1
    have hal : Below w1.heap.size w1 (w1.alloc (.cells #[.int .i64 (A : Int), .int .i64 (B : Int), .int .i64 (D : Int), .int .i64 (O : Int), .int .i64 (P : Int)] 273)) := (Below.refl _ _).alloc (Nat.le_refl _) _
    have HT2 := hide (HT1.out.trans (TF.of_below hal (Nat.le_of_lt HK1.out.lt)))
    have HK2 := hide (HK1.out.below hal)
    have HB2 := hide (Blk.new w1 #[.int .i64 (A : Int), .int .i64 (B : Int), .int .i64 (D : Int), .int .i64 (O : Int), .int .i64 (P : Int)] 273)
    have hne : w1.heap.size ≠ L := by have := HK1.out.lt; omega
    clear hal
    by_cases c5 : A < LE
    · have E := hide (HVB.out k hlt (by rw [EOK.out]; exact decide_eq_false (by omega)))
      have c5' : (A : Int) < (LE : Int) := by omega
      go_wp2_with fail
      go_ret
      rw [E.out]
      exact ⟨rfl, HT2.out⟩
    have c5' : ¬ (A : Int) < (LE : Int) := by omega
    by_cases c6 : B < A
    · have E := hide (HVB.out k hlt (by rw [EOK.out]; exact decide_eq_false (by omega)))
      have c6' : (B : Int) < (A : Int) := by omega
      go_wp2_with fail
      go_ret
      rw [E.out]
      exact ⟨rfl, HT2.out⟩
    have c6' : ¬ (B : Int) < (A : Int) := by omega
    have EY := hide (show okS X.data.toList M k = true by rw [EOK.out]; exact decide_eq_true (by omega))
    have hbn := HBN.out
    have C7 := hide (CSW.out A B D O P cur _ (by omega) (by omega) hbn.2.2.2.2 (by omega) (by omega) HK2.out HBD.out)
    have EB : Hid (∀ cs2, segG X.data.toList A D O P n cur (B - A + 1) = some cs2 → BD cs2) := hide (fun cs2 h => segG_bd HBD.out (by omega) (by omega) _ (by omega) h)
    generalize segG X.data.toList A D O P n cur (B - A + 1) = RR at *
    clear hbn
    cases RR with
    | none =>
      have E := hide (HVF.out (k + 1) hlt EAC.out)
      go_wp2_with fail
      refine C7.out.mono ?_
      rintro e w2 ⟨rfl, h2⟩
      have HT3 := hide (HT2.out.trans h2)
      clear h2
      go_wp2_with fail
      go_ret
      rw [E.out]
      exact ⟨rfl, HT3.out⟩
    | some cs2 =>
      have HBD2 := hide (EB.out cs2 rfl)
      go_wp2_with fail
      refine C7.out.mono ?_
      rintro e w2 ⟨rfl, hk2, h2⟩
      have HT3 := hide (HT2.out.trans h2)
      have HK3 := hide hk2
      have hb3 := h2.blk HB2.out hne (by decide)
      have y1 : w2.cell? ⟨w1.heap.size, 1, none⟩ = some (.int .i64 (B : Int)) := hb3.cell 1
      have yl : w1.heap.size < w2.heap.size := hb3.lt
      have EL2 : Hid (((leS X.data.toList (k + 1) : Nat) : Int) = (B : Int) + 1) := hide (by rw [ELE.out]; omega)
      clear h2 hk2 hb3
      go_wp2_with fail
      go_roundw
      case rel => exact ⟨k + 1, cs2, by go_num, by rw [EL2.out], hide ⟨by omega, fun i hi => by
          rcases Nat.lt_or_ge i k with h' | h'
          · exact HOK.out i h'
          · obtain rfl : i = k := by omega
            exact EY.out, EAC.out, HBD2.out, HK3.out, HT3.out⟩⟩
      case measure => simp [intOf]; omega
theorem segs_any (L : Nat) (s : ByteArray) (n : Nat) (w : World) (hs : s.size ≤ 1073741824) (hn : n ≤ 4096) (hS : TkS w L []) :
    Calls Tryz.prog 208 #[.string s, .int .i64 (n : Int), .func (.func 167) #[] #[.pointer (some ⟨L, 0, none⟩)]] w (TkR w L (foV s.data.toList n)) := by
  cases h : foB s.data.toList
  · have hv : foV s.data.toList n = none := by unfold foV; rw [h]; rfl
    rw [hv]
    exact (segs_bad L s n w hs h).mono fun e w' ⟨h1, m, h2⟩ => ⟨h1, by rw [h2]; exact (TF.refl _ _).drewN _⟩
  · exact segs_ok L s n w hs h hn hS
set_option maxHeartbeats 1000000 in
theorem walk_none (L : Nat) (t : ByteArray) (n : Nat) (w : World) (hs : t.size ≤ 1073741824) (hS : TkS w L []) (hw : fstI (fun j => wiR (rp t.data.toList j) (re t.data.toList j)) (kR t.data.toList) = none) (hna : fstI (fun j => naR (rp t.data.toList j) (re t.data.toList j)) (kR t.data.toList) = none) (hkb : kR t.data.toList ≤ 65535) :
    Calls Tryz.prog 168 #[.string t, .int .i64 (n : Int), .func (.func 167) #[] #[.pointer (some ⟨L, 0, none⟩)]] w (TkR w L none) := by
  have CR := hide (rows_any t w hs)
  have CI := hide (fun a c w (h : RwL w a t.data.toList (kR t.data.toList)) => index_w a t.data.toList (kR t.data.toList) c w hkb h)
  have CN := hide (fun a c w (h : RwL w a t.data.toList (kR t.data.toList)) => index_n a t.data.toList (kR t.data.toList) c w hkb h)
  rw [hw] at CI
  rw [hna] at CN
  have hix : ixV none = -1 := rfl
  rw [hix] at CI CN
  have HS := hide hS
  generalize kR t.data.toList = K at *
  have kb : (K : Int) ≤ 65535 := by omega
  clear hS hw hna hix
  go_enter Tryz.func168, Tryz.ntmps168
  go_wp2_with fail
  refine CR.out.mono ?_
  rintro e w1 ⟨a, c, rfl, hr1, hb1⟩
  have HR1 := hide hr1
  have HB1 := hide hb1
  clear hr1 hb1
  go_wp2_with fail
  refine (CI.out _ _ _ HR1.out).mono ?_
  rintro e w2 ⟨rfl, hb2⟩
  have HB2 := hide (HB1.out.trans (hb2.mono HB1.out.size))
  have HR2 := hide (HR1.out.below hb2)
  clear hb2
  go_wp2_with fail
  refine (CN.out _ _ _ HR2.out).mono ?_
  rintro e w3 ⟨rfl, hb3⟩
  have HB3 := hide (HB2.out.trans (hb3.mono HB2.out.size))
  clear hb3
  go_wp2_with fail
  go_ret
  exact ⟨rfl, TF.of_below HB3.out (Nat.le_of_lt HS.out.lt)⟩
set_option maxHeartbeats 1000000 in
theorem walk_narrow (L : Nat) (t : ByteArray) (n i : Nat) (w : World) (hs : t.size ≤ 1073741824) (hn : n ≤ 4096) (hS : TkS w L []) (hr : rowB t.data.toList = true) (hw : wiI t.data.toList = none) (hna : naI t.data.toList = some i) :
    Calls Tryz.prog 168 #[.string t, .int .i64 (n : Int), .func (.func 167) #[] #[.pointer (some ⟨L, 0, none⟩)]] w (TkR w L (redV t.data.toList n)) := by
  have hv : redV t.data.toList n = foV (t.data.toList.drop (rpl t.data.toList i)) n := by unfold redV redW; rw [hr, hw, hna]; rfl
  rw [hv]
  have CR := hide (rows_any t w hs)
  rw [kR_t hr] at CR
  have hbk := n2_lt t.data.toList 2
  have CI := hide (fun a c w (h : RwL w a t.data.toList (n2 t.data.toList 2)) => index_w a t.data.toList (n2 t.data.toList 2) c w (by omega) h)
  have CN := hide (fun a c w (h : RwL w a t.data.toList (n2 t.data.toList 2)) => index_n a t.data.toList (n2 t.data.toList 2) c w (by omega) h)
  have hw' : fstI (fun j => wiR (rp t.data.toList j) (re t.data.toList j)) (n2 t.data.toList 2) = none := hw
  have hna' : fstI (fun j => naR (rp t.data.toList j) (re t.data.toList j)) (n2 t.data.toList 2) = some i := hna
  rw [hw'] at CI
  rw [hna'] at CN
  have hix : ixV none = -1 := rfl
  rw [hix] at CI
  have hix2 : ixV (some i) = (i : Int) := rfl
  rw [hix2] at CN
  have hi := (fstI_get hna').1
  have bp := n4_lt t.data.toList (8 + 8 * i)
  have hpl : rpl t.data.toList i = n4 t.data.toList (8 + 8 * i) := rfl
  have CF := hide (fun w => from_any t (rpl t.data.toList i) w hs (by omega))
  have CG := hide (fun w (h : TkS w L []) => segs_any L (t.extract (min (rpl t.data.toList i) t.size) t.size) n w (Nat.le_trans (ext_le t _) hs) hn h)
  rw [ext_drop] at CG
  have HS := hide hS
  have hn' : (n : Int) ≤ 4096 := by omega
  generalize foV (t.data.toList.drop (rpl t.data.toList i)) n = RR at *
  generalize t.extract (min (rpl t.data.toList i) t.size) t.size = SX at *
  obtain ⟨K, hK⟩ : ∃ K, n2 t.data.toList 2 = K := ⟨_, rfl⟩
  rw [hK] at CR CI CN hi hbk
  have k1 : (i : Int) < (K : Int) := by omega
  have k0 : (0 : Int) ≤ (i : Int) := by omega
  have kb : (K : Int) ≤ 65535 := by omega
  have HI := hide hi
  clear hS hr hw hv hw' bp hpl hK hbk hna hna' hix hix2
  go_enter Tryz.func168, Tryz.ntmps168
  go_wp2_with fail
  refine CR.out.mono ?_
  rintro e w1 ⟨a, c, rfl, hr1, hb1⟩
  have HR1 := hide hr1
  have HB1 := hide hb1
  clear hr1 hb1
  go_wp2_with fail
  refine (CI.out _ _ _ HR1.out).mono ?_
  rintro e w2 ⟨rfl, hb2⟩
  have HB2 := hide (HB1.out.trans (hb2.mono HB1.out.size))
  have HR2 := hide (HR1.out.below hb2)
  clear hb2
  go_wp2_with fail
  refine (CN.out _ _ _ HR2.out).mono ?_
  rintro e w3 ⟨rfl, hb3⟩
  have HB3 := hide (HB2.out.trans (hb3.mono HB2.out.size))
  rcases HR2.out.below hb3 with hz | ⟨b, rfl, hbl, hcell⟩
  · have := HI.out; omega
  obtain ⟨_, _, z2⟩ := hcell i HI.out
  have HS2 := hide (HS.out.below HB3.out)
  have HF2 := hide (TF.of_below HB3.out (Nat.le_of_lt HS.out.lt))
  generalize ((rpl t.data.toList i : Nat) : Int) = PL at *
  clear hcell hb3 HR1 HR2 hi
  go_wp2_with fail
  refine (CF.out _).mono ?_
  rintro e w4 ⟨rfl, hw4⟩
  subst hw4
  go_wp2_with fail
  cases RR with
  | none =>
    refine (CG.out _ HS2.out).mono ?_
    rintro e w4 ⟨rfl, ht⟩
    have HT := hide (HF2.out.trans ht)
    clear ht
    go_wp2_with fail
    go_ret
    exact ⟨rfl, HT.out⟩
  | some cs =>
    refine (CG.out _ HS2.out).mono ?_
    rintro e w4 ⟨rfl, hk, ht⟩
    have HK := hide hk
    have HT := hide (HF2.out.trans ht)
    clear ht hk
    go_wp2_with fail
    go_ret
    exact ⟨rfl, HK.out, HT.out⟩
theorem walk_any (L : Nat) (t : ByteArray) (n : Nat) (w : World) (hs : t.size ≤ 1073741824) (hn : n ≤ 4096) (hS : TkS w L []) :
    Calls Tryz.prog 168 #[.string t, .int .i64 (n : Int), .func (.func 167) #[] #[.pointer (some ⟨L, 0, none⟩)]] w (TkR w L (redV t.data.toList n)) := by
  cases hr : rowB t.data.toList
  · have hv : redV t.data.toList n = none := by unfold redV; rw [hr]; rfl
    have hk : kR t.data.toList = 0 := by unfold kR; rw [hr]; rfl
    rw [hv]
    exact walk_none L t n w hs hS (by rw [hk]; exact fstI_none fun j hj => by omega) (by rw [hk]; exact fstI_none fun j hj => by omega) (by omega)
  · cases hw : wiI t.data.toList with
    | some i => exact walk_wide L t n i w hs hn hS hr hw
    | none =>
      cases hna : naI t.data.toList with
      | some i => exact walk_narrow L t n i w hs hn hS hr hw hna
      | none =>
        have hv : redV t.data.toList n = none := by unfold redV redW; rw [hr, hw, hna]; rfl
        have hb := n2_lt t.data.toList 2
        rw [hv]
        exact walk_none L t n w hs hS (by rw [kR_t hr]; exact hw) (by rw [kR_t hr]; exact hna) (by rw [kR_t hr]; omega)
theorem read_any (t : ByteArray) (n : Nat) (w : World) (hs : t.size ≤ 1073741824) (h1 : 1 ≤ n) (h2 : n ≤ 4096) :
    Calls Tryz.prog 130 #[.string t, .int .i64 (n : Int)] w (RdR w (redV t.data.toList n)) :=
  read_by t n w h1 h2 _ fun w L h => walk_any L t n w hs h2 h
end Go.Proofs.YtpdfpbbamnhkfaaGreatDoor.C11
namespace Go.Proofs.YtpdfpbbamnhkfaaGreatDoor.C11
open Go.ChangeShapes Go.WideShapes Go.RowKit Go.Deep
set_option linter.unusedVariables false
theorem grpF_bd {a g : Nat} {cs : List Ch} (h : BD cs) : ∀ (j : Nat), g + j ≤ 4294967296 → ∀ {cs2}, grpF a g cs j = some cs2 → BD cs2
  | 0, _, cs2, e => by cases e; exact h
  | j + 1, hj, cs2, e => by
    rw [grpF] at e
    obtain ⟨x, h1, h2⟩ := Option.bind_eq_some_iff.1 e
    exact (grpF_bd h j (by omega) h1).stP (by omega) (by omega) h2
theorem accG_bd {s : List UInt8} {n : Nat} (hn : n ≤ 4096) : ∀ (k : Nat), (∀ i, i < k → okG s n i = true) → ∀ {cs}, accG s k = some cs → BD cs
  | 0, _, cs, e => by cases e; exact BD.nil
  | k + 1, hk, cs, e => by
    rw [accG] at e
    obtain ⟨x, h1, h2⟩ := Option.bind_eq_some_iff.1 e
    have ho := hk k (by omega)
    unfold okG at ho
    have ho2 := of_decide_eq_true ho
    exact grpF_bd (accG_bd hn k (fun i hi => hk i (by omega)) h1) _ (by omega) h2
theorem twV_bd {s : List UInt8} {n : Nat} (hn : n ≤ 4096) {cs : List Ch} (h : twV s n = some cs) : BD cs := by
  unfold twV at h
  split at h
  · rename_i hh
    rw [Bool.and_eq_true] at hh
    exact accG_bd hn _ (twA_iff.1 hh.2) h
  · cases h
theorem accS_bd {s : List UInt8} {m n : Nat} (hn : n ≤ 4096) : ∀ (k : Nat), (∀ i, i < k → okS s m i = true) → ∀ {cs}, accS s m n k = some cs → BD cs
  | 0, _, cs, e => by cases e; exact BD.nil
  | k + 1, hk, cs, e => by
    rw [accS] at e
    obtain ⟨x, h1, h2⟩ := Option.bind_eq_some_iff.1 e
    have ho := hk k (by omega)
    unfold okS at ho
    have ho2 := of_decide_eq_true ho
    have hb : sb s k < 65536 := n2_lt s _
    rw [segF_eq] at h2
    exact segG_bd (accS_bd hn k (fun i hi => hk i (by omega)) h1) hn (by omega) _ (by omega) h2
theorem foV_bd {s : List UInt8} {n : Nat} (hn : n ≤ 4096) {cs : List Ch} (h : foV s n = some cs) : BD cs := by
  unfold foV foW at h
  split at h
  · split at h
    · rename_i hh
      exact accS_bd hn _ (foA_iff.1 hh).1 h
    · cases h
  · cases h
theorem redV_bd {l : List UInt8} {n : Nat} (hn : n ≤ 4096) {cs : List Ch} (h : redV l n = some cs) : BD cs := by
  unfold redV redW at h
  split at h
  · split at h
    · exact twV_bd hn h
    · split at h
      · exact foV_bd hn h
      · cases h
  · cases h
end Go.Proofs.YtpdfpbbamnhkfaaGreatDoor.C11
