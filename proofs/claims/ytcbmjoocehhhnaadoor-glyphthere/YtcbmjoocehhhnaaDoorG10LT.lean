/-
  The law GlyphThere, walked.
-/
import Derived.Test.YtcbmjoocehhhnaaDoorG10LN
import Derived.Test.YtcbmjoocehhhnaaDoorG10Nt
namespace Go.Proofs.YtcbmjoocehhhnaaDoor
open Go.RowKit Go.Deep
set_option linter.unusedVariables false
set_option linter.unusedSimpArgs false

def InsR (zs : List Int) (w : World) (e : Ending) (w' : World) : Prop := ∃ g c', e = .returned (.slice (some ⟨g, 0, none⟩) (zs.take 200).length c') ∧ Lst w' (some ⟨g, 0, none⟩) (zs.take 200) ∧ Below w.heap.size w w' ∧ (zs.take 200).length ≤ c' ∧ c' ≤ 9223372036854775807
theorem ints_any (a : Option Addr) (n c : Nat) (zs : List Int) (w : World) (hn : zs.length = n) (hc : n ≤ c) (hc2 : c ≤ 9223372036854775807) (hL : Lst w a zs) :
    Calls Tryd.prog 24 #[.slice a n c, .int .i64 200] w (InsR zs w) := by
  obtain ⟨g, c', w1, hr, l1, _, b1, hcc⟩ := app_copy w a (zs.take 200).length c w.heap.size (zs.take 200) rfl (by rw [List.length_take]; omega) (hL.take 200) rfl
  have HRU := hide hr
  have HF : Hid (InsR zs w (.returned (.slice (some ⟨g, 0, none⟩) (zs.take 200).length c')) w1) := hide ⟨g, c', rfl, l1, b1, hcc.1, hcc.2⟩
  have hlt : (zs.take 200).length = min 200 n := by rw [List.length_take, hn]
  generalize (zs.take 200).length = k at HRU HF hlt
  clear hr l1 b1 hcc hL
  by_cases h : 200 < n
  · have h' : (200 : Int) < (n : Int) := by omega
    have hk : k = 200 := by omega
    subst hk
    have h1 : (200 : Int) ≤ (c : Int) := by omega
    clear hlt h
    go_enter Tryd.func24, Tryd.ntmps24
    go_wp2_with (at_builtin; refine Lib.wpList_append_run _ rfl _ _ _ _ rfl _ _ rfl rfl _ _ HRU.out ?_)
    go_ret
    exact HF.out
  · have h' : ¬ (200 : Int) < (n : Int) := by omega
    have hk : k = n := by omega
    subst hk
    clear hlt h
    go_enter Tryd.func24, Tryd.ntmps24
    go_wp2_with (at_builtin; refine Lib.wpList_append_run _ rfl _ _ _ _ rfl _ _ rfl rfl _ _ HRU.out ?_)
    go_ret
    exact HF.out
theorem prV_at (l : List UInt8) (ps : List Nat) (k : Nat) (h : k < ps.length) : (prV l ps).getD k 0 = n2 l (ps.getD k 0) := by
  unfold prV
  rw [List.getD_eq_getElem?_getD, List.getElem?_map, List.getElem?_eq_getElem h, List.getD_eq_getElem?_getD, List.getElem?_eq_getElem h]
  rfl
set_option maxRecDepth 8000 in
set_option maxHeartbeats 4000000 in
theorem there_walk (s : ByteArray) (a : Option Addr) (n c : Nat) (zs : List Int) (w : World) (hm : s.size ≤ 9223372036854775807) (hZ : ZRow w a n c zs) :
    Calls Tryd.prog 8 #[.string s, .slice a n c] w fun e w' => e = .returned (.bool true) ∧ Below w.heap.size w w' := by
  obtain ⟨hz1, hz2, hz3, hz4, _⟩ := hZ
  have CWk := hide wakes_any
  have CI := hide (ints_any a n c zs w hz1 hz2 hz3 hz4)
  have CI2 := hide (fun (a : Option Addr) (n c : Nat) (ys : List Int) (w : World) (h1 : ys.length = n) (h2 : n ≤ c) (h3 : c ≤ 9223372036854775807) (h4 : Lst w a ys) => ints_any a n c ys w h1 h2 h3 h4)
  clear hz1 hz2 hz3 hz4
  go_enter Tryd.func8, Tryd.ntmps8
  go_wp2_with fail
  refine CI.out.mono ?_
  rintro e w1 ⟨g1, k1, rfl, l1, b1, hc1, hc2⟩
  have HL1 := hide l1
  have HB1 := hide b1
  have hys : (zs.take 200).length ≤ 200 := by rw [List.length_take]; omega
  generalize zs.take 200 = ys at HL1 hc1 hys l1 ⊢
  have htk : ys.take 200 = ys := List.take_of_length_le hys
  clear b1 CI
  by_cases h1 : 20000 < s.size
  · have h1' : (20000 : Int) < (s.size : Int) := by omega
    clear h1 htk l1
    go_wp2_with fail
    refine (CWk.out _).mono ?_
    rintro e w2 ⟨rfl, h2⟩
    have H2 := hide (below_t5 HB1.out h2)
    clear h2
    go_wp2_with fail
    go_ret
    exact ⟨rfl, H2.out⟩
  have h1' : ¬ (20000 : Int) < (s.size : Int) := by omega
  have hs : s.size ≤ 1000000 := by omega
  have hs2 : (s.size : Int) ≤ 20000 := by omega
  have CI3 := hide (CI2.out (some ⟨g1, 0, none⟩) ys.length k1 ys w1 rfl hc1 hc2 l1)
  unfold InsR at CI3
  rw [htk] at CI3
  have HTS : Hid (∀ p ps, shV s.data.toList = some (p, ps) → ps.length ≤ 64 ∧ (∀ x ∈ ps, x + 2 ≤ s.data.toList.length)) := hide fun p ps h => ⟨(shV_bd h).2.2, (shV_bd h).2.1⟩
  have hlen := ys.length
  obtain ⟨YN, hYN⟩ : ∃ YN, ys.length = YN := ⟨_, rfl⟩
  rw [hYN] at CI3 hc1 hys ⊢
  have HYN := hide hYN
  have hyi : (YN : Int) ≤ 200 := by omega
  clear htk l1 h1 hYN hlen
  go_wp2_with fail
  refine CI3.out.mono ?_
  rintro e w2 ⟨g2, k2, rfl, l2, b2, hc3, hc4⟩
  have CR := hide (renum_any s (some ⟨g2, 0, none⟩) YN k2 ys w2 hs HYN.out (by omega) hc3 hc4 l2)
  have HB2 := hide (below_t5 HB1.out b2)
  have HL2 := hide (HL1.out.below b2)
  clear b2 l2 CI3 HL1 HB1 CI2
  go_wp2_with fail
  cases hren : renV s.data.toList ys (shV s.data.toList) with
  | none =>
    rw [hren] at CR
    refine CR.out.mono ?_
    rintro e w3 ⟨rfl, h3⟩
    have HB3 := hide (below_t5 HB2.out h3)
    clear h3
    go_wp2_with fail
    refine (CWk.out _).mono ?_
    rintro e w4 ⟨rfl, h4⟩
    have HB4 := hide (below_t5 HB3.out h4)
    clear h4
    go_wp2_with fail
    go_ret
    exact ⟨rfl, HB4.out⟩
  | some m =>
    rw [hren] at CR
    cases hsh : shV s.data.toList with
    | none => rw [hsh] at hren; cases hren
    | some x =>
    obtain ⟨p, ps⟩ := x
    rw [hsh] at hren
    obtain ⟨t1, t2, t3⟩ := ren_there hsh hren
    have HT3 := hide t3
    have hps := HTS.out p ps hsh
    have CP1 := hide (fun w => parts_any s w hs)
    rw [hsh] at CP1
    have hTz : (⟨m.toArray⟩ : ByteArray).size = s.size := by rw [Lib.size_eq, Lib.size_eq]; exact t2
    have CP2 := hide (fun w => parts_any ⟨m.toArray⟩ w (by rw [hTz]; exact hs))
    have CN1 := hide (fun w => points_any s w hs)
    rw [hsh] at CN1
    have CN2 := hide (fun w => points_any ⟨m.toArray⟩ w (by rw [hTz]; exact hs))
    have hTl : (⟨m.toArray⟩ : ByteArray).data.toList = m := rfl
    rw [hTl, t1] at CP2 CN2
    have hTi : ((⟨m.toArray⟩ : ByteArray).size : Int) = (s.size : Int) := by omega
    have HTI := hide hTi
    have hLm : (prV m ps).length = ps.length := by unfold prV; rw [List.length_map]
    have hLl : (prV s.data.toList ps).length = ps.length := by unfold prV; rw [List.length_map]
    have CR2 := hide (CR.out.mono fun e w' (h : RnR w2 (some m) e w') => (show e = .returned (.tuple #[.string ⟨m.toArray⟩, .int .i64 0]) ∧ Below w2.heap.size w2 w' from h))
    generalize (⟨m.toArray⟩ : ByteArray) = TT at CR2 CP2 CN2 HTI hTz hTi
    have hne : ((TT.size : Int) == (s.size : Int)) = true := by rw [beq_iff_eq]; exact hTi
    refine CR2.out.mono ?_
    rintro e w3 ⟨rfl, h3⟩
    have HB3 := hide (below_t5 HB2.out h3)
    have HL3 := hide (HL2.out.below h3)
    clear h3 HB2 HL2 t1 t2 t3 hTl hren hsh
    clear CR CR2
    go_wp2_with fail
    refine (CP1.out _).mono ?_
    rintro e w4 ⟨va, rfl, qa, h4⟩
    obtain ⟨aa, ca, hva, hLa, _⟩ := qa.lst
    rw [ints_len, hLl] at hva
    subst hva
    have HB4 := hide (below_t5 HB3.out h4)
    have HL4 := hide (HL3.out.below h4)
    have HA4 := hide hLa
    clear h4 HB3 HL3 CP1 qa hLa
    go_wp2_with fail
    refine (CP2.out _).mono ?_
    rintro e w5 ⟨vb, rfl, qb, h5⟩
    obtain ⟨ab, cb, hvb, hLb, _⟩ := qb.lst
    rw [ints_len, hLm] at hvb
    subst hvb
    have HB5 := hide (below_t5 HB4.out h5)
    have HL5 := hide (HL4.out.below h5)
    have HA5 := hide (HA4.out.below h5)
    have HM5 := hide hLb
    have hpl : (ps.length : Int) ≤ 64 := by omega
    have hpq : ((ps.length : Int) == (ps.length : Int)) = true := by simp
    clear h5 HB4 HL4 HA4 CP2 qb hLb
    go_wp2_with fail
    go_loopw [12] (fun v wr => ∃ k q : Nat, v = .int .i64 (k : Int) ∧ wr = w5.drewN q ∧ Hid (k ≤ ps.length)) (fun v _ => ps.length - (intOf v).toNat)
    case atStart => exact ⟨0, 0, rfl, rfl, hide (by omega)⟩
    case round =>
      obtain ⟨k, q, rfl, rfl, HK⟩ := hrel
      have hk := HK.out
      have hk0 : (0 : Int) ≤ (k : Int) := by omega
      clear HK
      by_cases hlt : k < ps.length
      · have hlt' : (k : Int) < (ps.length : Int) := by omega
        obtain ⟨kk, hkk, e1, e2⟩ := HT3.out k hlt
        rw [HYN.out] at hkk
        rcases HA5.out with hz | ⟨b1, o1, rfl, hb1, hcell1⟩
        · exfalso; have := ints_len (prV s.data.toList ps); rw [hz, hLl] at this; simp at this; omega
        rcases HM5.out with hz | ⟨b2, o2, rfl, hb2, hcell2⟩
        · exfalso; have := ints_len (prV m ps); rw [hz, hLm] at this; simp at this; omega
        rcases HL5.out with hz | ⟨b3, o3, h3, hb3, hcell3⟩
        · exfalso; have := HYN.out; rw [hz] at this; simp at this; omega
        obtain ⟨rfl, rfl⟩ : g1 = b3 ∧ 0 = o3 := by simpa using h3
        have f1 := hcell1 k (by rw [ints_len, hLl]; exact hlt)
        have f2 := hcell2 k (by rw [ints_len, hLm]; exact hlt)
        have f3 := hcell3 kk (by rw [HYN.out]; exact hkk)
        rw [ints_at _ _ (by rw [hLl]; exact hlt), prV_at _ _ _ hlt] at f1
        rw [ints_at _ _ (by rw [hLm]; exact hlt), prV_at _ _ _ hlt, e1] at f2
        rw [e2, Nat.zero_add] at f3
        have g0 : (0 : Int) ≤ (kk : Int) := by omega
        have g1' : ¬ (kk : Int) < 0 := by omega
        have g2' : ¬ (YN : Int) ≤ (kk : Int) := by omega
        have g3' : (kk : Int) < (YN : Int) := by omega
        have g1d : decide ((kk : Int) < 0) = false := by simp
        have g2d : decide ((YN : Int) ≤ (kk : Int)) = false := by simp; omega
        have g2e : decide (YN ≤ kk) = false := by simp; omega
        generalize ((n2 s.data.toList (ps.getD k 0) : Nat) : Int) = XV at f1 f3
        have geq : (XV == XV) = true := by simp
        clear hcell1 hcell2 hcell3 h3 e1 e2
        go_wp2_with fail
        go_quiet (fail)
        go_wp2_with fail
        go_roundw
        case rel => exact ⟨k + 1, _, by go_num, by first | rfl | rw [World.drewN_drewN], hide (by omega)⟩
        case measure => simp [intOf]; omega
      · have hlt' : ¬ (k : Int) < (ps.length : Int) := by omega
        go_wp2_with fail
        refine (CN1.out _).mono ?_
        rintro e w6 ⟨rfl, h6⟩
        have HB6 := hide (below_t5 (below_drewN HB5.out q) h6)
        clear h6
        go_wp2_with fail
        refine (CN2.out _).mono ?_
        rintro e w7 ⟨rfl, h7⟩
        have HB7 := hide (below_t5 HB6.out h7)
        have hpp : ((ptV (some (p, ps))) == (ptV (some (p, ps)))) = true := by simp
        clear h7
        go_wp2_with fail
        refine (CWk.out _).mono ?_
        rintro e w8 ⟨rfl, h8⟩
        have HB8 := hide (below_t5 HB7.out h8)
        clear h8
        go_wp2_with fail
        go_ret
        exact ⟨rfl, HB8.out⟩
end Go.Proofs.YtcbmjoocehhhnaaDoor
