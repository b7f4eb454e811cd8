/-
  The law GlyphBack, walked.
-/
import Derived.Test.YtjacjdglklcijaaDoorG10Bp
namespace Go.Proofs.YtjacjdglklcijaaDoor
open Go.RowKit Go.Deep
set_option linter.unusedVariables false
set_option linter.unusedSimpArgs false

theorem pr_any {w w' : World} {l : List UInt8} {R : Option (Nat × List Nat)} {e : Ending} (h : PrR w l R e w') : ∃ v er, e = .returned (.tuple #[v, .int .i64 er]) ∧ Below w.heap.size w w' := by
  unfold PrR at h
  rcases R with _ | ⟨p, ps⟩
  · exact ⟨_, _, h⟩
  · obtain ⟨v, h1, _, h3⟩ := h; exact ⟨v, 0, h1, h3⟩
structure Mid (s M : ByteArray) : Prop where
  lst : M.data.toList = pdT s.data.toList
  size : M.size = s.size + lck s.size
  cut : M.extract 0 s.size = s
  zero : ∀ k (h : k < M.size), s.size ≤ k → (M[k].toNat : Int) = 0
theorem mid_of {s M : ByteArray} (h : M.data.toList = pdT s.data.toList) : Mid s M := by
  have hs : M.size = s.size + lck s.size := by rw [Lib.size_eq, h, pdT_len, ← Lib.size_eq]
  refine ⟨h, hs, ?_, fun k hk hks => ?_⟩
  · have e : (M.extract 0 s.size).data.toList = s.data.toList := by
      rw [ByteArray.data_extract, Array.toList_extract, List.extract_eq_take_drop, h]
      unfold pdT
      rw [List.drop_zero, Nat.sub_zero, Lib.size_eq, List.take_left]
    cases hx : M.extract 0 s.size with
    | mk a => cases s with
      | mk b =>
        rw [hx] at e
        simp at e
        rw [e]
  · have e : M.data.toList[k]'(by rw [← Lib.size_eq]; exact hk) = 0 := by
      have h2 : M.data.toList[k]? = some 0 := by
        rw [h]
        unfold pdT
        rw [List.getElem?_append_right (by rw [← Lib.size_eq]; exact hks), List.getElem?_replicate, if_pos (by rw [← Lib.size_eq]; omega)]
      rw [List.getElem?_eq_getElem (by rw [← Lib.size_eq]; exact hk)] at h2
      exact Option.some.inj h2
    have e2 : M[k] = 0 := e
    rw [e2]
    rfl
set_option maxRecDepth 8000 in
set_option maxHeartbeats 8000000 in
theorem back_walk (a : Option Addr) (n c : Nat) (ss : List ByteArray) (w : World) (hS : SIn w a n ss) :
    Calls Tryd.prog 4 #[.slice a n c] w fun e w' => e = .returned (.bool true) ∧ Below w.heap.size w w' := by
  have CL := hide (long_any a ss n c w hS)
  have CWk := hide wakes_any
  have hn := hS.len
  have hLs := hS.lst
  have HS := hide hS
  go_enter Tryd.func4, Tryd.ntmps4
  go_wp2_with fail
  refine CL.out.mono ?_
  rintro e w0 ⟨bb, rfl, hbb, hw0⟩
  subst hw0
  cases bb with
  | true =>
    clear hbb hn hLs
    go_wp2_with fail
    refine (CWk.out _).mono ?_
    rintro e w1 ⟨rfl, h1⟩
    have H1 := hide h1
    clear h1
    go_wp2_with fail
    go_ret
    exact ⟨rfl, H1.out⟩
  | false =>
  obtain ⟨b1, b2⟩ := hbb rfl
  have hjl := jg_le ss
  have hjg : (jg ss).length ≤ 40000 := by omega
  obtain ⟨g, c', w1, hr, l1, hb1⟩ := app_copyS w0 a n c w0.heap.size ss hn (by omega) hLs rfl
  have HRU := hide hr
  have C1 := hide (join_any (some ⟨g, 0, none⟩) ss n c' w1 hn (by omega) (by omega) l1)
  have HB1 := hide hb1
  have HN := hide hn
  by_cases hc : 1 ≤ ss.length ∧ ss.length ≤ 4096
  case neg =>
    have HC := hide hc
    clear hbb b1 b2 hjg hjl hr l1 hb1 hn hLs hc
    go_wp2_with (at_builtin; refine Lib.wpList_append_run _ rfl _ _ _ _ rfl _ _ rfl rfl _ _ HRU.out ?_)
    refine C1.out.mono ?_
    intro e w2 h2
    unfold JnR at h2
    rw [if_neg HC.out] at h2
    obtain ⟨rfl, h3⟩ := h2
    have HX2 := hide (HB1.out.trans (h3.mono HB1.out.size))
    clear h3
    go_wp2_with fail
    refine (CWk.out _).mono ?_
    rintro e w5 ⟨rfl, h6⟩
    have HX5 := hide (HX2.out.trans (h6.mono HX2.out.size))
    clear h6
    go_wp2_with fail
    go_ret
    exact ⟨rfl, HX5.out⟩
  have HC := hide hc
  have hn1 : (n : Int) ≤ 4096 := by omega
  obtain ⟨T1, hT1⟩ : ∃ T1 : ByteArray, (⟨(jl 0 ss ++ p4 (((jg ss).length : Nat) : Int)).toArray⟩ : ByteArray) = T1 := ⟨_, rfl⟩
  obtain ⟨T2, hT2⟩ : ∃ T2 : ByteArray, (⟨(jg ss).toArray⟩ : ByteArray) = T2 := ⟨_, rfl⟩
  have l1' : T1.data.toList = jl 0 ss ++ p4 (((jg ss).length : Nat) : Int) := by rw [← hT1]
  have l2' : T2.data.toList = jg ss := by rw [← hT2]
  have s1 : T1.size ≤ 1000000 := by rw [Lib.size_eq, l1', List.length_append, jl_len]; show _ + 4 ≤ _; omega
  have s2 : T2.size ≤ 1000000 := by rw [Lib.size_eq, l2']; omega
  have C2 := hide (fun w => split_any T1 T2 (n : Int) true w s1 s2 (by omega) (by omega))
  have hspl : splB T1.data.toList T2.size (n : Int) true = true := by
    rw [l1', Lib.size_eq, l2', ← hn]
    exact spl_join ss hc.1 hc.2 (by omega)
  have HSPL := hide hspl
  have HMID : Hid (∀ i, i < n → Mid (ss.getD i ⟨#[]⟩) ((splV T1.data.toList T2 n true).getD i ⟨#[]⟩) ∧ (ss.getD i ⟨#[]⟩).size ≤ 40000) := hide (fun i hi => by
    constructor
    · apply mid_of
      have e : (splV T1.data.toList T2 n true).getD i ⟨#[]⟩ = splG T1.data.toList T2 true i := by
        unfold splV
        rw [List.getD_eq_getElem?_getD, List.getElem?_map, List.getElem?_range hi]
        rfl
      rw [e, l1']
      exact spl_at ss T2 l2' (by omega) i (by omega)
    · have e := take_s ss i (by omega)
      have h1 : totS (ss.take (i + 1)) = totS (ss.take i) + (ss.getD i ⟨#[]⟩).size := totS_take ss i (by omega)
      have h2 : totS (ss.take (i + 1)) ≤ totS ss := by
        conv => rhs; rw [← List.take_append_drop (i + 1) ss]
        unfold totS
        rw [List.map_append, List.sum_append]
        omega
      omega)
  have HLS := hide hLs
  have hnn : ((n : Int) != (n : Int)) = false := by simp
  clear hbb b1 b2 hjg hjl hr l1 hb1 hLs hc hspl s1 s2 l1' l2' hn
  go_wp2_with (at_builtin; refine Lib.wpList_append_run _ rfl _ _ _ _ rfl _ _ rfl rfl _ _ HRU.out ?_)
  refine C1.out.mono ?_
  intro e w2 h2
  unfold JnR at h2
  rw [if_pos HC.out, hT1, hT2] at h2
  obtain ⟨rfl, h3⟩ := h2
  have HX2 := hide (HB1.out.trans (h3.mono HB1.out.size))
  clear h3 hT1 hT2
  go_wp2_with fail
  refine (C2.out _).mono ?_
  intro e w3 h3
  unfold SpR at h3
  rw [HSPL.out, if_pos rfl, Int.toNat_natCast] at h3
  obtain ⟨q, rfl, hL3, hb3⟩ := h3
  have HX3 := hide (HX2.out.trans (hb3.mono HX2.out.size))
  have HL3 := hide hL3
  clear hb3 hL3
  go_wp2_with fail
  go_loopw [8] (fun vi wr => ∃ i : Nat, vi = .int .i64 i ∧ Hid (i ≤ n ∧ Below w3.heap.size w3 wr)) (fun vi _ => n - (intOf vi).toNat)
  case atStart => exact ⟨0, rfl, hide ⟨by omega, Below.refl _ _⟩⟩
  case round =>
    obtain ⟨W1, hW1⟩ : ∃ W1, W1 = wr := ⟨_, rfl⟩
    subst hW1
    obtain ⟨i, rfl, HV⟩ := hrel
    obtain ⟨hi, hbw⟩ := HV.out
    have hi0 : (0 : Int) ≤ (i : Int) := by omega
    have HBW := hide hbw
    clear HV hbw
    by_cases hlt : i < n
    case neg =>
      have hlt' : ¬ (i : Int) < (n : Int) := by omega
      have HXW := hide (HX3.out.trans (HBW.out.mono HX3.out.size))
      clear hlt
      go_wp2_with fail
      refine (CWk.out _).mono ?_
      rintro e w5 ⟨rfl, h6⟩
      have HX5 := hide (HXW.out.trans (h6.mono HXW.out.size))
      clear h6
      go_wp2_with fail
      go_ret
      exact ⟨rfl, HX5.out⟩
    have hlt' : (i : Int) < (n : Int) := by omega
    obtain ⟨hmid, hs4⟩ := HMID.out i hlt
    have hlen : (splV T1.data.toList T2 n true).length = n := by unfold splV; simp
    obtain ⟨b, off, ha, hcA⟩ : ∃ b off, a = some ⟨b, off, none⟩ ∧ ∀ x, Below w3.heap.size w3 x → x.cell? ⟨b, off + i, none⟩ = some (.string (ss.getD i ⟨#[]⟩)) := by
      rcases HLS.out with hz | ⟨b, off, h1, h2, h3⟩
      · have := HN.out; rw [hz] at this; simp at this; omega
      · refine ⟨b, off, h1, fun x hx => ?_⟩
        have hwx : Below w0.heap.size w0 x := HX3.out.trans (hx.mono HX3.out.size)
        rw [hwx.cell (p := ⟨b, off + i, none⟩) h2]
        exact h3 i (by have := HN.out; omega)
    subst ha
    have hcM : ∀ x, Below w3.heap.size w3 x → x.cell? ⟨q, i, none⟩ = some (.string ((splV T1.data.toList T2 n true).getD i ⟨#[]⟩)) := by
      rcases HL3.out with hz | ⟨b', off', h1, h2, h3⟩
      · rw [hz] at hlen; simp at hlen; omega
      · injection h1 with h1
        injection h1 with h1 h1' _
        subst h1 h1'
        intro x hx
        have := h3 i (by omega)
        rw [Nat.zero_add] at this
        rw [hx.cell (p := ⟨q, i, none⟩) h2]
        exact this
    obtain ⟨s, hs⟩ : ∃ s, ss.getD i ⟨#[]⟩ = s := ⟨_, rfl⟩
    obtain ⟨M, hM⟩ : ∃ M, (splV T1.data.toList T2 n true).getD i ⟨#[]⟩ = M := ⟨_, rfl⟩
    rw [hs] at hmid hcA hs4
    rw [hM] at hmid hcM
    obtain ⟨m1, m2, m3, m4⟩ := hmid
    have hlk : lck s.size ≤ 3 := by unfold lck; omega
    have hM4 : M.size ≤ 40003 := by omega
    have d1 : decide (M.size < s.size) = false := by rw [decide_eq_false_iff_not]; omega
    have d1' : decide ((M.size : Int) < (s.size : Int)) = false := by rw [decide_eq_false_iff_not]; omega
    have d2 : decide ((s.size : Int) + 3 < (M.size : Int)) = false := by rw [decide_eq_false_iff_not]; omega
    have d3 : ((M.size : Int) % 4 != 0) = false := by
      have : (M.size : Int) % 4 = 0 := by rw [m2]; unfold lck; omega
      simp [this]
    have d4 : (s.toList == s.toList) = true := by simp
    have d5 : (s.size : Int) ≤ (M.size : Int) := by omega
    have d6 : s.size ≤ M.size := by omega
    have d7 : (s.size : Int) ≤ 40000 := by omega
    have d8 : (M.size : Int) ≤ 40003 := by omega
    have CPs := hide (fun w => points_any s w (by omega))
    have CPm := hide (fun w => points_any M w (by omega))
    have CQs := hide (fun w => parts_any s w (by omega))
    have CQm := hide (fun w => parts_any M w (by omega))
    have HCA := hide hcA
    have HCM := hide hcM
    have hca := hcA W1 HBW.out
    have hcm := hcM W1 HBW.out
    have HM1 := hide m1
    have HM2 := hide m2
    have HM4 := hide m4
    clear hcA hcM hs hM hlen m1 m2 m4 hlk hs4 hM4
    go_wp2_with fail
    rename_i kk0
    have HA := hide kk0
    clear kk0
    go_quiet (fail)
    refine HA.out _ _ ?_
    clear HA d1 d1' d2 d3 m3
    have HBV := hide (below_drewN HBW.out nq)
    generalize W1.drewN nq = V at HBV ⊢
    have hca := HCA.out V HBV.out
    have hcm := HCM.out V HBV.out
    go_wp2_with fail
    go_loop [10] (fun vk => ∃ k : Nat, vk = .int .i64 k ∧ Hid (s.size ≤ k ∧ k ≤ M.size)) (fun vk => M.size - (intOf vk).toNat)
    case atStart => exact ⟨s.size, rfl, hide ⟨by omega, by omega⟩⟩
    case round =>
      obtain ⟨k, rfl, HV⟩ := hrel
      obtain ⟨hk1, hk2⟩ := HV.out
      have hk0 : (0 : Int) ≤ (k : Int) := by omega
      clear HV
      by_cases hlk : k < M.size
      · have hlk' : (k : Int) < (M.size : Int) := by omega
        have hz := HM4.out k hlk hk1
        go_wp2_with fail
        go_round
        case rel => exact ⟨k + 1, by go_num, hide ⟨by omega, by omega⟩⟩
        case measure => simp [intOf]; omega
      · have hlk' : ¬ (k : Int) < (M.size : Int) := by omega
        clear hlk
        cases hsh : shV s.data.toList with
        | none =>
          rw [hsh] at CPs CQs
          obtain ⟨RM, hRM⟩ : ∃ RM, shV M.data.toList = RM := ⟨_, rfl⟩
          rw [hRM] at CPm CQm
          have x100 : ((100 : Int) == 0) = false := by decide
          clear hsh hRM
          go_wp2_with fail
          refine (CPs.out _).mono ?_
          rintro e x1 ⟨rfl, hb1⟩
          have HY1 := hide (HBV.out.trans (hb1.mono HBV.out.size))
          have hcm1 := HCM.out x1 HY1.out
          have hca1 := HCA.out x1 HY1.out
          clear hb1
          unfold errV ptV
          go_wp2_with fail
          refine (CPm.out _).mono ?_
          rintro e x2 ⟨rfl, hb2⟩
          have HY2 := hide (HY1.out.trans (hb2.mono HY1.out.size))
          have hca2 := HCA.out x2 HY2.out
          clear hb2 hcm1 hca1
          generalize errV RM = E2
          generalize ptV RM = P2
          go_wp2_with fail
          refine (CQs.out _).mono ?_
          intro e x3 h3
          obtain ⟨v3, er3, rfl, hb3⟩ := pr_any h3
          have HY3 := hide (HY2.out.trans (hb3.mono HY2.out.size))
          have hcm3 := HCM.out x3 HY3.out
          clear h3 hb3 hca2
          go_wp2_with fail
          refine (CQm.out _).mono ?_
          intro e x4 h4
          obtain ⟨v4, er4, rfl, hb4⟩ := pr_any h4
          have HY4 := hide (HY3.out.trans (hb4.mono HY3.out.size))
          clear h4 hb4 hcm3
          go_wp2_with fail
          go_roundw
          case rel => exact ⟨i + 1, by go_num, hide ⟨by omega, HY4.out⟩⟩
          case measure => simp [intOf]; omega
        | some r =>
          obtain ⟨p, ps⟩ := r
          have hbd := (shV_bd hsh).2.2
          have HBD : Hid (ps.length ≤ 64) := hide hbd
          clear hbd
          have hRM := sh_pd _ _ hsh
          rw [← HM1.out] at hRM
          have hpr := pr_pd s.data.toList ps
          rw [← HM1.out] at hpr
          rw [hsh] at CPs CQs
          rw [hRM] at CPm CQm
          have xpp : ((p : Int) != (p : Int)) = false := by simp
          have HPR := hide hpr
          clear hsh hRM hpr
          go_wp2_with fail
          refine (CPs.out _).mono ?_
          rintro e x1 ⟨rfl, hb1⟩
          have HY1 := hide (HBV.out.trans (hb1.mono HBV.out.size))
          have hcm1 := HCM.out x1 HY1.out
          clear hb1
          unfold errV ptV
          go_wp2_with fail
          refine (CPm.out _).mono ?_
          rintro e x2 ⟨rfl, hb2⟩
          have HY2 := hide (HY1.out.trans (hb2.mono HY1.out.size))
          have hca2 := HCA.out x2 HY2.out
          clear hb2 hcm1
          unfold errV ptV
          go_wp2_with fail
          refine (CQs.out _).mono ?_
          intro e x3 h3
          unfold PrR at h3
          obtain ⟨v3, rfl, hI3, hb3⟩ := h3
          have HY3 := hide (HY2.out.trans (hb3.mono HY2.out.size))
          have hcm3 := HCM.out x3 HY3.out
          have HI3 := hide hI3
          clear hb3 hI3 hca2
          go_wp2_with fail
          refine (CQm.out _).mono ?_
          intro e x4 h4
          unfold PrR at h4
          obtain ⟨v4, rfl, hI4, hb4⟩ := h4
          have HY4 := hide (HY3.out.trans (hb4.mono HY3.out.size))
          rw [HPR.out] at hI4
          have hI3 := HI3.out.later hb4
          obtain ⟨a3, c3, rfl, L3, _, _⟩ := hI3.lst
          obtain ⟨a4, c4, rfl, L4, _, _⟩ := hI4.lst
          obtain ⟨LN, hLN⟩ : ∃ LN, (ints (prV s.data.toList ps)).length = LN := ⟨_, rfl⟩
          have CSm := hide (ksame_any a3 a4 LN c3 c4 _ x4 hLN (by rw [← hLN, ints_len]; unfold prV; rw [List.length_map]; have := HBD.out; omega) L3 L4)
          rw [hLN]
          clear hb4 hI3 hI4 L3 L4 hcm3 HI3 hLN
          go_wp2_with fail
          refine CSm.out.mono ?_
          rintro e x5 ⟨rfl, m5, hx5⟩
          subst hx5
          have HY5 := hide (below_drewN HY4.out m5)
          go_wp2_with fail
          go_roundw
          case rel => exact ⟨i + 1, by go_num, hide ⟨by omega, HY5.out⟩⟩
          case measure => simp [intOf]; omega
end Go.Proofs.YtjacjdglklcijaaDoor
