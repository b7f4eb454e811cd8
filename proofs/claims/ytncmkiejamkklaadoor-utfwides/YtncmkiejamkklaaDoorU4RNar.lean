/-
  What the reference's Narrow (chapter 4) answers.
-/
import Derived.Test.YtncmkiejamkklaaDoorU4NarB
import Derived.Test.YtncmkiejamkklaaDoorU4RCls
import Derived.Deep.CutRange
namespace Go.Proofs.YtncmkiejamkklaaDoor
open Go.RowKit

theorem dropD' (s : ByteArray) (k j : Nat) (h : k + j < s.size) : (s.data.toList.drop k).getD j 0 = s[k + j] := by
  rw [List.getD_eq_getElem?_getD, List.getElem?_drop, List.getElem?_eq_getElem (by rw [← Lib.size_eq]; exact h)]
  rfl
theorem st16_lo (l : List UInt8) (U : Nat) (hU : un l = U) (h2 : 2 ≤ l.length) (h : 56320 ≤ U ∧ U ≤ 57343) : (st16 l).2 = 0 := by
  unfold st16
  rw [hU, if_neg (by omega), if_pos h]
theorem st16_one (l : List UInt8) (U : Nat) (hU : un l = U) (h2 : 2 ≤ l.length) (h : ¬ (55296 ≤ U ∧ U ≤ 57343)) : st16 l = (U, 2) := by
  unfold st16
  rw [hU, if_neg (by omega), if_neg (by omega), if_pos (by omega)]
theorem st16_end (l : List UInt8) (U : Nat) (hU : un l = U) (h2 : 2 ≤ l.length) (h : 55296 ≤ U ∧ U ≤ 56319) (h4 : l.length < 4) : (st16 l).2 = 0 := by
  unfold st16
  rw [hU, if_neg (by omega), if_neg (by omega), if_neg (by omega), if_pos h4]
theorem st16_no (l : List UInt8) (U V : Nat) (hU : un l = U) (hV : un (l.drop 2) = V) (h4 : 4 ≤ l.length) (h : 55296 ≤ U ∧ U ≤ 56319) (hv : ¬ (56320 ≤ V ∧ V ≤ 57343)) : (st16 l).2 = 0 := by
  unfold st16
  rw [hU, hV, if_neg (by omega), if_neg (by omega), if_neg (by omega), if_neg (by omega), if_pos hv]
theorem st16_two (l : List UInt8) (U V : Nat) (hU : un l = U) (hV : un (l.drop 2) = V) (h4 : 4 ≤ l.length) (h : 55296 ≤ U ∧ U ≤ 56319) (hv : 56320 ≤ V ∧ V ≤ 57343) : st16 l = (65536 + (U - 55296) * 1024 + (V - 56320), 4) := by
  unfold st16
  rw [hU, hV, if_neg (by omega), if_neg (by omega), if_neg (by omega), if_neg (by omega), if_neg (by omega)]
theorem isP_lo {U : Nat} (h : 56320 ≤ U ∧ U ≤ 57343) : isP (U : Int) = false := isP_f.2 (by omega)
theorem rnar_bad (s : ByteArray) (w : World) (hs : s.size ≤ 65536) (hp : Lib.hasPrefix s.data.toList [254, 255] = false) :
    Calls Tryd.prog 25 #[.string s] w fun e w' => e = .returned (.tuple #[.slice none 0 0, .int .i64 0, .int .i64 40]) ∧ w' = w := by
  have hs' : (s.size : Int) ≤ 65536 := by omega
  by_cases h2 : s.size < 2
  · have h2' : decide (s.size < 2) = true := by simpa using h2
    have h2'' : (s.size : Int) < 2 := by omega
    clear hs hp h2
    go_enter Tryd.func25, Tryd.ntmps25
    go_wp2
    go_ret3
    exact ⟨rfl, rfl⟩
  have g1 : decide ((s.size : Int) < 2) = false := by simp; omega
  have g0 : (0 : Int) < (s.size : Int) := by omega
  have g2 : (1 : Int) < (s.size : Int) := by omega
  have hl : ∃ r, s.data.toList = s[0] :: s[1] :: r := by
    obtain ⟨b0, b1, r, hr⟩ := cons2 (l := s.data.toList) (by rw [← Lib.size_eq]; omega)
    have e0 := getD_at s 0 (by omega)
    have e1 := getD_at s 1 (by omega)
    rw [hr] at e0 e1
    simp at e0 e1
    exact ⟨r, by rw [hr, e0, e1]⟩
  obtain ⟨r, hr⟩ := hl
  have hne : ¬ (s[0] = 254 ∧ s[1] = 255) := by
    rintro ⟨e0, e1⟩
    rw [e0, e1] at hr
    have := (pre_two _).2 ⟨r, hr⟩
    rw [hp] at this
    simp at this
  by_cases e0 : s[0] = 254
  · have f0 : ((s[0].toNat : Int) != 254) = false := by rw [e0]; rfl
    have f1 : ((s[1].toNat : Int) != 255) = true := by
      rw [bne_iff_ne]
      intro h
      exact hne ⟨e0, UInt8.toNat_inj.1 (by show s[1].toNat = 255; omega)⟩
    clear hp hr hne e0
    go_enter Tryd.func25, Tryd.ntmps25
    go_wp2
    go_ret3
    exact ⟨rfl, rfl⟩
  · have f0 : ((s[0].toNat : Int) != 254) = true := by
      rw [bne_iff_ne]
      intro h
      exact e0 (UInt8.toNat_inj.1 (by show s[0].toNat = 254; omega))
    clear hp hr hne e0
    go_enter Tryd.func25, Tryd.ntmps25
    go_wp2
    go_ret3
    exact ⟨rfl, rfl⟩

set_option maxRecDepth 100000 in
set_option maxHeartbeats 4000000 in
theorem rnar_core (s : ByteArray) (w : World) (hs : s.size ≤ 65536) (ZS : List Int) (P E : Nat) (hR : narV s.data.toList = (ZS, P, E)) :
    Calls Tryd.prog 25 #[.string s] w fun e w' => ∃ v, e = .returned (.tuple #[v, .int .i64 P, .int .i64 E]) ∧ IRow w' w.heap.size v ZS ∧ Below w.heap.size w w' := by
  have hs' : (s.size : Int) ≤ 65536 := by omega
  unfold narV at hR
  cases hp : Lib.hasPrefix s.data.toList [254, 255]
  · rw [hp, if_neg (by simp)] at hR
    simp only [Prod.mk.injEq] at hR
    obtain ⟨rfl, rfl, rfl⟩ := hR
    refine (rnar_bad s w hs hp).mono ?_
    rintro e w' ⟨rfl, rfl⟩
    exact ⟨_, rfl, IRow.nil _ _, Below.refl _ _⟩
  rw [hp, if_pos rfl] at hR
  obtain ⟨r, hr⟩ := (pre_two _).1 hp
  have h2 : 2 ≤ s.size := by rw [Lib.size_eq, hr]; simp
  have f0 : ((s[0].toNat : Int) != 254) = false := by
    have := getD_at s 0 (by omega)
    rw [hr] at this
    simp at this
    rw [← this]; rfl
  have f1 : ((s[1].toNat : Int) != 255) = false := by
    have := getD_at s 1 (by omega)
    rw [hr] at this
    simp at this
    rw [← this]; rfl
  have g1 : decide ((s.size : Int) < 2) = false := by simp; omega
  have g0 : (0 : Int) < (s.size : Int) := by omega
  have g2 : (1 : Int) < (s.size : Int) := by omega
  have HR := hide (show Rd st16 (s.data.toList.drop 2) 2 [] (ZS, P, E) by rw [← hR]; exact Rd.start _ _ _)
  have HS := hide hs
  have H2 := hide h2
  obtain ⟨i0, hi, hz0, hz1, hz2⟩ := info_parts info_int
  have HI := hide hi
  have HI0 := hide hz0
  have HI1 := hide hz1
  have HI2 := hide hz2
  clear hi hz0 hz1 hz2 hR hr hp
  go_enter Tryd.func25, Tryd.ntmps25
  go_wp2_with fail
  go_loopw [5, 6] (fun vl va wr => ∃ (k : Nat) (ys : List Int), va = .int .i64 k ∧ Hid (k ≤ s.size ∧ ys.length ≤ k ∧ IRow wr w.heap.size vl ys ∧ Rd st16 (s.data.toList.drop k) k ys (ZS, P, E) ∧ Below w.heap.size w wr)) (fun _ va _ => s.size - (intOf va).toNat)
  case atStart => exact ⟨2, [], rfl, hide ⟨H2.out, by simp, IRow.nil _ _, HR.out, Below.refl _ _⟩⟩
  case round =>
    obtain ⟨k, ys, rfl, HK⟩ := hrel
    obtain ⟨k1, k2, k3, k4, k5⟩ := HK.out
    clear HK HR
    by_cases hlt : k < s.size
    · have hlt' : (k : Int) < (s.size : Int) := by omega
      have hne : s.data.toList.drop k ≠ [] := by
        intro h
        have := congrArg List.length h
        rw [List.length_drop, ← Lib.size_eq] at this
        simp at this
        omega
      have hll : (s.data.toList.drop k).length = s.size - k := by rw [List.length_drop, ← Lib.size_eq]
      have K2 := hide k2
      have K3 := hide k3
      have K4 := hide k4
      have K5 := hide k5
      have HNE := hide hne
      clear k2 k3 k4 k5 hne
      by_cases c1 : s.size < k + 2
      · have he := K4.out.bad HNE.out (by unfold st16; rw [if_pos (by omega)])
        simp only [Prod.mk.injEq] at he
        obtain ⟨hZ, hP, hE⟩ := he
        replace hP := hP.symm
        subst hZ hP hE
        have d1 : decide ((s.size : Int) < (k : Int) + 2) = true := by simp; omega
        clear c1
        go_wp2
        go_ret3
        exact ⟨_, rfl, IRow.nil _ _, K5.out⟩
      have d1 : decide ((s.size : Int) < (k : Int) + 2) = false := by simp; omega
      have d2 : (k : Int) + 1 < (s.size : Int) := by omega
      have d3 : (k : Int) + 1 ≤ 65536 := by omega
      have hu : un (s.data.toList.drop k) = s[k].toNat * 256 + s[k + 1].toNat := by
        unfold un
        rw [show (s.data.toList.drop k).getD 0 0 = s[k] from dropD' s k 0 (by omega), dropD' s k 1 (by omega)]
      have a0 := s[k].toNat_lt
      have a1 := s[k + 1].toNat_lt
      obtain ⟨U, hU⟩ : ∃ U, un (s.data.toList.drop k) = U := ⟨_, rfl⟩
      obtain ⟨UI, hUI⟩ : ∃ UI : Int, UI = (U : Int) := ⟨_, rfl⟩
      have HUI := hide hUI
      have e0 : (s[k].toNat : Int) * 256 + (s[k + 1].toNat : Int) = UI := by omega
      have b0 : (s[k].toNat : Int) ≤ 255 := by omega
      have b1 : (s[k + 1].toNat : Int) ≤ 255 := by omega
      have u1 : UI ≤ 65535 := by omega
      have u0 : 0 ≤ UI := by omega
      have k0 : IntKind.i64.wrap (s[k].toNat : Int) = (s[k].toNat : Int) := by rw [IntKind.wrap_i64]; omega
      have k1' : IntKind.i64.wrap (s[k + 1].toNat : Int) = (s[k + 1].toNat : Int) := by rw [IntKind.wrap_i64]; omega
      have k2' : IntKind.i64.wrap ((s[k].toNat : Int) * 256) = (s[k].toNat : Int) * 256 := by rw [IntKind.wrap_i64]; omega
      have k3' : IntKind.i64.wrap UI = UI := by rw [IntKind.wrap_i64]; omega
      have k4' : IntKind.i64.wrap ((k : Int) + 1) = (k : Int) + 1 := by rw [IntKind.wrap_i64]; omega
      have HU := hide hU
      have HX := hide (And.intro k0 (And.intro k1' (And.intro k2' (And.intro k3' (And.intro k4' (And.intro e0 (And.intro d2 (And.intro u1 u0))))))))
      clear hu a0 a1 hU hUI k0 k1' k2' k3' k4' e0 d2 d3 u1 u0
      go_upto_region 8 with (fail)
      go_cut [7] from 23 to 92 (fun s7 wc => s7 = .int .i64 UI ∧ wc = wr.drew)
      case first =>
        obtain ⟨k0, k1', k2', k3', k4', e0, d2, u1, u0⟩ := HX.out
        go_region_held3 (fun _ => True) (first | trivial | go_keep) ((fail))
        all_goals (go_wp2_with fail; go_meet; exact ⟨rfl, rfl⟩)
      case rest =>
        obtain ⟨hc7, hcw⟩ := hcut
        subst hc7 hcw
        obtain ⟨k0, k1', k2', k3', k4', e0, d2, u1, u0⟩ := HX.out
        clear k0 k1' k2' k3' k4' e0 HX
        have KX := hide (show IRow wr.drew w.heap.size _ ys from K3.out)
        have BX := hide K5.out.drew
        have hUI := HUI.out
        by_cases c3 : 55296 ≤ U ∧ U ≤ 56319
        · have t1 : 55296 ≤ UI := by omega
          have t2 : UI ≤ 56319 := by omega
          by_cases c4 : s.size < k + 4
          · have he := K4.out.bad HNE.out (st16_end _ U HU.out (by omega) c3 (by omega))
            simp only [Prod.mk.injEq] at he
            obtain ⟨hZ, hP, hE⟩ := he
            replace hP := hP.symm
            subst hZ hP hE
            have d4 : decide ((s.size : Int) < (k : Int) + 4) = true := by simp; omega
            clear c3 u1 u0 hUI
            go_wp2
            go_ret3
            exact ⟨_, rfl, IRow.nil _ _, BX.out⟩
          have d4 : decide ((s.size : Int) < (k : Int) + 4) = false := by simp; omega
          have p2 : (k : Int) + 2 < (s.size : Int) := by omega
          have p3 : (k : Int) + 3 < (s.size : Int) := by omega
          have hu : un ((s.data.toList.drop k).drop 2) = s[k + 2].toNat * 256 + s[k + 3].toNat := by
            unfold un
            rw [List.drop_drop, show (s.data.toList.drop (k + 2)).getD 0 0 = s[k + 2] from dropD' s (k + 2) 0 (by omega), show (s.data.toList.drop (k + 2)).getD 1 0 = s[k + 3] from dropD' s (k + 2) 1 (by omega)]
          have a0 := s[k + 2].toNat_lt
          have a1 := s[k + 3].toNat_lt
          obtain ⟨V, hV⟩ : ∃ V, un ((s.data.toList.drop k).drop 2) = V := ⟨_, rfl⟩
          obtain ⟨VI, hVI⟩ : ∃ VI : Int, VI = (V : Int) := ⟨_, rfl⟩
          have HVI := hide hVI
          have e0 : (s[k + 2].toNat : Int) * 256 + (s[k + 3].toNat : Int) = VI := by omega
          have v1 : VI ≤ 65535 := by omega
          have v0 : 0 ≤ VI := by omega
          have k0 : IntKind.i64.wrap (s[k + 2].toNat : Int) = (s[k + 2].toNat : Int) := by rw [IntKind.wrap_i64]; omega
          have k1' : IntKind.i64.wrap (s[k + 3].toNat : Int) = (s[k + 3].toNat : Int) := by rw [IntKind.wrap_i64]; omega
          have k2' : IntKind.i64.wrap ((s[k + 2].toNat : Int) * 256) = (s[k + 2].toNat : Int) * 256 := by rw [IntKind.wrap_i64]; omega
          have k3' : IntKind.i64.wrap VI = VI := by rw [IntKind.wrap_i64]; omega
          have k4' : IntKind.i64.wrap ((k : Int) + 2) = (k : Int) + 2 := by rw [IntKind.wrap_i64]; omega
          have k5' : IntKind.i64.wrap ((k : Int) + 3) = (k : Int) + 3 := by rw [IntKind.wrap_i64]; omega
          have HX := hide (And.intro k0 (And.intro k1' (And.intro k2' (And.intro k3' (And.intro k4' (And.intro k5' (And.intro e0 (And.intro p2 p3))))))))
          have HV := hide hV
          have HC := hide (And.intro c1 (And.intro c3 (And.intro c4 (And.intro u1 (And.intro v1 (And.intro u0 (And.intro v0 (And.intro hUI (And.intro t1 t2)))))))))
          clear hu a0 a1 hV k0 k1' k2' k3' k4' k5' e0 p2 p3 c3 v1 u1 u0 v0 hUI hVI t1 t2
          have t1 : 55296 ≤ UI := HC.out.2.2.2.2.2.2.2.2.1
          have t2 : UI ≤ 56319 := HC.out.2.2.2.2.2.2.2.2.2
          go_upto_region 13 with (fail)
          go_cut [9] from 23 to 92 (fun s9 wc => s9 = .int .i64 VI ∧ wc = wr.drew.drew)
          case first =>
            obtain ⟨k0, k1', k2', k3', k4', k5', e0, p2, p3⟩ := HX.out
            have n2 : ((k : Int) + 2).toNat = k + 2 := by omega
            have n3 : ((k : Int) + 3).toNat = k + 3 := by omega
            go_region_held3 (fun _ => True) (first | trivial | go_keep) ((fail))
            all_goals (go_wp2_with fail; go_meet; exact ⟨rfl, rfl⟩)
          case rest =>
            obtain ⟨hc9, hcw⟩ := hcut
            subst hc9 hcw
            clear HX
            obtain ⟨c1, c3, c4, u1, v1, u0, v0, hUI, _, _⟩ := HC.out
            have hVI := HVI.out
            clear HC
            by_cases c5 : 56320 ≤ V ∧ V ≤ 57343
            · have t3 : decide (VI < 56320) = false := by simp; omega
              have t4 : decide (57343 < VI) = false := by simp; omega
              obtain ⟨CN, hCN⟩ : ∃ CN, 65536 + (U - 55296) * 1024 + (V - 56320) = CN := ⟨_, rfl⟩
              obtain ⟨CC, hCC⟩ : ∃ CC : Int, (CN : Int) = CC := ⟨_, rfl⟩
              have hst := st16_two _ U V HU.out HV.out (by omega) c3 c5
              rw [hCN] at hst
              have hstep := K4.out.step HNE.out (by rw [hst]; simp)
              rw [hst] at hstep
              simp only at hstep
              rw [List.drop_drop, hCC] at hstep
              have HST := hide hstep
              have hp : isP CC = true := isP_t.2 (by omega)
              have o1 : UI - 55296 ≤ 1023 := by omega
              have o3 : 65536 + (UI - 55296) * 1024 + VI - 56320 = CC := by omega
              have o4 : CC ≤ 1114111 := by omega
              have o5 : 0 ≤ CC := by omega
              have KX := hide (show IRow wr.drew.drew w.heap.size _ ys from K3.out)
              have BX := hide K5.out.drew.drew
              clear hst hstep c5 hCC hCN c3 hUI hVI
              go_wp2_with (first
                | (go_at_call 28; refine (is_any _ _).mono ?_; rintro e x ⟨rfl, rfl⟩)
                | (at_builtin; refine wpList_append_own _ rfl _ _ 23 rfl w.heap.size 3 i0 (.int .i64 0) 1 8 Tryd.underlying23 HI.out HI0.out HI1.out HI2.out rfl (by decide) _ _ _ rfl (World.ownsRow.alloc KX.out _) ⟨_, 0, none⟩ 1 1 [.int .i64 CC] rfl rfl ?d1 ?d2 ?d3 ?d4 ?d5 ?_))
              case d1 =>
                intro j u hj
                match j, hj with
                | 0, hj => simp at hj; subst hj; exact new_cell0 _ _ _
              case d2 => intro u hu; simp at hu; subst hu; rfl
              case d3 => have := K2.out; have := HS.out; unfold maxLen; omega
              case d4 => have := K2.out; have := HS.out; omega
              case d5 => simp; have := K5.out.size; omega
              intro v2 w3 hown2 hgrow2 _
              have HB2 := hide (show Below w.heap.size w w3 from (BX.out.alloc BX.out.size _).grown hgrow2 (by simp; have := K5.out.size; omega) (fun k hk => (World.ownsRow.lt KX.out k hk).1))
              have HO2 := hide (show IRow w3 w.heap.size v2 (ys ++ [CC]) by
                unfold IRow
                rw [List.map_append, List.length_append]
                exact hown2)
              clear hown2 hgrow2
              go_wp2
              go_roundw
              case rel => exact ⟨k + 4, ys ++ [CC], by go_num, hide ⟨by omega, by have := K2.out; simp; omega, HO2.out, HST.out, HB2.out⟩⟩
              case measure => simp [intOf]; omega
            · have he := K4.out.bad HNE.out (st16_no _ U V HU.out HV.out (by omega) c3 c5)
              simp only [Prod.mk.injEq] at he
              obtain ⟨hZ, hP, hE⟩ := he
              replace hP := hP.symm
              subst hZ hP hE
              have BX := hide K5.out.drew.drew
              by_cases c6 : V < 56320
              · have t3 : VI < 56320 := by omega
                clear c3 c5 c6 u1 v1 u0 v0 hUI hVI
                go_wp2
                go_ret3
                exact ⟨_, rfl, IRow.nil _ _, BX.out⟩
              · have t3 : decide (VI < 56320) = false := by simp; omega
                have t4 : 57343 < VI := by omega
                clear c3 c5 c6 u1 v1 u0 v0 hUI hVI
                go_wp2
                go_ret3
                exact ⟨_, rfl, IRow.nil _ _, BX.out⟩
        · have t0 : (55296 ≤ UI ∧ decide (UI ≤ 56319) = false) ∨ decide (55296 ≤ UI) = false := by
            by_cases h : 55296 ≤ U
            · left; exact ⟨by omega, by simp; omega⟩
            · right; simp; omega
          by_cases c5 : 56320 ≤ U ∧ U ≤ 57343
          · have he := K4.out.bad HNE.out (st16_lo _ U HU.out (by omega) c5)
            simp only [Prod.mk.injEq] at he
            obtain ⟨hZ, hP, hE⟩ := he
            replace hP := hP.symm
            subst hZ hP hE
            have hp : isP UI = false := by rw [hUI]; exact isP_lo c5
            clear c3 c5 u1 u0 hUI
            rcases t0 with ⟨t1, t2⟩ | t1
            all_goals
              go_wp2_with (go_at_call 28; refine (is_any _ _).mono ?_; rintro e x ⟨rfl, rfl⟩)
              go_ret3
              exact ⟨_, rfl, IRow.nil _ _, BX.out⟩
          · have hst := st16_one _ U HU.out (by omega) (by omega)
            have hstep := K4.out.step HNE.out (by rw [hst]; simp)
            rw [hst] at hstep
            simp only at hstep
            rw [List.drop_drop, ← hUI] at hstep
            have HST := hide hstep
            have hp : isP UI = true := isP_t.2 (by omega)
            clear hst hstep c5 c3 hUI
            rcases t0 with ⟨t1, t2⟩ | t1
            all_goals
              go_wp2_with (first
                | (go_at_call 28; refine (is_any _ _).mono ?_; rintro e x ⟨rfl, rfl⟩)
                | (at_builtin; refine wpList_append_own _ rfl _ _ 23 rfl w.heap.size 3 i0 (.int .i64 0) 1 8 Tryd.underlying23 HI.out HI0.out HI1.out HI2.out rfl (by decide) _ _ _ rfl (World.ownsRow.alloc KX.out _) ⟨_, 0, none⟩ 1 1 [.int .i64 UI] rfl rfl ?d1 ?d2 ?d3 ?d4 ?d5 ?_))
              case d1 =>
                intro j u hj
                match j, hj with
                | 0, hj => simp at hj; subst hj; exact new_cell0 _ _ _
              case d2 => intro u hu; simp at hu; subst hu; rfl
              case d3 => have := K2.out; have := HS.out; unfold maxLen; omega
              case d4 => have := K2.out; have := HS.out; omega
              case d5 => simp; have := K5.out.size; omega
              intro v2 w3 hown2 hgrow2 _
              have HB2 := hide (show Below w.heap.size w w3 from (BX.out.alloc BX.out.size _).grown hgrow2 (by simp; have := K5.out.size; omega) (fun k hk => (World.ownsRow.lt KX.out k hk).1))
              have HO2 := hide (show IRow w3 w.heap.size v2 (ys ++ [UI]) by
                unfold IRow
                rw [List.map_append, List.length_append]
                exact hown2)
              clear hown2 hgrow2
              go_wp2
              go_roundw
              case rel => exact ⟨k + 2, ys ++ [UI], by go_num, hide ⟨by omega, by have := K2.out; simp; omega, HO2.out, HST.out, HB2.out⟩⟩
              case measure => simp [intOf]; omega
    · have hlt' : ¬ (k : Int) < (s.size : Int) := by omega
      rw [List.drop_eq_nil_of_le (by rw [← Lib.size_eq]; omega)] at k4
      have he := k4.done
      simp only [Prod.mk.injEq] at he
      obtain ⟨rfl, rfl, rfl⟩ := he
      have K3 := hide k3
      have K5 := hide k5
      clear k2 k3 k4 k5
      go_wp2
      go_ret3
      exact ⟨_, rfl, K3.out, K5.out⟩
end Go.Proofs.YtncmkiejamkklaaDoor
