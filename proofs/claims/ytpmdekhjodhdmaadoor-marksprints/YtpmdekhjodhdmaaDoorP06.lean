/-
  Joined: U4RDec.
-/
import Derived.BigQuiet
import Derived.Deep.Draws
import Derived.Deep.QuietTactic
import Derived.Deep.RegionHeld3
import Derived.Lib.Strings
import Derived.Test.YtpmdekhjodhdmaaDoorP04
namespace Go.Proofs.YtpmdekhjodhdmaaDoor
open Go.RowKit
open Go.Lib (size_eq extract_eq)
theorem dropD (s : ByteArray) (k j : Nat) (h : k + j < s.size) : (s.data.toList.drop k).getD j 0 = s[k + j] := by
  rw [List.getD_eq_getElem?_getD, List.getElem?_drop, List.getElem?_eq_getElem (by rw [← size_eq]; exact h)]
  rfl
theorem dropD0 (s : ByteArray) (k : Nat) (h : k < s.size) : (s.data.toList.drop k).getD 0 0 = s[k] := dropD s k 0 h
theorem extract_take (s : ByteArray) (k n : Nat) : s.extract k (k + n) = ⟨((s.data.toList.drop k).take n).toArray⟩ := by
  rw [extract_eq, Nat.add_sub_cancel_left]
set_option maxRecDepth 100000 in
set_option maxHeartbeats 4000000 in
theorem rdecode_core (s : ByteArray) (w : World) (hs : s.size ≤ 65536) (ZS : List Int) (P E : Nat) (hR : rd st8 s.data.toList 0 = (ZS, P, E)) :
    Calls Tryd.prog 20 #[.string s] w fun e w' => ∃ v, e = .returned (.tuple #[v, .int .i64 P, .int .i64 E]) ∧ IRow w' w.heap.size v ZS ∧ Below w.heap.size w w' := by
  have hs' : (s.size : Int) ≤ 65536 := by omega
  have HR := hide (show Rd st8 s.data.toList 0 [] (ZS, P, E) by rw [← hR]; exact Rd.start _ _ _)
  have HS := hide hs
  obtain ⟨i0, hi, hz0, hz1, hz2⟩ := info_parts info_int
  have HI := hide hi
  have HI0 := hide hz0
  have HI1 := hide hz1
  have HI2 := hide hz2
  clear hi hz0 hz1 hz2 hR hs
  go_enter Tryd.func20, Tryd.ntmps20
  go_wp2_with fail
  go_loopw [5, 6] (fun vl va wr => ∃ (k : Nat) (ys : List Int), va = .int .i64 k ∧ Hid (k ≤ s.size ∧ ys.length ≤ k ∧ IRow wr w.heap.size vl ys ∧ Rd st8 (s.data.toList.drop k) k ys (ZS, P, E) ∧ Below w.heap.size w wr)) (fun _ va _ => s.size - (intOf va).toNat)
  case atStart => exact ⟨0, [], rfl, hide ⟨by omega, by simp, IRow.nil _ _, by rw [List.drop_zero]; exact HR.out, Below.refl _ _⟩⟩
  case round =>
    obtain ⟨k, ys, rfl, HK⟩ := hrel
    obtain ⟨k1, k2, k3, k4, k5⟩ := HK.out
    clear HK HR
    by_cases hlt : k < s.size
    · have hlt' : (k : Int) < (s.size : Int) := by omega
      have hne : s.data.toList.drop k ≠ [] := by
        intro h
        have := congrArg List.length h
        rw [List.length_drop, ← size_eq] at this
        simp at this
        omega
      obtain ⟨⟨n, p⟩, hnp⟩ : ∃ q, leadN s[k].toNat = q := ⟨_, rfl⟩
      have hb := leadN_bd s[k].toNat s[k].toNat_lt
      have ca := lead_any s[k].toNat wr s[k].toNat_lt
      rw [hnp] at ca hb
      simp only at ca hb
      have CA := hide ca
      have hd0 := dropD0 s k hlt
      have hl1 : (leadN ((s.data.toList.drop k).getD 0 0).toNat).1 = n := by rw [hd0, hnp]
      have hl2 : (leadN ((s.data.toList.drop k).getD 0 0).toNat).2 = p := by rw [hd0, hnp]
      have n4 : (n : Int) ≤ 4 := by omega
      have p1 : (p : Int) ≤ 127 := by omega
      have HN := hide (show n ≤ 4 ∧ p < 128 from hb)
      have K2 := hide k2
      have K3 := hide k3
      have K4 := hide k4
      have K5 := hide k5
      have HNE := hide hne
      have HL1 := hide hl1
      have HL2 := hide hl2
      have HLEN := hide (show (s.data.toList.drop k).length = s.size - k by rw [List.length_drop, ← size_eq])
      clear k2 k3 k4 k5 hne hl1 hl2 hd0 ca hb hnp
      by_cases h0 : n = 0 ∨ s.size < k + n
      · have he := K4.out.bad HNE.out (bad_lead _ (by rw [HL1.out, HLEN.out]; omega))
        simp only [Prod.mk.injEq] at he
        obtain ⟨hZ, hP, hE⟩ := he
        replace hP := hP.symm
        subst hZ hP hE
        by_cases h00 : n = 0
        · subst h00
          go_wp2_with (go_at_call 36; refine CA.out.mono ?_; rintro e w1 ⟨rfl, rfl⟩)
          go_ret3
          exact ⟨_, rfl, IRow.nil _ _, K5.out⟩
        · have f0 : ((n : Int) == 0) = false := by rw [beq_eq_false_iff_ne]; omega
          have f1 : decide ((s.size : Int) < (k : Int) + (n : Int)) = true := by simp; omega
          clear h0 h00
          go_wp2_with (go_at_call 36; refine CA.out.mono ?_; rintro e w1 ⟨rfl, rfl⟩)
          go_ret3
          exact ⟨_, rfl, IRow.nil _ _, K5.out⟩
      · have f0 : ((n : Int) == 0) = false := by rw [beq_eq_false_iff_ne]; omega
        obtain ⟨m, hm⟩ : ∃ m, k + n = m := ⟨_, rfl⟩
        have fm : (k : Int) + (n : Int) = (m : Int) := by omega
        have f1 : decide (s.size < m) = false := by simp; omega
        have m1 : (m : Int) ≤ (s.size : Int) := by omega
        have m2 : (k : Int) ≤ (m : Int) := by omega
        have wm : IntKind.i64.wrap (m : Int) = (m : Int) := by rw [IntKind.wrap_i64]; omega
        have HM := hide (show k + n = m ∧ 1 ≤ n ∧ m ≤ s.size by omega)
        clear h0 hm
        go_wp2_with (go_at_call 36; refine CA.out.mono ?_; rintro e w1 ⟨rfl, rfl⟩)
        go_loopw [8, 9] (fun vc vj wr' => ∃ c j : Nat, vc = .int .i64 c ∧ vj = .int .i64 j ∧ Hid (wr' = w1 ∧ 1 ≤ j ∧ j ≤ n ∧ accN (s.data.toList.drop k) p (j - 1) = c)) (fun _ vj _ => n - (intOf vj).toNat)
        case atStart => exact ⟨p, 1, rfl, rfl, hide ⟨rfl, Nat.le_refl _, HM.out.2.1, rfl⟩⟩
        case round =>
          obtain ⟨c, j, rfl, rfl, HJ⟩ := hrel
          obtain ⟨hww, j1, j2, j3⟩ := HJ.out
          clear HJ
          subst hww
          have hcb := accN_lt (s.data.toList.drop k) p (j - 1) HN.out.2
          rw [j3] at hcb
          by_cases hj : j < n
          · have c1 : (c : Int) ≤ 600000 := by
              have : 64 ^ (j - 1) ≤ 64 ^ 2 := Nat.pow_le_pow_right (by decide) (by have := HN.out; omega)
              have e : (64 : Nat) ^ 2 = 4096 := rfl
              omega
            have hj' : (j : Int) < (n : Int) := by omega
            have hkj : k + j < s.size := by have := HM.out; omega
            have hkj' : (k : Int) + (j : Int) < (s.size : Int) := by omega
            have hb := dropD s k j hkj
            have hbad := bad_next (s.data.toList.drop k) j j1 (by rw [HL1.out]; exact hj)
            rw [hb] at hbad
            have hacc : accN (s.data.toList.drop k) p (j + 1 - 1) = c * 64 + (s[k + j].toNat - 128) := by
              obtain ⟨i, rfl⟩ : ∃ i, j = i + 1 := ⟨j - 1, by omega⟩
              rw [Nat.add_sub_cancel] at j3 ⊢
              rw [← hb, ← j3]
              rfl
            have HX := hide hbad
            have HA := hide hacc
            clear hbad hacc hb hcb j3
            by_cases g1 : s[k + j].toNat < 128
            · have he := K4.out.bad HNE.out (HX.out (by omega))
              simp only [Prod.mk.injEq] at he
              obtain ⟨hZ, hP, hE⟩ := he
              replace hP := hP.symm
              subst hZ hP hE
              have g1' : (s[k + j].toNat : Int) < 128 := by omega
              clear g1 HX HA
              go_wp2
              go_ret3
              exact ⟨_, rfl, IRow.nil _ _, K5.out⟩
            · have g1' : decide ((s[k + j].toNat : Int) < 128) = false := by simp; omega
              by_cases g2 : 191 < s[k + j].toNat
              · have he := K4.out.bad HNE.out (HX.out (by omega))
                simp only [Prod.mk.injEq] at he
                obtain ⟨hZ, hP, hE⟩ := he
                replace hP := hP.symm
                subst hZ hP hE
                have g2' : (191 : Int) < (s[k + j].toNat : Int) := by omega
                clear g1 g2 HX HA
                go_wp2
                go_ret3
                exact ⟨_, rfl, IRow.nil _ _, K5.out⟩
              · have g2' : decide ((191 : Int) < (s[k + j].toNat : Int)) = false := by simp; omega
                have g3 : (s[k + j].toNat : Int) ≤ 191 := by omega
                have g4 : (128 : Int) ≤ (s[k + j].toNat : Int) := by omega
                clear HX g1 g2
                go_wp2
                go_roundw
                case rel =>
                  refine ⟨c * 64 + (s[k + j].toNat - 128), j + 1, ?_, by go_num, hide ⟨trivial, by omega, by omega, HA.out⟩⟩
                  congr 1
                  omega
                case measure => simp [intOf]; omega
          · obtain rfl : j = n := by omega
            have hj' : ¬ (j : Int) < (j : Int) := by omega
            have c1 : (c : Int) ≤ 40000000 := by
              have : 64 ^ (j - 1) ≤ 64 ^ 3 := Nat.pow_le_pow_right (by decide) (by have := HN.out; omega)
              have e : (64 : Nat) ^ 3 = 262144 := rfl
              omega
            have hbad := bad_code (s.data.toList.drop k) c j HL1.out (by rw [HL2.out]; exact j3)
            have hgood := fun h1 h2 => good_code (s.data.toList.drop k) c j h1 h2 (by rw [HLEN.out]; have := HM.out; omega)
            have hx : s.extract k m = ⟨((s.data.toList.drop k).take j).toArray⟩ := by rw [← HM.out.1]; exact extract_take s k j
            have HB := hide (Below.refl wr.heap.size wr)
            clear hcb j3
            by_cases hp : isP (c : Int) = true
            · have c2 : c ≤ 1114111 := by have := isP_t.1 hp; omega
              have HO := hide (fun w => one_any c w c2)
              by_cases hu : e8 c = (s.data.toList.drop k).take j
              · have hst := K4.out.step HNE.out (by rw [hgood hp hu]; have := HM.out; simp; omega)
                rw [hgood hp hu] at hst
                simp only at hst
                rw [List.drop_drop, HM.out.1] at hst
                have HST := hide hst
                rw [← hu] at hx
                clear hgood hbad hst
                go_wp2_with fail
                rename_i q0
                have HA := hide q0
                clear q0
                go_region_held3 (fun _ => True) (first | trivial | go_keep) ((first | (go_at_call 37; refine (is_any _ _).mono ?_; rintro e x ⟨rfl, rfl⟩) | (go_at_call 38; refine (HO.out _).mono ?_; rintro e x ⟨rfl, hbx⟩)))
                refine HA.out _ _ ?_
                have HX := hide (show Below wr.heap.size wr x from (Below.refl _ _).drew.trans hbx)
                clear hbx
                have HOX := hide (own_below K3.out K5.out HX.out)
                have HBX := hide (K5.out.trans (HX.out.mono K5.out.size))
                go_wp2_with (at_builtin; refine wpList_append_own _ rfl _ _ 40 rfl w.heap.size 3 i0 (.int .i64 0) 1 8 Tryd.underlying40 HI.out HI0.out HI1.out HI2.out rfl (by decide) _ _ _ rfl (World.ownsRow.alloc HOX.out _) ⟨x.heap.size, 0, none⟩ 1 1 [.int .i64 (c : Int)] rfl rfl ?d1 ?d2 ?d3 ?d4 ?d5 ?_)
                case d1 =>
                  intro j u hj
                  match j, hj with
                  | 0, hj => simp at hj; subst hj; simp [Addr.add]
                case d2 => intro u hu; simp at hu; subst hu; rfl
                case d3 => have := K2.out; have := HM.out; have := HS.out; unfold maxLen; omega
                case d4 => have := K2.out; have := HM.out; have := HS.out; omega
                case d5 => simp; have := HBX.out.size; omega
                intro v2 w2 hown2 hgrow2 _
                have HB2 := hide (show Below w.heap.size w w2 from (HBX.out.alloc HBX.out.size _).grown hgrow2 (by simp; have := HBX.out.size; omega) (fun k hk => (HOX.out.lt k hk).1))
                have HO2 := hide (show IRow w2 w.heap.size v2 (ys ++ [(c : Int)]) by
                  unfold IRow
                  rw [List.map_append, List.length_append]
                  exact hown2)
                clear hown2 hgrow2
                go_wp2
                go_roundw
                case rel => exact ⟨m, ys ++ [(c : Int)], by first | rfl | go_num, hide ⟨HM.out.2.2, by have := K2.out; have := HM.out; simp; omega, HO2.out, HST.out, HB2.out⟩⟩
                case measure => have := HM.out; simp [intOf]; omega
              · have he := K4.out.bad HNE.out (hbad (Or.inr hu))
                simp only [Prod.mk.injEq] at he
                obtain ⟨hZ, hP, hE⟩ := he
                replace hP := hP.symm
                subst hZ hP hE
                have hneq : ((⟨(e8 c).toArray⟩ : ByteArray).toList == (s.extract k m).toList) = false := by
                  rw [hx, beq_eq_false_iff_ne, Lib.toList_data, Lib.toList_data]
                  intro h
                  exact hu (by simpa using h)
                clear hgood hbad hx hu
                generalize (⟨(e8 c).toArray⟩ : ByteArray) = U at *
                go_wp2_with fail
                rename_i q0
                have HA := hide q0
                clear q0
                go_region_held3 (fun _ => True) (first | trivial | go_keep) ((first | (go_at_call 37; refine (is_any _ _).mono ?_; rintro e x ⟨rfl, rfl⟩) | (go_at_call 38; refine (HO.out _).mono ?_; rintro e x ⟨rfl, hbx⟩)))
                refine HA.out _ _ ?_
                have HX := hide (show Below wr.heap.size wr x from (Below.refl _ _).drew.trans hbx)
                clear hbx
                go_wp2
                go_ret3
                exact ⟨_, rfl, IRow.nil _ _, K5.out.trans (HX.out.mono K5.out.size)⟩
            · have hp' : isP (c : Int) = false := by simpa using hp
              have he := K4.out.bad HNE.out (hbad (Or.inl hp'))
              simp only [Prod.mk.injEq] at he
              obtain ⟨hZ, hP, hE⟩ := he
              replace hP := hP.symm
              subst hZ hP hE
              have CI := hide (fun w => is_any (c : Int) w)
              simp only [hp'] at CI
              clear hgood hbad hx hp hp'
              go_wp2_with fail
              rename_i q0
              have HA := hide q0
              clear q0
              go_quiet ((go_at_call 37; exact Calls.quiet_of_same (CI.out _)))
              refine HA.out _ _ ?_
              go_wp2
              go_ret3
              exact ⟨_, rfl, IRow.nil _ _, below_drewN K5.out _⟩
    · have hlt' : ¬ (k : Int) < (s.size : Int) := by omega
      rw [List.drop_eq_nil_of_le (by rw [← size_eq]; omega)] at k4
      have he := k4.done
      simp only [Prod.mk.injEq] at he
      obtain ⟨rfl, rfl, rfl⟩ := he
      have K3 := hide k3
      have K5 := hide k5
      clear k2 k3 k4 k5
      go_wp2
      go_ret3
      exact ⟨_, rfl, K3.out, K5.out⟩
end Go.Proofs.YtpmdekhjodhdmaaDoor
