/-
  Joined: K17Rd, K17Re, K17Rg.
-/
import Derived.Deep.RegionHeld3
import Derived.Test.YtpmdekhjodhdmaaDoorQ21
namespace Go.Proofs.YtpmdekhjodhdmaaDoor.K17
open Go.RowKit Go.Proofs.YtpmdekhjodhdmaaDoor
open Go.Lib
set_option linter.unusedVariables false
set_option linter.unusedSimpArgs false
set_option maxRecDepth 8000
def EnR (w : World) (p : Nat) (R : Option (Nat × Nat)) (e : Ending) (w' : World) : Prop := Below w.heap.size w w' ∧ match R with
  | some (c, n) => e = .returned (.tuple #[.string ⟨(e8 c).toArray⟩, .int .i64 ((p + n : Nat) : Int), .bool true])
  | none => e = .returned (.tuple #[.string ⟨#[]⟩, .int .i64 0, .bool false])
abbrev wcs : Array Value := #[.string ⟨#[38, 108, 116, 59]⟩, .string ⟨#[38, 103, 116, 59]⟩, .string ⟨#[38, 97, 109, 112, 59]⟩, .string ⟨#[38, 113, 117, 111, 116, 59]⟩]
theorem wcs_at (w : World) (T : TypeId) (i : Nat) (hi : i < 4) : (w.alloc (.cells wcs T)).cell? ⟨w.heap.size, i, none⟩ = some (.string ⟨(wds.getD i []).toArray⟩) := by
  have := (Blk.new w wcs T).cell i
  rw [this]
  obtain rfl | rfl | rfl | rfl : i = 0 ∨ i = 1 ∨ i = 2 ∨ i = 3 := by omega
  all_goals rfl
theorem wds_len (i : Nat) (hi : i < 4) : 4 ≤ (wds.getD i []).length ∧ (wds.getD i []).length ≤ 6 := by
  obtain rfl | rfl | rfl | rfl : i = 0 ∨ i = 1 ∨ i = 2 ∨ i = 3 := by omega
  all_goals decide
theorem cds_at (i : Nat) (hi : i < 4) : (⟨#[60, 62, 38, 34]⟩ : ByteArray).extract i (i + 1) = ⟨(e8 (cds.getD i 0)).toArray⟩ := by
  obtain rfl | rfl | rfl | rfl : i = 0 ∨ i = 1 ∨ i = 2 ∨ i = 3 := by omega
  all_goals (rw [str_eq]; rfl)
theorem ext_eq (s : ByteArray) (p L : Nat) (W : List UInt8) (hW : W.length = L) (h : p + L ≤ s.size) : ((s.extract p (p + L)).toList == (⟨W.toArray⟩ : ByteArray).toList) = hp W (s.data.toList.drop p) := by
  rw [ByteArray.toList_eq, ByteArray.toList_eq, Lib.extract_data, mk_l, Nat.add_sub_cancel_left]
  cases hq : hp W (s.data.toList.drop p) with
  | true =>
    obtain ⟨z, hz⟩ := (hp_iff _ _).1 hq
    rw [hz, beq_iff_eq, ← hW, List.take_left' rfl]
  | false =>
    rw [beq_eq_false_iff_ne]
    intro h2
    have : hp W (s.data.toList.drop p) = true := (hp_iff _ _).2 ⟨(s.data.toList.drop p).drop L, by
      calc s.data.toList.drop p = (s.data.toList.drop p).take L ++ (s.data.toList.drop p).drop L := (List.take_append_drop _ _).symm
        _ = _ := by rw [h2]⟩
    rw [hq] at this; cases this
theorem hp_short {W q : List UInt8} (h : q.length < W.length) : hp W q = false := by
  cases hq : hp W q with
  | false => rfl
  | true =>
    obtain ⟨z, hz⟩ := (hp_iff _ _).1 hq
    have := congrArg List.length hz
    rw [List.length_append] at this
    omega
theorem lst1 (w : World) (z : Int) (T : TypeId) : Lst (w.alloc (.cells #[.int .i64 z] T)) (some ⟨w.heap.size, 0, none⟩) [z] := Or.inr ⟨_, 0, rfl, by simp, fun i hi => by
  obtain rfl : i = 0 := by simpa using hi
  exact (Blk.new w #[.int .i64 z] T).cell 0⟩
theorem below_dN {B : Nat} {w w' : World} (h : Below B w w') (n : Nat) : Below B w (w'.drewN n) := ⟨h.os, h.tape, h.output, h.size, h.block⟩
set_option maxRecDepth 100000 in
set_option maxHeartbeats 40000000 in
theorem rentity_any (s : ByteArray) (p : Nat) (w : World) (hs : s.size ≤ 65536) (hp' : p < s.size) (h38 : s[p] = 38) :
    Calls Tryd.prog 47 #[.string s, .int .i64 (p : Int)] w (EnR w p (ent (s.data.toList.drop p))) := by
  have hs' : (s.size : Int) ≤ 65536 := by omega
  have hpi : (p : Int) < (s.size : Int) := by omega
  have hl := size_l s
  obtain ⟨r, hr⟩ : ∃ r, s.data.toList.drop (p + 1) = r := ⟨_, rfl⟩
  have hq : s.data.toList.drop p = 38 :: r := by
    rw [← hr, List.drop_eq_getElem_cons (by rw [hl]; exact hp')]
    congr 1
  have hrl : r.length = s.size - (p + 1) := by rw [← hr, List.length_drop, hl]
  have hrg : ∀ j (h : p + 1 + j < s.size), r[j]? = some s[p + 1 + j] := fun j h => by rw [← hr, List.getElem?_drop]; exact get_b s (p + 1 + j) h
  obtain ⟨R, hR⟩ : ∃ R, ent (s.data.toList.drop p) = R := ⟨_, rfl⟩
  rw [hR]
  have HR := hide hR
  have HQ := hide hq
  have HRR := hide hr
  have HRR := hide hr
  have HRR := hide hr
  have HRR := hide hr
  have HRR := hide hr
  have HRR := hide hr
  have HRR := hide hr
  have HRR := hide hr
  have HRL := hide hrl
  have HRG := hide hrg
  have HS := hide hs
  have HP := hide hp'
  obtain ⟨T, hT⟩ : ∃ T : TypeId, T = 9 := ⟨_, rfl⟩
  have hV := fun i hi => wcs_at w 9 i hi
  have hB0 : Below w.heap.size w (w.alloc (.cells wcs 9)) := (Below.refl _ _).alloc (Nat.le_refl _) _
  obtain ⟨V, hVV⟩ : ∃ V, w.alloc (.cells wcs 9) = V := ⟨_, rfl⟩
  rw [hVV] at hV hB0
  have HV := hide hV
  have HB0 := hide hB0
  clear hR hq hrl hrg hr hs hp' h38 hl hV hB0 hT
  go_enter Tryd.func47, Tryd.ntmps47
  go_wp2_with fail
  go_loopw [8] (fun vi wr => ∃ i n : Nat, vi = .int .i64 i ∧ Hid (i ≤ 4 ∧ wr = V.drewN n ∧ ∀ j, j < i → hp (wds.getD j []) (s.data.toList.drop p) = false)) (fun vi _ => 4 - (RowKit.intOf vi).toNat)
  case atStart => exact ⟨0, 0, rfl, hide ⟨by omega, rfl, by omega⟩⟩
  case round =>
    obtain ⟨i, n, rfl, HK⟩ := hrel
    obtain ⟨i1, i2, i3⟩ := HK.out
    clear HK
    subst i2
    by_cases hlt : i < 4
    · have hlt' : (i : Int) < 4 := by omega
      have hc : V.cell? ⟨w.heap.size, i, none⟩ = some (.string ⟨(wds.getD i []).toArray⟩) := HV.out i hlt
      obtain ⟨w1, w2⟩ := wds_len i hlt
      have hewd := ent_wd (s.data.toList.drop p) i hlt
      have hcd := cds_at i hlt
      have I3 := hide i3
      obtain ⟨WL, hWL⟩ : ∃ WL, wds.getD i [] = WL := ⟨_, rfl⟩
      rw [hWL] at hc w1 w2 hewd
      obtain ⟨L, hL⟩ : ∃ L, WL.length = L := ⟨_, rfl⟩
      rw [hL] at w1 w2 hewd
      have hee := ext_eq s p L WL hL
      have hsh := hp_short (W := WL) (q := s.data.toList.drop p)
      obtain ⟨W, hW⟩ : ∃ W : ByteArray, (⟨WL.toArray⟩ : ByteArray) = W := ⟨_, rfl⟩
      rw [hW] at hc hee
      have hWz : (W.size : Int) = (L : Int) := by rw [← hW, size_m, hL]
      have hWn : W.size = L := by rw [← hW, size_m, hL]
      obtain ⟨Z, hZ⟩ : ∃ Z : ByteArray, (⟨#[60, 62, 38, 34]⟩ : ByteArray).extract i (i + 1) = Z := ⟨_, rfl⟩
      rw [hZ] at hcd
      have b1 : (i : Int) + 1 ≤ 4 := by omega
      have b2 : (0 : Int) ≤ (i : Int) := by omega
      have b3 : (0 : Int) ≤ (p : Int) := by omega
      have b4 : (L : Int) ≤ 6 := by omega
      have b5 : (p : Int) ≤ (p : Int) + (L : Int) := by omega
      have b6 : (i : Int) ≤ (i : Int) + 1 := by omega
      have w1' : (4 : Int) ≤ (L : Int) := by omega
      obtain ⟨m, hm⟩ : ∃ m, p + L = m := ⟨_, rfl⟩
      have hmi : (p : Int) + (L : Int) = (m : Int) := by omega
      have b7 : (p : Int) ≤ (m : Int) := by omega
      rw [hm] at hee
      by_cases hfit : m ≤ s.size
      · have hfit' : (m : Int) ≤ (s.size : Int) := by omega
        replace hee := hee (by omega)
        cases hq : hp WL (s.data.toList.drop p)
        · rw [hq] at hee
          have J3 := hide (show ∀ j, j < i + 1 → hp (wds.getD j []) (s.data.toList.drop p) = false by
            intro j hj
            by_cases hji : j < i
            · exact I3.out j hji
            · obtain rfl : j = i := by omega
              rw [hWL]; exact hq)
          clear i3 hewd hsh hW hZ hcd hq hWL hL hm
          go_wp2_with fail
          go_quiet (fail)
          go_wp2_with fail
          go_roundw
          case rel => exact ⟨i + 1, _, by go_num, hide ⟨by omega, rfl, J3.out⟩⟩
          case measure => simp [RowKit.intOf]; omega
        · rw [hq] at hee
          have hr := hewd hq
          rw [HR.out] at hr
          subst hr
          have HC := hide hcd
          have HM := hide hm
          clear i3 hewd hsh hW hcd hq hWL hL hm
          go_wp2_with fail
          go_quiet (fail)
          go_wp2_with fail
          go_quiet (fail)
          go_wp2_with fail
          go_ret3
          exact ⟨by first | exact below_dN HB0.out _ | exact below_dN (below_dN HB0.out _) _ | exact below_dN (below_dN (below_dN HB0.out _) _) _, by show _ = Ending.returned (.tuple #[.string ⟨(e8 (cds.getD i 0)).toArray⟩, .int .i64 ((p + L : Nat) : Int), .bool true]); rw [← HC.out, HM.out]; rfl⟩
      · have hfit' : ¬ (m : Int) ≤ (s.size : Int) := by omega
        have hq : hp WL (s.data.toList.drop p) = false := hsh (by rw [List.length_drop, size_l, hL]; omega)
        have J3 := hide (show ∀ j, j < i + 1 → hp (wds.getD j []) (s.data.toList.drop p) = false by
          intro j hj
          by_cases hji : j < i
          · exact I3.out j hji
          · obtain rfl : j = i := by omega
            rw [hWL]; exact hq)
        clear i3 hewd hsh hW hZ hcd hq hWL hL hm hee
        go_wp2_with fail
        go_quiet (fail)
        go_wp2_with fail
        go_roundw
        case rel => exact ⟨i + 1, _, by go_num, hide ⟨by omega, rfl, J3.out⟩⟩
        case measure => simp [RowKit.intOf]; omega
    · have hlt' : ¬ (i : Int) < 4 := by omega
      obtain rfl : i = 4 := by omega
      rw [HQ.out] at i3
      have I3 := hide i3
      clear i3
      by_cases h2 : p + 2 < s.size
      · have hp1 : p + 1 < s.size := by omega
        have hge : r = s[p + 1] :: s.data.toList.drop (p + 2) := by
          rw [← HRR.out, List.drop_eq_getElem_cons (by rw [size_l]; exact hp1)]
          congr 1
        obtain ⟨p1, hpe⟩ : ∃ p1, p + 1 = p1 := ⟨_, rfl⟩
        have hpi1 : (p : Int) + 1 = (p1 : Int) := by omega
        have hp1l : p1 < s.size := by omega
        have hp1l' : (p1 : Int) < (s.size : Int) := by omega
        obtain ⟨P2, hp2⟩ : ∃ P2, p + 2 = P2 := ⟨_, rfl⟩
        have hpi2 : (p : Int) + 2 = (P2 : Int) := by omega
        have hp2l : P2 < s.size := by omega
        have hp2l' : (P2 : Int) < (s.size : Int) := by omega
        have hp2d : decide ((s.size : Int) ≤ (P2 : Int)) = false := decide_eq_false (by omega)
        have hp2e : ¬ (s.size : Int) ≤ (P2 : Int) := by omega
        by_cases h35 : s[p1] = 35
        · have h35' : ((s[p1].toNat : Int) == 35) = true := by rw [h35]; rfl
          have hr35 : r = 35 :: s.data.toList.drop (p + 2) := by
            rw [hge]
            congr 1
            subst hpe
            exact h35
          have hi4 := I3.out
          rw [hr35] at hi4
          have I4 := hide hi4
          have HEN := ent_num (s.data.toList.drop (p + 2)) I4.out
          rw [show 38 :: 35 :: s.data.toList.drop (p + 2) = s.data.toList.drop p by rw [HQ.out, hr35], HR.out] at HEN
          have HEN := hide (show ent (s.data.toList.drop p) = _ from HR.out.trans HEN)
          have HDG := hide (show ∀ m (h : p + 2 + m < s.size), (s.data.toList.drop (p + 2))[m]? = some s[p + 2 + m] from fun m h => by rw [List.getElem?_drop]; exact get_b s (p + 2 + m) h)
          have HD := hide (show ∀ m (h : ¬ p + 2 + m < s.size), (s.data.toList.drop (p + 2))[m]? = none from fun m h => List.getElem?_eq_none (by rw [List.length_drop, size_l]; omega))
          have HD0 := hide (show (s.data.toList.drop (p + 2)).getD 0 0 = s[P2] by rw [List.getD_eq_getElem?_getD, HDG.out 0 (by omega)]; subst hp2; rfl)
          have HDL := hide (show (s.data.toList.drop (p + 2)).length = s.size - (p + 2) by rw [List.length_drop, size_l])
          have HP2 := hide hp2
          clear hge hr35 hi4 h35 hpe hp1
          go_wp2_with fail
          clear hp2d hp2e
          go_loopw [9, 10] (fun vn vk wr => ∃ m : Nat, vn = .int .i64 ((dv ((s.data.toList.drop (p + 2)).take m) : Nat) : Int) ∧ vk = .int .i64 ((P2 + m : Nat) : Int) ∧ Hid (m ≤ 7 ∧ p + 2 + m ≤ s.size ∧ ((s.data.toList.drop (p + 2)).take m).all dgB = true ∧ wr = V.drewN n)) (fun _ vk _ => s.size - (RowKit.intOf vk).toNat)
          case atStart => exact ⟨0, by simp [dv], rfl, hide ⟨by omega, by omega, by simp, rfl⟩⟩
          case round =>
            obtain ⟨m, rfl, rfl, HK⟩ := hrel
            obtain ⟨k1, k2, k3, k4⟩ := HK.out
            clear HK
            subst k4
            have hdvb := dv_bd ((s.data.toList.drop (p + 2)).take m) k3 (by have := List.length_take_le m (s.data.toList.drop (p + 2)); omega)
            obtain ⟨M, hM⟩ : ∃ M, P2 + m = M := ⟨_, rfl⟩
            obtain ⟨A, hA⟩ : ∃ A, dv ((s.data.toList.drop (p + 2)).take m) = A := ⟨_, rfl⟩
            rw [hM, hA]
            rw [hA] at hdvb
            have hAb : (A : Int) ≤ 9999999 := by omega
            have hMs : (M : Int) ≤ (s.size : Int) := by omega
            have HMM := hide hM
            have CI := hide (fun w => is_any (A : Int) w)
            have CC := hide (fun w => rclass_any (A : Int) w)
            obtain ⟨P9, h9⟩ : ∃ P9, p + 9 = P9 := ⟨_, rfl⟩
            have hpi9 : (p : Int) + 9 = (P9 : Int) := by omega
            by_cases e1 : M < s.size
            · have e1' : (M : Int) < (s.size : Int) := by omega
              have HSM := hide (show (s.data.toList.drop (p + 2))[m]? = some s[M] by rw [HDG.out m (by omega)]; subst hM; subst hp2; rfl)
              by_cases e2 : m < 7
              · have e2' : (M : Int) < (P9 : Int) := by omega
                by_cases e3 : s[M].toNat < 48
                · have e3' : ¬ (48 : Int) ≤ (s[M].toNat : Int) := by omega
                  have hdg := dgs_end (q := s.data.toList.drop (p + 2)) (n := m) (by rw [HDL.out]; omega) k1 k3 (fun b hb => by
                    rw [HSM.out] at hb; injection hb with hb; rw [← hb]; simp [dgB]; omega)
                  clear hM hp2 h9
                  by_cases c0 : m = 0
                  · have f0 : ((M : Int) == (P2 : Int)) = true := by rw [beq_iff_eq]; have := HMM.out; omega
                    have hr := HEN.out
                    rw [hdg, if_pos (Or.inl c0), HR.out] at hr
                    subst hr
                    clear c0 k3 hdg hA
                    try clear h59
                    try clear HSM
                    clear HEN HD0 HDG HD HDL HRG HQ HRL I4 I3 HRR
                    go_wp2_with fail
                    go_ret3
                    exact ⟨below_dN HB0.out _, rfl⟩
                  have f0 : ((M : Int) == (P2 : Int)) = false := by rw [beq_eq_false_iff_ne]; have := HMM.out; omega
                  by_cases c1 : s[P2].toNat = 48
                  · have f1 : ((s[P2].toNat : Int) == 48) = true := by rw [beq_iff_eq]; omega
                    have hr := HEN.out
                    rw [hdg, if_pos (Or.inr (Or.inl (by rw [HD0.out]; exact UInt8.toNat_inj.1 c1))), HR.out] at hr
                    subst hr
                    clear c1 k3 hdg hA
                    try clear h59
                    try clear HSM
                    clear HEN HD0 HDG HD HDL HRG HQ HRL I4 I3 HRR
                    go_wp2_with fail
                    go_ret3
                    exact ⟨below_dN HB0.out _, rfl⟩
                  have f1 : ((s[P2].toNat : Int) == 48) = false := by rw [beq_eq_false_iff_ne]; omega
                  have hr := HEN.out
                  rw [hdg, if_pos (Or.inr (Or.inr (Or.inl (by rw [HSM.out]; intro h; injection h with h; rw [h] at e3; exact absurd e3 (by decide))))), HR.out] at hr
                  subst hr
                  clear k3 hdg hA
                  try clear h59
                  try clear HSM
                  clear HEN HD0 HDG HD HDL HRG HQ HRL I4 I3 HRR
                  have f2 : ((s[M].toNat : Int) == 59) = false := by rw [beq_eq_false_iff_ne]; omega
                  go_wp2_with fail
                  go_ret3
                  exact ⟨below_dN HB0.out _, rfl⟩
                · have e3' : (48 : Int) ≤ (s[M].toNat : Int) := by omega
                  by_cases e4 : s[M].toNat ≤ 57
                  · have e4' : (s[M].toNat : Int) ≤ 57 := by omega
                    have htk : (s.data.toList.drop (p + 2)).take (m + 1) = (s.data.toList.drop (p + 2)).take m ++ [s[M]] := by
                      rw [List.take_add_one, HSM.out]; rfl
                    have K3 := hide (show ((s.data.toList.drop (p + 2)).take (m + 1)).all dgB = true by rw [htk, List.all_append, k3]; simp [dgB]; omega)
                    have KV := hide (show dv ((s.data.toList.drop (p + 2)).take (m + 1)) = 10 * A + (s[M].toNat - 48) by rw [htk, dv_snoc, hA])
                    have d3 : IntKind.u8.wrap ((s[M].toNat : Int) - 48) = (s[M].toNat : Int) - 48 := by rw [IntKind.wrap_u8]; omega
                    have HP22 := hide hp2
                    clear k3 htk hA hM hp2 h9 HSM
                    go_wp2_with fail
                    go_roundw
                    case rel => exact ⟨m + 1, by rw [KV.out]; congr 1; omega, by have := HMM.out; congr 1; omega, hide ⟨by omega, by have := HMM.out; have := HP22.out; omega, K3.out, by first | rfl | trivial⟩⟩
                    case measure => simp [RowKit.intOf]; omega
                  · have e4' : ¬ (s[M].toNat : Int) ≤ 57 := by omega
                    have hdg := dgs_end (q := s.data.toList.drop (p + 2)) (n := m) (by rw [HDL.out]; omega) k1 k3 (fun b hb => by
                      rw [HSM.out] at hb; injection hb with hb; rw [← hb]; simp [dgB]; omega)
                    clear hM hp2 h9
                    by_cases c0 : m = 0
                    · have f0 : ((M : Int) == (P2 : Int)) = true := by rw [beq_iff_eq]; have := HMM.out; omega
                      have hr := HEN.out
                      rw [hdg, if_pos (Or.inl c0), HR.out] at hr
                      subst hr
                      clear c0 k3 hdg hA
                      try clear h59
                      try clear HSM
                      clear HEN HD0 HDG HD HDL HRG HQ HRL I4 I3 HRR
                      go_wp2_with fail
                      go_ret3
                      exact ⟨below_dN HB0.out _, rfl⟩
                    have f0 : ((M : Int) == (P2 : Int)) = false := by rw [beq_eq_false_iff_ne]; have := HMM.out; omega
                    by_cases c1 : s[P2].toNat = 48
                    · have f1 : ((s[P2].toNat : Int) == 48) = true := by rw [beq_iff_eq]; omega
                      have hr := HEN.out
                      rw [hdg, if_pos (Or.inr (Or.inl (by rw [HD0.out]; exact UInt8.toNat_inj.1 c1))), HR.out] at hr
                      subst hr
                      clear c1 k3 hdg hA
                      try clear h59
                      try clear HSM
                      clear HEN HD0 HDG HD HDL HRG HQ HRL I4 I3 HRR
                      go_wp2_with fail
                      go_ret3
                      exact ⟨below_dN HB0.out _, rfl⟩
                    have f1 : ((s[P2].toNat : Int) == 48) = false := by rw [beq_eq_false_iff_ne]; omega
                    by_cases c2 : s[M].toNat = 59
                    · have f2 : ((s[M].toNat : Int) == 59) = true := by rw [beq_iff_eq]; omega
                      have h59 : (s.data.toList.drop (p + 2))[m]? = some 59 := by rw [HSM.out]; exact congrArg some (UInt8.toNat_inj.1 c2)
                      cases hp4 : isP (A : Int)
                      · rw [hp4] at CI
                        have hr := HEN.out
                        rw [hdg, if_pos (Or.inr (Or.inr (Or.inr (Or.inl (by rw [hA]; exact hp4))))), HR.out] at hr
                        subst hr
                        clear k3 hdg hA
                        try clear h59
                        try clear HSM
                        clear HEN HD0 HDG HD HDL HRG HQ HRL I4 I3 HRR
                        go_wp2_with (first | (go_at_call 37; refine (CI.out _).mono ?_; rintro e w1 ⟨rfl, rfl⟩))
                        go_ret3
                        exact ⟨below_dN HB0.out _, rfl⟩
                      · rw [hp4] at CI
                        have h4 := ctl_cls A (by have := isP_t.1 hp4; omega)
                        cases hct : ctl A
                        · rw [hct] at h4
                          have hr := HEN.out
                          rw [hdg, if_neg (by
                            rintro (h | h | h | h | h)
                            · exact c0 h
                            · rw [HD0.out] at h; exact c1 (by rw [h]; rfl)
                            · exact h h59
                            · rw [hA, hp4] at h; cases h
                            · rw [hA, hct] at h; cases h), HR.out] at hr
                          rw [hA] at hr
                          subst hr
                          have HS8 := hide (show wrS e8 [] [(A : Int)] = e8 A by unfold wrS encs; simp [hp4])
                          have HE8 := hide (show wrE [(A : Int)] = 0 by unfold wrE; simp [hp4])
                          obtain ⟨C, hC⟩ : ∃ C, clsV (A : Int) = C := ⟨_, rfl⟩
                          rw [hC] at CC h4
                          clear k3 hdg hA hp4 hct hC h59 HSM HEN HD0 HDG HD HDL HRG HQ HRL I4 I3 HRR
                          go_wp2_with (first | (go_at_call 37; refine (CI.out _).mono ?_; rintro e w1 ⟨rfl, rfl⟩) | (go_at_call 34; refine (CC.out _).mono ?_; rintro e w1 ⟨rfl, rfl⟩) | (go_at_call 35; refine (rencode_core (some ⟨V.heap.size, 0, none⟩) 1 1 [(A : Int)] _ rfl (by decide) (by first | exact lst1 _ _ _ | exact lst1 (V.drewN n) _ _) (e8 A) 0 HS8.out HE8.out).mono ?_; rintro e w2 ⟨rfl, hb2⟩))
                          go_ret3
                          exact ⟨(below_dN HB0.out _).trans ((((Below.refl _ _).alloc (Nat.le_refl _) _).trans (hb2.mono (by simp))).mono HB0.out.size), by show _ = Ending.returned (.tuple #[.string ⟨(e8 A).toArray⟩, .int .i64 ((p + (m + 3) : Nat) : Int), .bool true]); rw [show p + (m + 3) = M + 1 by have := HMM.out; have := HP2.out; omega]; rfl⟩
                        · rw [hct] at h4
                          have h5 : clsV (A : Int) = 4 := by simpa using h4
                          rw [h5] at CC
                          have hr := HEN.out
                          rw [hdg, if_pos (Or.inr (Or.inr (Or.inr (Or.inr (by rw [hA]; exact hct))))), HR.out] at hr
                          subst hr
                          clear k3 hdg hA
                          try clear h59
                          try clear HSM
                          clear HEN HD0 HDG HD HDL HRG HQ HRL I4 I3 HRR
                          go_wp2_with (first | (go_at_call 37; refine (CI.out _).mono ?_; rintro e w1 ⟨rfl, rfl⟩) | (go_at_call 34; refine (CC.out _).mono ?_; rintro e w1 ⟨rfl, rfl⟩))
                          go_ret3
                          exact ⟨below_dN HB0.out _, rfl⟩
                    · have f2 : ((s[M].toNat : Int) == 59) = false := by rw [beq_eq_false_iff_ne]; omega
                      have hr := HEN.out
                      rw [hdg, if_pos (Or.inr (Or.inr (Or.inl (by rw [HSM.out]; intro h; injection h with h; apply c2; rw [h]; rfl)))), HR.out] at hr
                      subst hr
                      clear k3 hdg hA
                      try clear h59
                      try clear HSM
                      clear HEN HD0 HDG HD HDL HRG HQ HRL I4 I3 HRR
                      go_wp2_with fail
                      go_ret3
                      exact ⟨below_dN HB0.out _, rfl⟩
              · have e2' : ¬ (M : Int) < (P9 : Int) := by omega
                obtain rfl : m = 7 := by omega
                have hdg := dgs_7 (q := s.data.toList.drop (p + 2)) (by rw [HDL.out]; omega) k3
                clear hM hp2 h9
                have f0 : ((M : Int) == (P2 : Int)) = false := by rw [beq_eq_false_iff_ne]; have := HMM.out; omega
                have c0 : ¬ (7 : Nat) = 0 := by omega
                by_cases c1 : s[P2].toNat = 48
                · have f1 : ((s[P2].toNat : Int) == 48) = true := by rw [beq_iff_eq]; omega
                  have hr := HEN.out
                  rw [hdg, if_pos (Or.inr (Or.inl (by rw [HD0.out]; exact UInt8.toNat_inj.1 c1))), HR.out] at hr
                  subst hr
                  clear c1 k3 hdg hA
                  try clear h59
                  try clear HSM
                  clear HEN HD0 HDG HD HDL HRG HQ HRL I4 I3 HRR
                  go_wp2_with fail
                  go_ret3
                  exact ⟨below_dN HB0.out _, rfl⟩
                have f1 : ((s[P2].toNat : Int) == 48) = false := by rw [beq_eq_false_iff_ne]; omega
                by_cases c2 : s[M].toNat = 59
                · have f2 : ((s[M].toNat : Int) == 59) = true := by rw [beq_iff_eq]; omega
                  have h59 : (s.data.toList.drop (p + 2))[7]? = some 59 := by rw [HSM.out]; exact congrArg some (UInt8.toNat_inj.1 c2)
                  cases hp4 : isP (A : Int)
                  · rw [hp4] at CI
                    have hr := HEN.out
                    rw [hdg, if_pos (Or.inr (Or.inr (Or.inr (Or.inl (by rw [hA]; exact hp4))))), HR.out] at hr
                    subst hr
                    clear k3 hdg hA
                    try clear h59
                    try clear HSM
                    clear HEN HD0 HDG HD HDL HRG HQ HRL I4 I3 HRR
                    go_wp2_with (first | (go_at_call 37; refine (CI.out _).mono ?_; rintro e w1 ⟨rfl, rfl⟩))
                    go_ret3
                    exact ⟨below_dN HB0.out _, rfl⟩
                  · rw [hp4] at CI
                    have h4 := ctl_cls A (by have := isP_t.1 hp4; omega)
                    cases hct : ctl A
                    · rw [hct] at h4
                      have hr := HEN.out
                      rw [hdg, if_neg (by
                        rintro (h | h | h | h | h)
                        · exact c0 h
                        · rw [HD0.out] at h; exact c1 (by rw [h]; rfl)
                        · exact h h59
                        · rw [hA, hp4] at h; cases h
                        · rw [hA, hct] at h; cases h), HR.out] at hr
                      rw [hA] at hr
                      subst hr
                      have HS8 := hide (show wrS e8 [] [(A : Int)] = e8 A by unfold wrS encs; simp [hp4])
                      have HE8 := hide (show wrE [(A : Int)] = 0 by unfold wrE; simp [hp4])
                      obtain ⟨C, hC⟩ : ∃ C, clsV (A : Int) = C := ⟨_, rfl⟩
                      rw [hC] at CC h4
                      clear k3 hdg hA hp4 hct hC h59 HSM HEN HD0 HDG HD HDL HRG HQ HRL I4 I3 HRR
                      go_wp2_with (first | (go_at_call 37; refine (CI.out _).mono ?_; rintro e w1 ⟨rfl, rfl⟩) | (go_at_call 34; refine (CC.out _).mono ?_; rintro e w1 ⟨rfl, rfl⟩) | (go_at_call 35; refine (rencode_core (some ⟨V.heap.size, 0, none⟩) 1 1 [(A : Int)] _ rfl (by decide) (by first | exact lst1 _ _ _ | exact lst1 (V.drewN n) _ _) (e8 A) 0 HS8.out HE8.out).mono ?_; rintro e w2 ⟨rfl, hb2⟩))
                      go_ret3
                      exact ⟨(below_dN HB0.out _).trans ((((Below.refl _ _).alloc (Nat.le_refl _) _).trans (hb2.mono (by simp))).mono HB0.out.size), by show _ = Ending.returned (.tuple #[.string ⟨(e8 A).toArray⟩, .int .i64 ((p + (7 + 3) : Nat) : Int), .bool true]); rw [show p + (7 + 3) = M + 1 by have := HMM.out; have := HP2.out; omega]; rfl⟩
                    · rw [hct] at h4
                      have h5 : clsV (A : Int) = 4 := by simpa using h4
                      rw [h5] at CC
                      have hr := HEN.out
                      rw [hdg, if_pos (Or.inr (Or.inr (Or.inr (Or.inr (by rw [hA]; exact hct))))), HR.out] at hr
                      subst hr
                      clear k3 hdg hA
                      try clear h59
                      try clear HSM
                      clear HEN HD0 HDG HD HDL HRG HQ HRL I4 I3 HRR
                      go_wp2_with (first | (go_at_call 37; refine (CI.out _).mono ?_; rintro e w1 ⟨rfl, rfl⟩) | (go_at_call 34; refine (CC.out _).mono ?_; rintro e w1 ⟨rfl, rfl⟩))
                      go_ret3
                      exact ⟨below_dN HB0.out _, rfl⟩
                · have f2 : ((s[M].toNat : Int) == 59) = false := by rw [beq_eq_false_iff_ne]; omega
                  have hr := HEN.out
                  rw [hdg, if_pos (Or.inr (Or.inr (Or.inl (by rw [HSM.out]; intro h; injection h with h; apply c2; rw [h]; rfl)))), HR.out] at hr
                  subst hr
                  clear k3 hdg hA
                  try clear h59
                  try clear HSM
                  clear HEN HD0 HDG HD HDL HRG HQ HRL I4 I3 HRR
                  go_wp2_with fail
                  go_ret3
                  exact ⟨below_dN HB0.out _, rfl⟩
            · have e1' : ¬ (M : Int) < (s.size : Int) := by omega
              have hdg := dgs_end (q := s.data.toList.drop (p + 2)) (n := m) (by rw [HDL.out]; omega) k1 k3 (fun b hb => by
                rw [HD.out m (by omega)] at hb; cases hb)
              have HM9 := hide hM
              clear h9
              by_cases c0 : m = 0
              · have f0 : ((M : Int) == (P2 : Int)) = true := by rw [beq_iff_eq]; have := HMM.out; omega
                have hr := HEN.out
                rw [hdg, if_pos (Or.inl c0), HR.out] at hr
                subst hr
                clear c0 k3 hdg hA
                try clear h59
                try clear HSM
                clear HEN HD0 HDG HD HDL HRG HQ HRL I4 I3 HRR
                go_wp2_with fail
                go_ret3
                exact ⟨below_dN HB0.out _, rfl⟩
              have f0 : ((M : Int) == (P2 : Int)) = false := by rw [beq_eq_false_iff_ne]; have := HMM.out; omega
              by_cases c1 : s[P2].toNat = 48
              · have f1 : ((s[P2].toNat : Int) == 48) = true := by rw [beq_iff_eq]; omega
                have hr := HEN.out
                rw [hdg, if_pos (Or.inr (Or.inl (by rw [HD0.out]; exact UInt8.toNat_inj.1 c1))), HR.out] at hr
                subst hr
                clear c1 k3 hdg hA
                try clear h59
                try clear HSM
                clear HEN HD0 HDG HD HDL HRG HQ HRL I4 I3 HRR
                go_wp2_with fail
                go_ret3
                exact ⟨below_dN HB0.out _, rfl⟩
              have f1 : ((s[P2].toNat : Int) == 48) = false := by rw [beq_eq_false_iff_ne]; omega
              have hr := HEN.out
              rw [hdg, if_pos (Or.inr (Or.inr (Or.inl (by rw [HD.out m (by omega)]; simp)))), HR.out] at hr
              subst hr
              clear k3 hdg hA
              try clear h59
              try clear HSM
              clear HEN HD0 HDG HD HDL HRG HQ HRL I4 I3 HRR
              go_wp2_with fail
              go_ret3
              exact ⟨below_dN HB0.out _, rfl⟩
        · have h35' : ((s[p1].toNat : Int) == 35) = false := by
            rw [beq_eq_false_iff_ne]; intro h; apply h35; apply UInt8.toNat_inj.1; show s[p1].toNat = 35; omega
          have hr := ent_else r I3.out (Or.inl (by rw [hge]; subst hpe; exact h35))
          rw [← HQ.out, HR.out] at hr
          subst hr
          clear hge hpe hp2 h35
          go_wp2_with fail
          go_ret3
          exact ⟨below_dN HB0.out _, rfl⟩
      · have h2' : (s.size : Int) ≤ (p : Int) + 2 := by omega
        have h2d : decide ((s.size : Int) ≤ (p : Int) + 2) = true := decide_eq_true h2'
        have hr := ent_else r I3.out (Or.inr (by rw [HRL.out]; omega))
        rw [← HQ.out, HR.out] at hr
        subst hr
        go_wp2_with fail
        go_ret3
        exact ⟨below_dN HB0.out _, rfl⟩
end Go.Proofs.YtpmdekhjodhdmaaDoor.K17
namespace Go.Proofs.YtpmdekhjodhdmaaDoor.K17
open Go.RowKit Go.Proofs.YtpmdekhjodhdmaaDoor
open Go.Lib
set_option linter.unusedVariables false
set_option linter.unusedSimpArgs false
set_option maxRecDepth 100000
def rvF : Nat → List UInt8 → List UInt8 → Option (List UInt8 × List UInt8)
  | 0, _, _ => none
  | f + 1, l, acc => match l with
    | [] => none
    | b :: r => if b = 34 then some (acc, r) else if b = 60 then none else if b = 38 then (match ent (b :: r) with
      | none => none
      | some (c, n) => rvF f ((b :: r).drop n) (acc ++ e8 c)) else rvF f r (acc ++ [b])
def rv (l : List UInt8) : Option (List UInt8 × List UInt8) := rvF (l.length + 1) l []
def RV (l acc : List UInt8) (R : Option (List UInt8 × List UInt8)) : Prop := ∃ f, l.length < f ∧ rvF f l acc = R
theorem RV.start (l : List UInt8) : RV l [] (rv l) := ⟨_, Nat.lt_succ_self _, rfl⟩
theorem RV.nil {acc : List UInt8} {R : Option (List UInt8 × List UInt8)} (h : RV [] acc R) : R = none := by
  obtain ⟨f, _, h⟩ := h
  cases f <;> exact h.symm
theorem RV.unf {b : UInt8} {r acc : List UInt8} {R : Option (List UInt8 × List UInt8)} (h : RV (b :: r) acc R) : ∃ f, (b :: r).length ≤ f ∧ rvF (f + 1) (b :: r) acc = R := by
  obtain ⟨f, h1, h2⟩ := h
  obtain ⟨g, rfl⟩ : ∃ g, f = g + 1 := ⟨f - 1, by omega⟩
  exact ⟨g, by omega, h2⟩
theorem RV.q {r acc : List UInt8} {R : Option (List UInt8 × List UInt8)} (h : RV (34 :: r) acc R) : R = some (acc, r) := by
  obtain ⟨f, _, h⟩ := h.unf; exact h.symm
theorem RV.lt {r acc : List UInt8} {R : Option (List UInt8 × List UInt8)} (h : RV (60 :: r) acc R) : R = none := by
  obtain ⟨f, _, h⟩ := h.unf; exact h.symm
theorem RV.no {r acc : List UInt8} {R : Option (List UInt8 × List UInt8)} (h : RV (38 :: r) acc R) (he : ent (38 :: r) = none) : R = none := by
  obtain ⟨f, _, h⟩ := h.unf
  unfold rvF at h
  simp only at h
  rw [if_neg (by decide), if_neg (by decide), if_pos trivial, he] at h
  exact h.symm
theorem RV.en {r acc : List UInt8} {c n : Nat} {R : Option (List UInt8 × List UInt8)} (h : RV (38 :: r) acc R) (he : ent (38 :: r) = some (c, n)) : RV ((38 :: r).drop n) (acc ++ e8 c) R := by
  obtain ⟨f, hf, h⟩ := h.unf
  unfold rvF at h
  simp only at h
  rw [if_neg (by decide), if_neg (by decide), if_pos trivial, he] at h
  have := ent_bd he
  exact ⟨f, by rw [List.length_drop]; omega, h⟩
theorem RV.on {b : UInt8} {r acc : List UInt8} {R : Option (List UInt8 × List UInt8)} (h : RV (b :: r) acc R) (h1 : b ≠ 34) (h2 : b ≠ 60) (h3 : b ≠ 38) : RV r (acc ++ [b]) R := by
  obtain ⟨f, hf, h⟩ := h.unf
  unfold rvF at h
  simp only at h
  rw [if_neg h1, if_neg h2, if_neg h3] at h
  exact ⟨f, by rw [List.length_cons] at hf; omega, h⟩
def VaR (w : World) (n : Nat) (R : Option (List UInt8 × List UInt8)) (e : Ending) (w' : World) : Prop := Below w.heap.size w w' ∧ match R with
  | some (t, r) => e = .returned (.tuple #[.string ⟨t.toArray⟩, .int .i64 ((n - r.length : Nat) : Int), .bool true])
  | none => e = .returned (.tuple #[.string ⟨#[]⟩, .int .i64 0, .bool false])
theorem app_b {W : World} {B : Nat} {v : Value} {ys : List UInt8} (x : UInt8) (h : BRow W B v ys) (hB : B ≤ W.heap.size) (hl : ys.length ≤ 1000000) :
    ∃ v' w2, (Builtin.append_ #[56, 56] 56 #[v, .slice (some ⟨W.heap.size, 0, none⟩) 1 1]).run Tryd.prog (W.alloc (.cells #[.int .u8 (x.toNat : Int)] 5)) = .ok v' w2 ∧ BRow w2 B v' (ys ++ [x]) ∧ Below B W w2 ∧ ∃ a n c, v' = .slice a n c := by
  obtain ⟨i0, hi, hz0, hz1, hz2⟩ := info_parts info_u8
  obtain ⟨gg, cap, w2, hr, ho, hg, hat, _⟩ := run_append_lies (P := Tryd.prog) (W.alloc (.cells #[.int .u8 (x.toNat : Int)] 5)) 56 56 B 5 i0 _ 1 1 Tryd.underlying56 hi hz0 hz1 hz2 rfl (by decide) v ys.length (ys.map bcell) (World.ownsRow.alloc h _) ⟨W.heap.size, 0, none⟩ 1 1 [.int .u8 (x.toNat : Int)] (by simp)
    (fun j u hu => by rw [Go.WideShapes.add_plain, Nat.zero_add, World.cell?_alloc_at _ _ _ _ rfl]; simpa using hu) (by intro u hu; simp at hu; subst hu; rfl) (by decide) (by unfold maxLen; omega) (by omega) (by simp; omega) (W.heap.size + 1) (by simp)
  refine ⟨_, w2, hr, ?_, ((Below.refl B W).alloc hB _).grown hg (by simp; omega) fun k hk' => (World.ownsRow.lt h k hk').1, _, _, _, rfl⟩
  unfold BRow
  rw [List.map_append, List.length_append]
  exact ho
set_option maxHeartbeats 8000000 in
theorem rvalue_any (s : ByteArray) (p : Nat) (w : World) (hs : s.size ≤ 65536) (hp' : p ≤ s.size) :
    Calls Tryd.prog 64 #[.string s, .int .i64 (p : Int)] w (VaR w s.size (rv (s.data.toList.drop p))) := by
  have hs' : (s.size : Int) ≤ 65536 := by omega
  have hpi : (p : Int) ≤ (s.size : Int) := by omega
  have HL := hide (size_l s)
  have HDR := hide (show ∀ n (h : n < s.size), s.data.toList.drop n = s[n] :: s.data.toList.drop (n + 1) from fun n h => by
    rw [List.drop_eq_getElem_cons (by rw [size_l]; exact h)]; congr 1)
  obtain ⟨R, hR⟩ : ∃ R, rv (s.data.toList.drop p) = R := ⟨_, rfl⟩
  rw [hR]
  have HRV := hide (show RV (s.data.toList.drop p) [] R by rw [← hR]; exact RV.start _)
  have HS := hide hs
  have CE := hide (fun n w h1 h2 => rentity_any s n w hs h1 h2)
  obtain ⟨i0, hi, hz0, hz1, hz2⟩ := info_parts info_u8
  have HI := hide hi
  have HI0 := hide hz0
  have HI1 := hide hz1
  have HI2 := hide hz2
  clear hi hz0 hz1 hz2 hR hs
  go_enter Tryd.func64, Tryd.ntmps64
  go_wp2_with fail
  go_loopw [1, 7] (fun va vb wr => ∃ (n : Nat) (acc : List UInt8), va = .int .i64 n ∧ Hid (n ≤ s.size ∧ acc.length ≤ 4 * n ∧ BRow wr w.heap.size vb acc ∧ Below w.heap.size w wr ∧ RV (s.data.toList.drop n) acc R)) (fun va _ _ => s.size - (RowKit.intOf va).toNat)
  case atStart => exact ⟨p, [], rfl, hide ⟨by omega, by simp, BRow.nil _ _, Below.refl _ _, HRV.out⟩⟩
  case round =>
    obtain ⟨n, acc, rfl, HK⟩ := hrel
    obtain ⟨k1, k2, k3, k4, k5⟩ := HK.out
    clear HK HRV
    by_cases hlt : n < s.size
    · have hlt' : (n : Int) < (s.size : Int) := by omega
      rw [HDR.out n hlt] at k5
      have K3 := hide k3
      have K4 := hide k4
      have hn0 : (0 : Int) ≤ (n : Int) := by omega
      by_cases c1 : s[n].toNat = 34
      · have f1 : ((s[n].toNat : Int) == 34) = true := by rw [beq_iff_eq]; omega
        have hb : s[n] = 34 := UInt8.toNat_inj.1 c1
        rw [hb] at k5
        have hr := k5.q
        subst hr
        have hcv := k3.text
        have hne : ((n : Int) == (s.size : Int)) = false := by rw [beq_eq_false_iff_ne]; omega
        have HX := hide (show s.size - (s.data.toList.drop (n + 1)).length = n + 1 by rw [List.length_drop, HL.out]; omega)
        clear k3 k4 k5 c1 hb
        go_wp2_with fail
        go_ret3
        exact ⟨K4.out, by show _ = Ending.returned (.tuple #[.string ⟨acc.toArray⟩, .int .i64 ((s.size - (s.data.toList.drop (n + 1)).length : Nat) : Int), .bool true]); rw [HX.out]; rfl⟩
      · have f1 : ((s[n].toNat : Int) == 34) = false := by rw [beq_eq_false_iff_ne]; omega
        by_cases c2 : s[n].toNat = 60
        · have f2 : ((s[n].toNat : Int) == 60) = true := by rw [beq_iff_eq]; omega
          have hb : s[n] = 60 := UInt8.toNat_inj.1 c2
          rw [hb] at k5
          have hr := k5.lt
          subst hr
          clear k3 k4 k5 c1 c2 hb
          go_wp2_with fail
          go_ret3
          exact ⟨K4.out, rfl⟩
        · have f2 : ((s[n].toNat : Int) == 60) = false := by rw [beq_eq_false_iff_ne]; omega
          by_cases c3 : s[n].toNat = 38
          · have f3 : ((s[n].toNat : Int) == 38) = true := by rw [beq_iff_eq]; omega
            have hb : s[n] = 38 := UInt8.toNat_inj.1 c3
            have C := CE.out n wr hlt hb
            rw [hb] at k5
            rw [HDR.out n hlt, hb] at C
            cases he : ent (38 :: s.data.toList.drop (n + 1)) with
            | none =>
              have hr := k5.no he
              subst hr
              rw [he] at C
              have C := hide C
              clear k3 k4 k5 c1 c2 c3 hb he
              go_wp2_with (first | (go_at_call 47; refine C.out.mono ?_; rintro e w1 ⟨h1, rfl⟩; have H1 := hide h1; clear h1))
              go_ret3
              exact ⟨K4.out.trans (H1.out.mono K4.out.size), rfl⟩
            | some u =>
              obtain ⟨c, m⟩ := u
              have hr := k5.en he
              have hbd := ent_bd he
              rw [List.length_cons, List.length_drop, HL.out] at hbd
              have hdd : (38 :: s.data.toList.drop (n + 1)).drop m = s.data.toList.drop (n + m) := by rw [← hb, ← HDR.out n hlt, List.drop_drop]
              rw [hdd] at hr
              rw [he] at C
              have C : Calls Tryd.prog 47 #[.string s, .int .i64 (n : Int)] wr fun e w' => Below wr.heap.size wr w' ∧ e = .returned (.tuple #[.string ⟨(e8 c).toArray⟩, .int .i64 ((n + m : Nat) : Int), .bool true]) := C
              have C := hide C
              have HR := hide hr
              have HB := hide (show n + m ≤ s.size ∧ 2 ≤ m by omega)
              have HA := hide (show (acc ++ e8 c).length ≤ 4 * (n + m) by rw [List.length_append]; have := (code8.len c).2; omega)
              have HEL := hide (show acc.length + (⟨(e8 c).toArray⟩ : ByteArray).size ≤ 300000 by rw [size_mk']; have := (code8.len c).2; have := HS.out; omega)
              obtain ⟨M, hM⟩ : ∃ M, n + m = M := ⟨_, rfl⟩
              rw [hM] at C HR HB HA
              have hMi : (M : Int) ≤ 65536 := by have := HB.out.1; omega
              have HMM := hide hM
              clear k3 k4 k5 c1 c2 c3 hb he hr hbd hdd hM
              go_wp2_with (first
                | (go_at_call 47; refine C.out.mono ?_; rintro e w1 ⟨h1, rfl⟩; have H1 := hide h1; clear h1)
                | (at_builtin; refine Lib.wpList_append_own_string _ rfl _ _ 56 9 rfl w.heap.size 5 i0 Tryd.underlying56 Tryd.underlying9 HI.out HI0.out HI1.out HI2.out _ _ _ rfl (own_below K3.out K4.out H1.out) ⟨(e8 c).toArray⟩ rfl ?d1 ?d2 ?d3 ?_))
              case d1 => have := HEL.out; unfold maxLen; omega
              case d2 => have := HEL.out; omega
              case d3 => exact Nat.le_trans K4.out.size H1.out.size
              intro v3 w3 hown3 hgrow3 _
              have HB3 := hide (show Below w.heap.size w w3 from (K4.out.trans (H1.out.mono K4.out.size)).grown hgrow3 (Nat.le_trans K4.out.size H1.out.size) (fun k hk => (World.ownsRow.lt K3.out k hk).1))
              have HO3 := hide (show BRow w3 w.heap.size v3 (acc ++ e8 c) by
                unfold BRow
                rw [strCells_bytes] at hown3
                rw [List.map_append, List.length_append]
                exact hown3)
              clear hown3 hgrow3
              go_wp2
              go_roundw
              case rel => exact ⟨M, acc ++ e8 c, rfl, hide ⟨HB.out.1, HA.out, HO3.out, HB3.out, HR.out⟩⟩
              case measure => have := HB.out; have := HMM.out; simp [RowKit.intOf]; omega
          · have f3 : ((s[n].toNat : Int) == 38) = false := by rw [beq_eq_false_iff_ne]; omega
            have hr := k5.on (fun h => c1 (by rw [h]; rfl)) (fun h => c2 (by rw [h]; rfl)) (fun h => c3 (by rw [h]; rfl))
            have HR := hide hr
            have HAL := hide k2
            clear k2 k3 k4 k5 c1 c2 c3 hr
            obtain ⟨va, w2, hra, hrow, hbel, a2, n2, c2', hv2⟩ := app_b s[n] K3.out K4.out.size (by have := HAL.out; have := HS.out; omega)
            subst hv2
            have HRA := hide hra
            have HROW := hide hrow
            have HBEL := hide (K4.out.trans hbel)
            have HA2 := hide (show (acc ++ [s[n]]).length ≤ 4 * (n + 1) by rw [List.length_append]; have := HAL.out; simp; omega)
            clear hra hrow hbel
            go_wp2_with (first | (at_builtin; refine Lib.wpList_append_run _ rfl _ _ _ _ rfl _ _ rfl rfl _ _ HRA.out ?_))
            go_roundw
            case rel => exact ⟨n + 1, acc ++ [s[n]], by go_num, hide ⟨by omega, HA2.out, HROW.out, HBEL.out, HR.out⟩⟩
            case measure => simp [RowKit.intOf]; omega
    · have hlt' : ¬ (n : Int) < (s.size : Int) := by omega
      obtain rfl : n = s.size := by omega
      rw [List.drop_eq_nil_of_le (by rw [HL.out]; omega)] at k5
      have hr := k5.nil
      subst hr
      have K4 := hide k4
      have hee : ((s.size : Int) == (s.size : Int)) = true := by simp
      clear k3 k4 k5
      go_wp2_with fail
      go_ret3
      exact ⟨K4.out, rfl⟩
theorem entW_no {w : List UInt8} {c : Nat} (h : entW w = some c) : (60 : UInt8) ∉ w ∧ (34 : UInt8) ∉ w := by
  unfold entW at h
  split at h
  · rename_i h1; rw [h1]; decide
  · split at h
    · rename_i h1; rw [h1]; decide
    · split at h
      · rename_i h1; rw [h1]; decide
      · split at h
        · rename_i h1; rw [h1]; decide
        · split at h
          · rename_i h35
            unfold numW at h
            split at h
            · simp at h
            · rename_i hn
              simp only [not_or, Bool.not_eq_false] at hn
              have hall := hn.2.2.2.1
              cases w with
              | nil => simp
              | cons b r =>
                have hb : b = 35 := by simpa using h35
                subst hb
                have hr : ∀ x ∈ r, dgB x = true := fun x hx => List.all_eq_true.1 hall x (by simpa using hx)
                constructor
                · intro hm
                  rcases List.mem_cons.1 hm with h2 | h2
                  · exact absurd h2 (by decide)
                  · exact absurd (hr _ h2) (by decide)
                · intro hm
                  rcases List.mem_cons.1 hm with h2 | h2
                  · exact absurd h2 (by decide)
                  · exact absurd (hr _ h2) (by decide)
          · simp at h
theorem upto_pre {d b : UInt8} : ∀ (l : List UInt8), d ∉ upto b l → b ∈ l → upto b (upto d l) = upto b l ∧ (b ≠ d → b ∈ upto d l)
  | [], _, h => by simp at h
  | c :: l, h, hm => by
    by_cases hc : c = b
    · subst hc
      refine ⟨?_, fun hne => ?_⟩
      · unfold upto
        rw [List.takeWhile_cons, List.takeWhile_cons]
        by_cases hd : c = d
        · rw [if_neg (by simpa using hd), if_neg (by simp)]; rfl
        · rw [if_pos (by simpa using hd), if_neg (by simp), List.takeWhile_cons, if_neg (by simp)]
      · unfold upto
        rw [List.takeWhile_cons, if_pos (by simpa using hne)]
        simp
    · have hm2 : b ∈ l := by
        rcases List.mem_cons.1 hm with h2 | h2
        · exact absurd h2.symm hc
        · exact h2
      have hu : upto b (c :: l) = c :: upto b l := by unfold upto; rw [List.takeWhile_cons, if_pos (by simpa using hc)]
      rw [hu] at h
      simp only [List.mem_cons, not_or] at h
      obtain ⟨i1, i2⟩ := upto_pre l h.2 hm2
      have hv : upto d (c :: l) = c :: upto d l := by unfold upto; rw [List.takeWhile_cons, if_pos (by simpa using Ne.symm h.1)]
      rw [hv, hu]
      refine ⟨?_, fun hne => List.mem_cons_of_mem _ (i2 hne)⟩
      have : upto b (c :: upto d l) = c :: upto b (upto d l) := by unfold upto; rw [List.takeWhile_cons, if_pos (by simpa using hc)]
      rw [this, i1]
theorem ent_cut (d : UInt8) (hd : d = 60 ∨ d = 34) (r : List UInt8) : ent (38 :: upto d r) = ent (38 :: r) := by
  have hne : (59 : UInt8) ≠ d := by rcases hd with rfl | rfl <;> decide
  have hno : ∀ {w : List UInt8} {c : Nat}, entW w = some c → d ∉ w := fun h => by
    rcases hd with rfl | rfl
    · exact (entW_no h).1
    · exact (entW_no h).2
  unfold ent
  rw [show (38 :: upto d r).drop 1 = upto d r from rfl, show (38 :: r).drop 1 = r from rfl]
  by_cases hm : (59 : UInt8) ∈ r
  · by_cases hdw : d ∈ upto 59 r
    · /- cut off ahead of ; : none both ways -/
      have h1 : (59 : UInt8) ∉ upto d r := fun h => by
        have hlt := upto_lt hm
        have e1 := upto_get hm
        have e2 := upto_get h
        have e3 := upto_lt h
        have hdr : d ∈ r := by
          have := upto_take 59 r
          rw [← this] at hdw
          exact List.mem_of_mem_take hdw
        have e4 := upto_lt hdr
        -- the place of ; is behind d's place
        have e5 : (upto d r).length < (upto 59 r).length := by
          have hi : (upto 59 r).length ≤ r.length := upto_le _ _
          rcases Nat.lt_or_ge (upto d r).length (upto 59 r).length with h | h
          · exact h
          · exfalso
            have : upto 59 r = (upto d r).take (upto 59 r).length := by
              rw [← upto_take d r, List.take_take, Nat.min_eq_left h, upto_take]
            rw [this] at hdw
            exact upto_not d r (List.mem_of_mem_take hdw)
        have e6 : r[(upto 59 (upto d r)).length]? = some 59 := by
          rw [← e2]
          have : (upto d r)[(upto 59 (upto d r)).length]? = r[(upto 59 (upto d r)).length]? := by
            rw [← upto_take d r, List.getElem?_take_of_lt]
            rw [upto_take]; exact e3
          exact this.symm
        have e7 : (upto 59 r)[(upto 59 (upto d r)).length]? = some 59 := by
          rw [← upto_take 59 r, List.getElem?_take_of_lt (by omega)]
          exact e6
        exact upto_not 59 r (List.mem_of_getElem? e7)
      rw [if_pos (by rw [upto_all h1])]
      have hlt := upto_lt hm
      rw [if_neg (by omega)]
      cases he : entW (upto 59 r) with
      | none => rfl
      | some c => exact absurd hdw (hno he)
    · obtain ⟨i1, i2⟩ := upto_pre r hdw hm
      have i3 := i2 hne
      rw [i1]
      have h1 := upto_lt i3
      rw [i1] at h1
      have h2 := upto_lt hm
      rw [if_neg (by omega), if_neg (by omega)]
  · have h1 : (59 : UInt8) ∉ upto d r := fun h => hm (by
      rw [← upto_take d r] at h
      exact List.mem_of_mem_take h)
    rw [if_pos (by rw [upto_all h1]), if_pos (by rw [upto_all hm])]
end Go.Proofs.YtpmdekhjodhdmaaDoor.K17
