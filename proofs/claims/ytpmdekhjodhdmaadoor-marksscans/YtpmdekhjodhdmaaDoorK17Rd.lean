/-
  The reference's entity.
-/
import Derived.Test.YtpmdekhjodhdmaaDoorK17Rc
import Derived.Deep.RegionHeld3
namespace Go.Proofs.YtpmdekhjodhdmaaDoor.K17
open Go.RowKit Go.Proofs.YtpmdekhjodhdmaaDoor
open Go.Lib
set_option linter.unusedVariables false
set_option linter.unusedSimpArgs false
set_option maxRecDepth 8000

def EnR (w : World) (p : Nat) (R : Option (Nat × Nat)) (e : Ending) (w' : World) : Prop := Below w.heap.size w w' ∧ match R with
  | some (c, n) => e = .returned (.tuple #[.string ⟨(e8 c).toArray⟩, .int .i64 ((p + n : Nat) : Int), .bool true])
  | none => e = .returned (.tuple #[.string ⟨#[]⟩, .int .i64 0, .bool false])
abbrev wcs : Array Value := #[.string ⟨#[38, 108, 116, 59]⟩, .string ⟨#[38, 103, 116, 59]⟩, .string ⟨#[38, 97, 109, 112, 59]⟩, .string ⟨#[38, 113, 117, 111, 116, 59]⟩]
theorem wcs_at (w : World) (T : TypeId) (i : Nat) (hi : i < 4) : (w.alloc (.cells wcs T)).cell? ⟨w.heap.size, i, none⟩ = some (.string ⟨(wds.getD i []).toArray⟩) := by
  have := (Blk.new w wcs T).cell i
  rw [this]
  obtain rfl | rfl | rfl | rfl : i = 0 ∨ i = 1 ∨ i = 2 ∨ i = 3 := by omega
  all_goals rfl
theorem wds_len (i : Nat) (hi : i < 4) : 4 ≤ (wds.getD i []).length ∧ (wds.getD i []).length ≤ 6 := by
  obtain rfl | rfl | rfl | rfl : i = 0 ∨ i = 1 ∨ i = 2 ∨ i = 3 := by omega
  all_goals decide
theorem cds_at (i : Nat) (hi : i < 4) : (⟨#[60, 62, 38, 34]⟩ : ByteArray).extract i (i + 1) = ⟨(e8 (cds.getD i 0)).toArray⟩ := by
  obtain rfl | rfl | rfl | rfl : i = 0 ∨ i = 1 ∨ i = 2 ∨ i = 3 := by omega
  all_goals (rw [str_eq]; rfl)
theorem ext_eq (s : ByteArray) (p L : Nat) (W : List UInt8) (hW : W.length = L) (h : p + L ≤ s.size) : ((s.extract p (p + L)).toList == (⟨W.toArray⟩ : ByteArray).toList) = hp W (s.data.toList.drop p) := by
  rw [ByteArray.toList_eq, ByteArray.toList_eq, Lib.extract_data, mk_l, Nat.add_sub_cancel_left]
  cases hq : hp W (s.data.toList.drop p) with
  | true =>
    obtain ⟨z, hz⟩ := (hp_iff _ _).1 hq
    rw [hz, beq_iff_eq, ← hW, List.take_left' rfl]
  | false =>
    rw [beq_eq_false_iff_ne]
    intro h2
    have : hp W (s.data.toList.drop p) = true := (hp_iff _ _).2 ⟨(s.data.toList.drop p).drop L, by
      calc s.data.toList.drop p = (s.data.toList.drop p).take L ++ (s.data.toList.drop p).drop L := (List.take_append_drop _ _).symm
        _ = _ := by rw [h2]⟩
    rw [hq] at this; cases this
theorem hp_short {W q : List UInt8} (h : q.length < W.length) : hp W q = false := by
  cases hq : hp W q with
  | false => rfl
  | true =>
    obtain ⟨z, hz⟩ := (hp_iff _ _).1 hq
    have := congrArg List.length hz
    rw [List.length_append] at this
    omega
theorem lst1 (w : World) (z : Int) (T : TypeId) : Lst (w.alloc (.cells #[.int .i64 z] T)) (some ⟨w.heap.size, 0, none⟩) [z] := Or.inr ⟨_, 0, rfl, by simp, fun i hi => by
  obtain rfl : i = 0 := by simpa using hi
  exact (Blk.new w #[.int .i64 z] T).cell 0⟩
theorem below_dN {B : Nat} {w w' : World} (h : Below B w w') (n : Nat) : Below B w (w'.drewN n) := ⟨h.os, h.tape, h.output, h.size, h.block⟩
set_option maxRecDepth 100000 in
set_option maxHeartbeats 40000000 in
theorem rentity_any (s : ByteArray) (p : Nat) (w : World) (hs : s.size ≤ 65536) (hp' : p < s.size) (h38 : s[p] = 38) :
    Calls Tryd.prog 47 #[.string s, .int .i64 (p : Int)] w (EnR w p (ent (s.data.toList.drop p))) := by
  have hs' : (s.size : Int) ≤ 65536 := by omega
  have hpi : (p : Int) < (s.size : Int) := by omega
  have hl := size_l s
  obtain ⟨r, hr⟩ : ∃ r, s.data.toList.drop (p + 1) = r := ⟨_, rfl⟩
  have hq : s.data.toList.drop p = 38 :: r := by
    rw [← hr, List.drop_eq_getElem_cons (by rw [hl]; exact hp')]
    congr 1
  have hrl : r.length = s.size - (p + 1) := by rw [← hr, List.length_drop, hl]
  have hrg : ∀ j (h : p + 1 + j < s.size), r[j]? = some s[p + 1 + j] := fun j h => by rw [← hr, List.getElem?_drop]; exact get_b s (p + 1 + j) h
  obtain ⟨R, hR⟩ : ∃ R, ent (s.data.toList.drop p) = R := ⟨_, rfl⟩
  rw [hR]
  have HR := hide hR
  have HQ := hide hq
  have HRR := hide hr
  have HRR := hide hr
  have HRR := hide hr
  have HRR := hide hr
  have HRR := hide hr
  have HRR := hide hr
  have HRR := hide hr
  have HRR := hide hr
  have HRL := hide hrl
  have HRG := hide hrg
  have HS := hide hs
  have HP := hide hp'
  obtain ⟨T, hT⟩ : ∃ T : TypeId, T = 9 := ⟨_, rfl⟩
  have hV := fun i hi => wcs_at w 9 i hi
  have hB0 : Below w.heap.size w (w.alloc (.cells wcs 9)) := (Below.refl _ _).alloc (Nat.le_refl _) _
  obtain ⟨V, hVV⟩ : ∃ V, w.alloc (.cells wcs 9) = V := ⟨_, rfl⟩
  rw [hVV] at hV hB0
  have HV := hide hV
  have HB0 := hide hB0
  clear hR hq hrl hrg hr hs hp' h38 hl hV hB0 hT
  go_enter Tryd.func47, Tryd.ntmps47
  go_wp2_with fail
  go_loopw [8] (fun vi wr => ∃ i n : Nat, vi = .int .i64 i ∧ Hid (i ≤ 4 ∧ wr = V.drewN n ∧ ∀ j, j < i → hp (wds.getD j []) (s.data.toList.drop p) = false)) (fun vi _ => 4 - (RowKit.intOf vi).toNat)
  case atStart => exact ⟨0, 0, rfl, hide ⟨by omega, rfl, by omega⟩⟩
  case round =>
    obtain ⟨i, n, rfl, HK⟩ := hrel
    obtain ⟨i1, i2, i3⟩ := HK.out
    clear HK
    subst i2
    by_cases hlt : i < 4
    · have hlt' : (i : Int) < 4 := by omega
      have hc : V.cell? ⟨w.heap.size, i, none⟩ = some (.string ⟨(wds.getD i []).toArray⟩) := HV.out i hlt
      obtain ⟨w1, w2⟩ := wds_len i hlt
      have hewd := ent_wd (s.data.toList.drop p) i hlt
      have hcd := cds_at i hlt
      have I3 := hide i3
      obtain ⟨WL, hWL⟩ : ∃ WL, wds.getD i [] = WL := ⟨_, rfl⟩
      rw [hWL] at hc w1 w2 hewd
      obtain ⟨L, hL⟩ : ∃ L, WL.length = L := ⟨_, rfl⟩
      rw [hL] at w1 w2 hewd
      have hee := ext_eq s p L WL hL
      have hsh := hp_short (W := WL) (q := s.data.toList.drop p)
      obtain ⟨W, hW⟩ : ∃ W : ByteArray, (⟨WL.toArray⟩ : ByteArray) = W := ⟨_, rfl⟩
      rw [hW] at hc hee
      have hWz : (W.size : Int) = (L : Int) := by rw [← hW, size_m, hL]
      have hWn : W.size = L := by rw [← hW, size_m, hL]
      obtain ⟨Z, hZ⟩ : ∃ Z : ByteArray, (⟨#[60, 62, 38, 34]⟩ : ByteArray).extract i (i + 1) = Z := ⟨_, rfl⟩
      rw [hZ] at hcd
      have b1 : (i : Int) + 1 ≤ 4 := by omega
      have b2 : (0 : Int) ≤ (i : Int) := by omega
      have b3 : (0 : Int) ≤ (p : Int) := by omega
      have b4 : (L : Int) ≤ 6 := by omega
      have b5 : (p : Int) ≤ (p : Int) + (L : Int) := by omega
      have b6 : (i : Int) ≤ (i : Int) + 1 := by omega
      have w1' : (4 : Int) ≤ (L : Int) := by omega
      obtain ⟨m, hm⟩ : ∃ m, p + L = m := ⟨_, rfl⟩
      have hmi : (p : Int) + (L : Int) = (m : Int) := by omega
      have b7 : (p : Int) ≤ (m : Int) := by omega
      rw [hm] at hee
      by_cases hfit : m ≤ s.size
      · have hfit' : (m : Int) ≤ (s.size : Int) := by omega
        replace hee := hee (by omega)
        cases hq : hp WL (s.data.toList.drop p)
        · rw [hq] at hee
          have J3 := hide (show ∀ j, j < i + 1 → hp (wds.getD j []) (s.data.toList.drop p) = false by
            intro j hj
            by_cases hji : j < i
            · exact I3.out j hji
            · obtain rfl : j = i := by omega
              rw [hWL]; exact hq)
          clear i3 hewd hsh hW hZ hcd hq hWL hL hm
          go_wp2_with fail
          go_quiet (fail)
          go_wp2_with fail
          go_roundw
          case rel => exact ⟨i + 1, _, by go_num, hide ⟨by omega, rfl, J3.out⟩⟩
          case measure => simp [RowKit.intOf]; omega
        · rw [hq] at hee
          have hr := hewd hq
          rw [HR.out] at hr
          subst hr
          have HC := hide hcd
          have HM := hide hm
          clear i3 hewd hsh hW hcd hq hWL hL hm
          go_wp2_with fail
          go_quiet (fail)
          go_wp2_with fail
          go_quiet (fail)
          go_wp2_with fail
          go_ret3
          exact ⟨by first | exact below_dN HB0.out _ | exact below_dN (below_dN HB0.out _) _ | exact below_dN (below_dN (below_dN HB0.out _) _) _, by show _ = Ending.returned (.tuple #[.string ⟨(e8 (cds.getD i 0)).toArray⟩, .int .i64 ((p + L : Nat) : Int), .bool true]); rw [← HC.out, HM.out]; rfl⟩
      · have hfit' : ¬ (m : Int) ≤ (s.size : Int) := by omega
        have hq : hp WL (s.data.toList.drop p) = false := hsh (by rw [List.length_drop, size_l, hL]; omega)
        have J3 := hide (show ∀ j, j < i + 1 → hp (wds.getD j []) (s.data.toList.drop p) = false by
          intro j hj
          by_cases hji : j < i
          · exact I3.out j hji
          · obtain rfl : j = i := by omega
            rw [hWL]; exact hq)
        clear i3 hewd hsh hW hZ hcd hq hWL hL hm hee
        go_wp2_with fail
        go_quiet (fail)
        go_wp2_with fail
        go_roundw
        case rel => exact ⟨i + 1, _, by go_num, hide ⟨by omega, rfl, J3.out⟩⟩
        case measure => simp [RowKit.intOf]; omega
    · have hlt' : ¬ (i : Int) < 4 := by omega
      obtain rfl : i = 4 := by omega
      rw [HQ.out] at i3
      have I3 := hide i3
      clear i3
      by_cases h2 : p + 2 < s.size
      · have hp1 : p + 1 < s.size := by omega
        have hge : r = s[p + 1] :: s.data.toList.drop (p + 2) := by
          rw [← HRR.out, List.drop_eq_getElem_cons (by rw [size_l]; exact hp1)]
          congr 1
        obtain ⟨p1, hpe⟩ : ∃ p1, p + 1 = p1 := ⟨_, rfl⟩
        have hpi1 : (p : Int) + 1 = (p1 : Int) := by omega
        have hp1l : p1 < s.size := by omega
        have hp1l' : (p1 : Int) < (s.size : Int) := by omega
        obtain ⟨P2, hp2⟩ : ∃ P2, p + 2 = P2 := ⟨_, rfl⟩
        have hpi2 : (p : Int) + 2 = (P2 : Int) := by omega
        have hp2l : P2 < s.size := by omega
        have hp2l' : (P2 : Int) < (s.size : Int) := by omega
        have hp2d : decide ((s.size : Int) ≤ (P2 : Int)) = false := decide_eq_false (by omega)
        have hp2e : ¬ (s.size : Int) ≤ (P2 : Int) := by omega
        by_cases h35 : s[p1] = 35
        · have h35' : ((s[p1].toNat : Int) == 35) = true := by rw [h35]; rfl
          have hr35 : r = 35 :: s.data.toList.drop (p + 2) := by
            rw [hge]
            congr 1
            subst hpe
            exact h35
          have hi4 := I3.out
          rw [hr35] at hi4
          have I4 := hide hi4
          have HEN := ent_num (s.data.toList.drop (p + 2)) I4.out
          rw [show 38 :: 35 :: s.data.toList.drop (p + 2) = s.data.toList.drop p by rw [HQ.out, hr35], HR.out] at HEN
          have HEN := hide (show ent (s.data.toList.drop p) = _ from HR.out.trans HEN)
          have HDG := hide (show ∀ m (h : p + 2 + m < s.size), (s.data.toList.drop (p + 2))[m]? = some s[p + 2 + m] from fun m h => by rw [List.getElem?_drop]; exact get_b s (p + 2 + m) h)
          have HD := hide (show ∀ m (h : ¬ p + 2 + m < s.size), (s.data.toList.drop (p + 2))[m]? = none from fun m h => List.getElem?_eq_none (by rw [List.length_drop, size_l]; omega))
          have HD0 := hide (show (s.data.toList.drop (p + 2)).getD 0 0 = s[P2] by rw [List.getD_eq_getElem?_getD, HDG.out 0 (by omega)]; subst hp2; rfl)
          have HDL := hide (show (s.data.toList.drop (p + 2)).length = s.size - (p + 2) by rw [List.length_drop, size_l])
          have HP2 := hide hp2
          clear hge hr35 hi4 h35 hpe hp1
          go_wp2_with fail
          clear hp2d hp2e
          go_loopw [9, 10] (fun vn vk wr => ∃ m : Nat, vn = .int .i64 ((dv ((s.data.toList.drop (p + 2)).take m) : Nat) : Int) ∧ vk = .int .i64 ((P2 + m : Nat) : Int) ∧ Hid (m ≤ 7 ∧ p + 2 + m ≤ s.size ∧ ((s.data.toList.drop (p + 2)).take m).all dgB = true ∧ wr = V.drewN n)) (fun _ vk _ => s.size - (RowKit.intOf vk).toNat)
          case atStart => exact ⟨0, by simp [dv], rfl, hide ⟨by omega, by omega, by simp, rfl⟩⟩
          case round =>
            obtain ⟨m, rfl, rfl, HK⟩ := hrel
            obtain ⟨k1, k2, k3, k4⟩ := HK.out
            clear HK
            subst k4
            have hdvb := dv_bd ((s.data.toList.drop (p + 2)).take m) k3 (by have := List.length_take_le m (s.data.toList.drop (p + 2)); omega)
            obtain ⟨M, hM⟩ : ∃ M, P2 + m = M := ⟨_, rfl⟩
            obtain ⟨A, hA⟩ : ∃ A, dv ((s.data.toList.drop (p + 2)).take m) = A := ⟨_, rfl⟩
            rw [hM, hA]
            rw [hA] at hdvb
            have hAb : (A : Int) ≤ 9999999 := by omega
            have hMs : (M : Int) ≤ (s.size : Int) := by omega
            have HMM := hide hM
            have CI := hide (fun w => is_any (A : Int) w)
            have CC := hide (fun w => rclass_any (A : Int) w)
            obtain ⟨P9, h9⟩ : ∃ P9, p + 9 = P9 := ⟨_, rfl⟩
            have hpi9 : (p : Int) + 9 = (P9 : Int) := by omega
            by_cases e1 : M < s.size
            · have e1' : (M : Int) < (s.size : Int) := by omega
              have HSM := hide (show (s.data.toList.drop (p + 2))[m]? = some s[M] by rw [HDG.out m (by omega)]; subst hM; subst hp2; rfl)
              by_cases e2 : m < 7
              · have e2' : (M : Int) < (P9 : Int) := by omega
                by_cases e3 : s[M].toNat < 48
                · have e3' : ¬ (48 : Int) ≤ (s[M].toNat : Int) := by omega
                  have hdg := dgs_end (q := s.data.toList.drop (p + 2)) (n := m) (by rw [HDL.out]; omega) k1 k3 (fun b hb => by
                    rw [HSM.out] at hb; injection hb with hb; rw [← hb]; simp [dgB]; omega)
                  clear hM hp2 h9
                  by_cases c0 : m = 0
                  · have f0 : ((M : Int) == (P2 : Int)) = true := by rw [beq_iff_eq]; have := HMM.out; omega
                    have hr := HEN.out
                    rw [hdg, if_pos (Or.inl c0), HR.out] at hr
                    subst hr
                    clear c0 k3 hdg hA
                    try clear h59
                    try clear HSM
                    clear HEN HD0 HDG HD HDL HRG HQ HRL I4 I3 HRR
                    go_wp2_with fail
                    go_ret3
                    exact ⟨below_dN HB0.out _, rfl⟩
                  have f0 : ((M : Int) == (P2 : Int)) = false := by rw [beq_eq_false_iff_ne]; have := HMM.out; omega
                  by_cases c1 : s[P2].toNat = 48
                  · have f1 : ((s[P2].toNat : Int) == 48) = true := by rw [beq_iff_eq]; omega
                    have hr := HEN.out
                    rw [hdg, if_pos (Or.inr (Or.inl (by rw [HD0.out]; exact UInt8.toNat_inj.1 c1))), HR.out] at hr
                    subst hr
                    clear c1 k3 hdg hA
                    try clear h59
                    try clear HSM
                    clear HEN HD0 HDG HD HDL HRG HQ HRL I4 I3 HRR
                    go_wp2_with fail
                    go_ret3
                    exact ⟨below_dN HB0.out _, rfl⟩
                  have f1 : ((s[P2].toNat : Int) == 48) = false := by rw [beq_eq_false_iff_ne]; omega
                  have hr := HEN.out
                  rw [hdg, if_pos (Or.inr (Or.inr (Or.inl (by rw [HSM.out]; intro h; injection h with h; rw [h] at e3; exact absurd e3 (by decide))))), HR.out] at hr
                  subst hr
                  clear k3 hdg hA
                  try clear h59
                  try clear HSM
                  clear HEN HD0 HDG HD HDL HRG HQ HRL I4 I3 HRR
                  have f2 : ((s[M].toNat : Int) == 59) = false := by rw [beq_eq_false_iff_ne]; omega
                  go_wp2_with fail
                  go_ret3
                  exact ⟨below_dN HB0.out _, rfl⟩
                · have e3' : (48 : Int) ≤ (s[M].toNat : Int) := by omega
                  by_cases e4 : s[M].toNat ≤ 57
                  · have e4' : (s[M].toNat : Int) ≤ 57 := by omega
                    have htk : (s.data.toList.drop (p + 2)).take (m + 1) = (s.data.toList.drop (p + 2)).take m ++ [s[M]] := by
                      rw [List.take_add_one, HSM.out]; rfl
                    have K3 := hide (show ((s.data.toList.drop (p + 2)).take (m + 1)).all dgB = true by rw [htk, List.all_append, k3]; simp [dgB]; omega)
                    have KV := hide (show dv ((s.data.toList.drop (p + 2)).take (m + 1)) = 10 * A + (s[M].toNat - 48) by rw [htk, dv_snoc, hA])
                    have d3 : IntKind.u8.wrap ((s[M].toNat : Int) - 48) = (s[M].toNat : Int) - 48 := by rw [IntKind.wrap_u8]; omega
                    have HP22 := hide hp2
                    clear k3 htk hA hM hp2 h9 HSM
                    go_wp2_with fail
                    go_roundw
                    case rel => exact ⟨m + 1, by rw [KV.out]; congr 1; omega, by have := HMM.out; congr 1; omega, hide ⟨by omega, by have := HMM.out; have := HP22.out; omega, K3.out, by first | rfl | trivial⟩⟩
                    case measure => simp [RowKit.intOf]; omega
                  · have e4' : ¬ (s[M].toNat : Int) ≤ 57 := by omega
                    have hdg := dgs_end (q := s.data.toList.drop (p + 2)) (n := m) (by rw [HDL.out]; omega) k1 k3 (fun b hb => by
                      rw [HSM.out] at hb; injection hb with hb; rw [← hb]; simp [dgB]; omega)
                    clear hM hp2 h9
                    by_cases c0 : m = 0
                    · have f0 : ((M : Int) == (P2 : Int)) = true := by rw [beq_iff_eq]; have := HMM.out; omega
                      have hr := HEN.out
                      rw [hdg, if_pos (Or.inl c0), HR.out] at hr
                      subst hr
                      clear c0 k3 hdg hA
                      try clear h59
                      try clear HSM
                      clear HEN HD0 HDG HD HDL HRG HQ HRL I4 I3 HRR
                      go_wp2_with fail
                      go_ret3
                      exact ⟨below_dN HB0.out _, rfl⟩
                    have f0 : ((M : Int) == (P2 : Int)) = false := by rw [beq_eq_false_iff_ne]; have := HMM.out; omega
                    by_cases c1 : s[P2].toNat = 48
                    · have f1 : ((s[P2].toNat : Int) == 48) = true := by rw [beq_iff_eq]; omega
                      have hr := HEN.out
                      rw [hdg, if_pos (Or.inr (Or.inl (by rw [HD0.out]; exact UInt8.toNat_inj.1 c1))), HR.out] at hr
                      subst hr
                      clear c1 k3 hdg hA
                      try clear h59
                      try clear HSM
                      clear HEN HD0 HDG HD HDL HRG HQ HRL I4 I3 HRR
                      go_wp2_with fail
                      go_ret3
                      exact ⟨below_dN HB0.out _, rfl⟩
                    have f1 : ((s[P2].toNat : Int) == 48) = false := by rw [beq_eq_false_iff_ne]; omega
                    by_cases c2 : s[M].toNat = 59
                    · have f2 : ((s[M].toNat : Int) == 59) = true := by rw [beq_iff_eq]; omega
                      have h59 : (s.data.toList.drop (p + 2))[m]? = some 59 := by rw [HSM.out]; exact congrArg some (UInt8.toNat_inj.1 c2)
                      cases hp4 : isP (A : Int)
                      · rw [hp4] at CI
                        have hr := HEN.out
                        rw [hdg, if_pos (Or.inr (Or.inr (Or.inr (Or.inl (by rw [hA]; exact hp4))))), HR.out] at hr
                        subst hr
                        clear k3 hdg hA
                        try clear h59
                        try clear HSM
                        clear HEN HD0 HDG HD HDL HRG HQ HRL I4 I3 HRR
                        go_wp2_with (first | (go_at_call 37; refine (CI.out _).mono ?_; rintro e w1 ⟨rfl, rfl⟩))
                        go_ret3
                        exact ⟨below_dN HB0.out _, rfl⟩
                      · rw [hp4] at CI
                        have h4 := ctl_cls A (by have := isP_t.1 hp4; omega)
                        cases hct : ctl A
                        · rw [hct] at h4
                          have hr := HEN.out
                          rw [hdg, if_neg (by
                            rintro (h | h | h | h | h)
                            · exact c0 h
                            · rw [HD0.out] at h; exact c1 (by rw [h]; rfl)
                            · exact h h59
                            · rw [hA, hp4] at h; cases h
                            · rw [hA, hct] at h; cases h), HR.out] at hr
                          rw [hA] at hr
                          subst hr
                          have HS8 := hide (show wrS e8 [] [(A : Int)] = e8 A by unfold wrS encs; simp [hp4])
                          have HE8 := hide (show wrE [(A : Int)] = 0 by unfold wrE; simp [hp4])
                          obtain ⟨C, hC⟩ : ∃ C, clsV (A : Int) = C := ⟨_, rfl⟩
                          rw [hC] at CC h4
                          clear k3 hdg hA hp4 hct hC h59 HSM HEN HD0 HDG HD HDL HRG HQ HRL I4 I3 HRR
                          go_wp2_with (first | (go_at_call 37; refine (CI.out _).mono ?_; rintro e w1 ⟨rfl, rfl⟩) | (go_at_call 34; refine (CC.out _).mono ?_; rintro e w1 ⟨rfl, rfl⟩) | (go_at_call 35; refine (rencode_core (some ⟨V.heap.size, 0, none⟩) 1 1 [(A : Int)] _ rfl (by decide) (by first | exact lst1 _ _ _ | exact lst1 (V.drewN n) _ _) (e8 A) 0 HS8.out HE8.out).mono ?_; rintro e w2 ⟨rfl, hb2⟩))
                          go_ret3
                          exact ⟨(below_dN HB0.out _).trans ((((Below.refl _ _).alloc (Nat.le_refl _) _).trans (hb2.mono (by simp))).mono HB0.out.size), by show _ = Ending.returned (.tuple #[.string ⟨(e8 A).toArray⟩, .int .i64 ((p + (m + 3) : Nat) : Int), .bool true]); rw [show p + (m + 3) = M + 1 by have := HMM.out; have := HP2.out; omega]; rfl⟩
                        · rw [hct] at h4
                          have h5 : clsV (A : Int) = 4 := by simpa using h4
                          rw [h5] at CC
                          have hr := HEN.out
                          rw [hdg, if_pos (Or.inr (Or.inr (Or.inr (Or.inr (by rw [hA]; exact hct))))), HR.out] at hr
                          subst hr
                          clear k3 hdg hA
                          try clear h59
                          try clear HSM
                          clear HEN HD0 HDG HD HDL HRG HQ HRL I4 I3 HRR
                          go_wp2_with (first | (go_at_call 37; refine (CI.out _).mono ?_; rintro e w1 ⟨rfl, rfl⟩) | (go_at_call 34; refine (CC.out _).mono ?_; rintro e w1 ⟨rfl, rfl⟩))
                          go_ret3
                          exact ⟨below_dN HB0.out _, rfl⟩
                    · have f2 : ((s[M].toNat : Int) == 59) = false := by rw [beq_eq_false_iff_ne]; omega
                      have hr := HEN.out
                      rw [hdg, if_pos (Or.inr (Or.inr (Or.inl (by rw [HSM.out]; intro h; injection h with h; apply c2; rw [h]; rfl)))), HR.out] at hr
                      subst hr
                      clear k3 hdg hA
                      try clear h59
                      try clear HSM
                      clear HEN HD0 HDG HD HDL HRG HQ HRL I4 I3 HRR
                      go_wp2_with fail
                      go_ret3
                      exact ⟨below_dN HB0.out _, rfl⟩
              · have e2' : ¬ (M : Int) < (P9 : Int) := by omega
                obtain rfl : m = 7 := by omega
                have hdg := dgs_7 (q := s.data.toList.drop (p + 2)) (by rw [HDL.out]; omega) k3
                clear hM hp2 h9
                have f0 : ((M : Int) == (P2 : Int)) = false := by rw [beq_eq_false_iff_ne]; have := HMM.out; omega
                have c0 : ¬ (7 : Nat) = 0 := by omega
                by_cases c1 : s[P2].toNat = 48
                · have f1 : ((s[P2].toNat : Int) == 48) = true := by rw [beq_iff_eq]; omega
                  have hr := HEN.out
                  rw [hdg, if_pos (Or.inr (Or.inl (by rw [HD0.out]; exact UInt8.toNat_inj.1 c1))), HR.out] at hr
                  subst hr
                  clear c1 k3 hdg hA
                  try clear h59
                  try clear HSM
                  clear HEN HD0 HDG HD HDL HRG HQ HRL I4 I3 HRR
                  go_wp2_with fail
                  go_ret3
                  exact ⟨below_dN HB0.out _, rfl⟩
                have f1 : ((s[P2].toNat : Int) == 48) = false := by rw [beq_eq_false_iff_ne]; omega
                by_cases c2 : s[M].toNat = 59
                · have f2 : ((s[M].toNat : Int) == 59) = true := by rw [beq_iff_eq]; omega
                  have h59 : (s.data.toList.drop (p + 2))[7]? = some 59 := by rw [HSM.out]; exact congrArg some (UInt8.toNat_inj.1 c2)
                  cases hp4 : isP (A : Int)
                  · rw [hp4] at CI
                    have hr := HEN.out
                    rw [hdg, if_pos (Or.inr (Or.inr (Or.inr (Or.inl (by rw [hA]; exact hp4))))), HR.out] at hr
                    subst hr
                    clear k3 hdg hA
                    try clear h59
                    try clear HSM
                    clear HEN HD0 HDG HD HDL HRG HQ HRL I4 I3 HRR
                    go_wp2_with (first | (go_at_call 37; refine (CI.out _).mono ?_; rintro e w1 ⟨rfl, rfl⟩))
                    go_ret3
                    exact ⟨below_dN HB0.out _, rfl⟩
                  · rw [hp4] at CI
                    have h4 := ctl_cls A (by have := isP_t.1 hp4; omega)
                    cases hct : ctl A
                    · rw [hct] at h4
                      have hr := HEN.out
                      rw [hdg, if_neg (by
                        rintro (h | h | h | h | h)
                        · exact c0 h
                        · rw [HD0.out] at h; exact c1 (by rw [h]; rfl)
                        · exact h h59
                        · rw [hA, hp4] at h; cases h
                        · rw [hA, hct] at h; cases h), HR.out] at hr
                      rw [hA] at hr
                      subst hr
                      have HS8 := hide (show wrS e8 [] [(A : Int)] = e8 A by unfold wrS encs; simp [hp4])
                      have HE8 := hide (show wrE [(A : Int)] = 0 by unfold wrE; simp [hp4])
                      obtain ⟨C, hC⟩ : ∃ C, clsV (A : Int) = C := ⟨_, rfl⟩
                      rw [hC] at CC h4
                      clear k3 hdg hA hp4 hct hC h59 HSM HEN HD0 HDG HD HDL HRG HQ HRL I4 I3 HRR
                      go_wp2_with (first | (go_at_call 37; refine (CI.out _).mono ?_; rintro e w1 ⟨rfl, rfl⟩) | (go_at_call 34; refine (CC.out _).mono ?_; rintro e w1 ⟨rfl, rfl⟩) | (go_at_call 35; refine (rencode_core (some ⟨V.heap.size, 0, none⟩) 1 1 [(A : Int)] _ rfl (by decide) (by first | exact lst1 _ _ _ | exact lst1 (V.drewN n) _ _) (e8 A) 0 HS8.out HE8.out).mono ?_; rintro e w2 ⟨rfl, hb2⟩))
                      go_ret3
                      exact ⟨(below_dN HB0.out _).trans ((((Below.refl _ _).alloc (Nat.le_refl _) _).trans (hb2.mono (by simp))).mono HB0.out.size), by show _ = Ending.returned (.tuple #[.string ⟨(e8 A).toArray⟩, .int .i64 ((p + (7 + 3) : Nat) : Int), .bool true]); rw [show p + (7 + 3) = M + 1 by have := HMM.out; have := HP2.out; omega]; rfl⟩
                    · rw [hct] at h4
                      have h5 : clsV (A : Int) = 4 := by simpa using h4
                      rw [h5] at CC
                      have hr := HEN.out
                      rw [hdg, if_pos (Or.inr (Or.inr (Or.inr (Or.inr (by rw [hA]; exact hct))))), HR.out] at hr
                      subst hr
                      clear k3 hdg hA
                      try clear h59
                      try clear HSM
                      clear HEN HD0 HDG HD HDL HRG HQ HRL I4 I3 HRR
                      go_wp2_with (first | (go_at_call 37; refine (CI.out _).mono ?_; rintro e w1 ⟨rfl, rfl⟩) | (go_at_call 34; refine (CC.out _).mono ?_; rintro e w1 ⟨rfl, rfl⟩))
                      go_ret3
                      exact ⟨below_dN HB0.out _, rfl⟩
                · have f2 : ((s[M].toNat : Int) == 59) = false := by rw [beq_eq_false_iff_ne]; omega
                  have hr := HEN.out
                  rw [hdg, if_pos (Or.inr (Or.inr (Or.inl (by rw [HSM.out]; intro h; injection h with h; apply c2; rw [h]; rfl)))), HR.out] at hr
                  subst hr
                  clear k3 hdg hA
                  try clear h59
                  try clear HSM
                  clear HEN HD0 HDG HD HDL HRG HQ HRL I4 I3 HRR
                  go_wp2_with fail
                  go_ret3
                  exact ⟨below_dN HB0.out _, rfl⟩
            · have e1' : ¬ (M : Int) < (s.size : Int) := by omega
              have hdg := dgs_end (q := s.data.toList.drop (p + 2)) (n := m) (by rw [HDL.out]; omega) k1 k3 (fun b hb => by
                rw [HD.out m (by omega)] at hb; cases hb)
              have HM9 := hide hM
              clear h9
              by_cases c0 : m = 0
              · have f0 : ((M : Int) == (P2 : Int)) = true := by rw [beq_iff_eq]; have := HMM.out; omega
                have hr := HEN.out
                rw [hdg, if_pos (Or.inl c0), HR.out] at hr
                subst hr
                clear c0 k3 hdg hA
                try clear h59
                try clear HSM
                clear HEN HD0 HDG HD HDL HRG HQ HRL I4 I3 HRR
                go_wp2_with fail
                go_ret3
                exact ⟨below_dN HB0.out _, rfl⟩
              have f0 : ((M : Int) == (P2 : Int)) = false := by rw [beq_eq_false_iff_ne]; have := HMM.out; omega
              by_cases c1 : s[P2].toNat = 48
              · have f1 : ((s[P2].toNat : Int) == 48) = true := by rw [beq_iff_eq]; omega
                have hr := HEN.out
                rw [hdg, if_pos (Or.inr (Or.inl (by rw [HD0.out]; exact UInt8.toNat_inj.1 c1))), HR.out] at hr
                subst hr
                clear c1 k3 hdg hA
                try clear h59
                try clear HSM
                clear HEN HD0 HDG HD HDL HRG HQ HRL I4 I3 HRR
                go_wp2_with fail
                go_ret3
                exact ⟨below_dN HB0.out _, rfl⟩
              have f1 : ((s[P2].toNat : Int) == 48) = false := by rw [beq_eq_false_iff_ne]; omega
              have hr := HEN.out
              rw [hdg, if_pos (Or.inr (Or.inr (Or.inl (by rw [HD.out m (by omega)]; simp)))), HR.out] at hr
              subst hr
              clear k3 hdg hA
              try clear h59
              try clear HSM
              clear HEN HD0 HDG HD HDL HRG HQ HRL I4 I3 HRR
              go_wp2_with fail
              go_ret3
              exact ⟨below_dN HB0.out _, rfl⟩
        · have h35' : ((s[p1].toNat : Int) == 35) = false := by
            rw [beq_eq_false_iff_ne]; intro h; apply h35; apply UInt8.toNat_inj.1; show s[p1].toNat = 35; omega
          have hr := ent_else r I3.out (Or.inl (by rw [hge]; subst hpe; exact h35))
          rw [← HQ.out, HR.out] at hr
          subst hr
          clear hge hpe hp2 h35
          go_wp2_with fail
          go_ret3
          exact ⟨below_dN HB0.out _, rfl⟩
      · have h2' : (s.size : Int) ≤ (p : Int) + 2 := by omega
        have h2d : decide ((s.size : Int) ≤ (p : Int) + 2) = true := decide_eq_true h2'
        have hr := ent_else r I3.out (Or.inr (by rw [HRL.out]; omega))
        rw [← HQ.out, HR.out] at hr
        subst hr
        go_wp2_with fail
        go_ret3
        exact ⟨below_dN HB0.out _, rfl⟩
end Go.Proofs.YtpmdekhjodhdmaaDoor.K17
