/-
  The walk of the reference's text.
-/
import Derived.Test.YtpmdekhjodhdmaaDoorK17Rg
import Derived.Test.YtpmdekhjodhdmaaDoorK17Tp
namespace Go.Proofs.YtpmdekhjodhdmaaDoor.K17
open Go.RowKit Go.Proofs.YtpmdekhjodhdmaaDoor
open Go.Lib
set_option linter.unusedVariables false
set_option linter.unusedSimpArgs false
set_option maxRecDepth 100000

def TxR (w : World) (p E : Nat) (R : Except Nat (List UInt8)) (e : Ending) (w' : World) : Prop := Below w.heap.size w w' ∧ match R with
  | .ok t => e = .returned (.tuple #[.string ⟨t.toArray⟩, .int .i64 (E : Int), .bool true])
  | .error q => e = .returned (.tuple #[.string ⟨#[]⟩, .int .i64 ((p + q : Nat) : Int), .bool false])
theorem upto_drop {d : UInt8} : ∀ (m : Nat) (l : List UInt8), m ≤ (upto d l).length → (upto d l).drop m = upto d (l.drop m)
  | 0, l, _ => rfl
  | m + 1, [], h => by simp [upto] at h
  | m + 1, b :: l, h => by
    unfold upto at *
    rw [List.takeWhile_cons] at h ⊢
    split at h
    · rename_i hb
      rw [if_pos hb]
      have h2 : m ≤ (l.takeWhile (· != d)).length := by rw [List.length_cons] at h; omega
      exact upto_drop m l h2
    · simp at h
/- the next code point ahead of a sign -/
theorem e8_not60 (c : Nat) (h : isP (c : Int) = true) (hc : c ≠ 60) : (60 : UInt8) ∉ e8 c := by
  intro hm
  have hp := isP_t.1 h
  by_cases h1 : c < 128
  · rw [u8_1 h1] at hm
    simp only [List.mem_singleton] at hm
    apply hc
    rw [← bt_nat c (by omega), ← hm]; rfl
  · have := e8_high (c := c) (by omega) (by omega) _ hm
    exact absurd this (by decide)
theorem upto_e8 (c : Nat) (h : isP (c : Int) = true) (hc : c ≠ 60) (r : List UInt8) : upto 60 (e8 c ++ r) = e8 c ++ upto 60 r := by
  have hn := (e8_not60 c h hc)
  generalize e8 c = t at *
  induction t with
  | nil => rfl
  | cons b t ih =>
    simp only [List.mem_cons, not_or] at hn
    have := ih hn.2
    unfold upto at *
    rw [List.cons_append, List.takeWhile_cons, if_pos (by simpa using Ne.symm hn.1), this]; rfl
/- behind an entity whole code points stand -/
theorem ent_vt {l : List UInt8} {c m : Nat} (h : Vt l) (he : ent l = some (c, m)) : Vt (l.drop m) := by
  have hb := ent_bd he
  unfold ent at he
  split at he
  · simp at he
  · rename_i hne
    cases hq : entW (upto 59 (l.drop 1)) with
    | none => rw [hq] at he; simp at he
    | some x =>
      rw [hq] at he
      simp only [Option.map_some, Option.some.injEq, Prod.mk.injEq] at he
      obtain ⟨rfl, rfl⟩ := he
      have hm : (59 : UInt8) ∈ l.drop 1 := by
        by_cases hm : (59 : UInt8) ∈ l.drop 1
        · exact hm
        · exact absurd (by rw [upto_all hm]) hne
      have hg := upto_get hm
      rw [List.getElem?_drop] at hg
      have h1 := (h.cut (1 + (upto 59 (l.drop 1)).length) (fun b hb => by rw [hg] at hb; injection hb with hb; rw [← hb]; decide)).2
      have hlt := (List.getElem?_eq_some_iff.1 hg).1
      rw [List.drop_eq_getElem_cons hlt] at h1
      have hx : l[1 + (upto 59 (l.drop 1)).length] = 59 := by rw [List.getElem?_eq_getElem hlt] at hg; injection hg
      rw [hx] at h1
      have := (h1.low (by decide)).1
      rwa [show (upto 59 (l.drop 1)).length + 2 = 1 + (upto 59 (l.drop 1)).length + 1 by omega]
set_option maxHeartbeats 8000000 in
theorem rtext_any (s : ByteArray) (p : Nat) (w : World) (hs : s.size ≤ 65536) (hp' : p ≤ s.size) (hv : Vt (s.data.toList.drop p)) :
    Calls Tryd.prog 24 #[.string s, .int .i64 (p : Int)] w (TxR w p (p + (upto 60 (s.data.toList.drop p)).length) (pl (upto 60 (s.data.toList.drop p)))) := by
  have hs' : (s.size : Int) ≤ 65536 := by omega
  have hpi : (p : Int) ≤ (s.size : Int) := by omega
  have HL := hide (size_l s)
  have HDR := hide (show ∀ n (h : n < s.size), s.data.toList.drop n = s[n] :: s.data.toList.drop (n + 1) from fun n h => by
    rw [List.drop_eq_getElem_cons (by rw [size_l]; exact h)]; congr 1)
  obtain ⟨R, hR⟩ : ∃ R, pl (upto 60 (s.data.toList.drop p)) = R := ⟨_, rfl⟩
  rw [hR]
  obtain ⟨E, hE⟩ : ∃ E, p + (upto 60 (s.data.toList.drop p)).length = E := ⟨_, rfl⟩
  rw [hE]
  have HPL := hide (show PL (upto 60 (s.data.toList.drop p)) 0 [] R by rw [← hR]; exact PL.start _)
  have HS := hide hs
  have HE := hide hE
  have HV := hide hv
  have CE := hide (fun n w h1 h2 => rentity_any s n w hs h1 h2)
  have CC := hide (fun a b w h1 h2 h3 => rcontrols_any s a b w hs h1 h2 h3)
  obtain ⟨i0, hi, hz0, hz1, hz2⟩ := info_parts info_u8
  have HI := hide hi
  have HI0 := hide hz0
  have HI1 := hide hz1
  have HI2 := hide hz2
  clear hi hz0 hz1 hz2 hR hs hE hv
  go_enter Tryd.func24, Tryd.ntmps24
  go_wp2_with fail
  go_loopw [1, 7] (fun va vb wr => ∃ (n : Nat) (acc : List UInt8), va = .int .i64 n ∧ Hid (p ≤ n ∧ n ≤ s.size ∧ acc.length ≤ 4 * n ∧ BRow wr w.heap.size vb acc ∧ Below w.heap.size w wr ∧ PL (upto 60 (s.data.toList.drop n)) (n - p) acc R ∧ n + (upto 60 (s.data.toList.drop n)).length = E ∧ Vt (s.data.toList.drop n))) (fun va _ _ => s.size - (RowKit.intOf va).toNat)
  case atStart => exact ⟨p, [], rfl, hide ⟨Nat.le_refl _, by omega, by simp, BRow.nil _ _, Below.refl _ _, by rw [Nat.sub_self]; exact HPL.out, HE.out, HV.out⟩⟩
  case round =>
    obtain ⟨n, acc, rfl, HK⟩ := hrel
    obtain ⟨k0, k1, k2, k3, k4, k5, k6, k7⟩ := HK.out
    clear HK HPL HV
    have K3 := hide k3
    have K4 := hide k4
    by_cases hlt : n < s.size
    · have hlt' : (n : Int) < (s.size : Int) := by omega
      by_cases c1 : s[n].toNat = 60
      · have f1 : ((s[n].toNat : Int) != 60) = false := by rw [c1]; rfl
        have hu : upto 60 (s.data.toList.drop n) = [] := by
          rw [HDR.out n hlt]
          unfold upto
          rw [List.takeWhile_cons, if_neg]
          have : s[n] = 60 := UInt8.toNat_inj.1 c1
          rw [this]; decide
        rw [hu] at k5 k6
        have hr := k5.done
        subst hr
        have hcv := k3.text
        obtain rfl : n = E := by simpa using k6
        clear k3 k4 k5 k6 k7 hu c1
        go_wp2_with fail
        go_ret3
        exact ⟨K4.out, rfl⟩
      · have f1 : ((s[n].toNat : Int) != 60) = true := by rw [bne_iff_ne]; omega
        have hsn : s[n] ≠ 60 := fun h => c1 (by rw [h]; rfl)
        by_cases c3 : s[n].toNat = 38
        · have f3 : ((s[n].toNat : Int) == 38) = true := by rw [beq_iff_eq]; omega
          have hb : s[n] = 38 := UInt8.toNat_inj.1 c3
          have C := CE.out n wr hlt hb
          have hu : upto 60 (s.data.toList.drop n) = 38 :: upto 60 (s.data.toList.drop (n + 1)) := by
            rw [HDR.out n hlt, hb]
            unfold upto
            rw [List.takeWhile_cons, if_pos (by decide)]
          have hec := ent_cut 60 (Or.inl rfl) (s.data.toList.drop (n + 1))
          rw [HDR.out n hlt, hb] at C
          have hud : ∀ m, m ≤ (upto 60 (s.data.toList.drop n)).length → (upto 60 (s.data.toList.drop n)).drop m = upto 60 (s.data.toList.drop (n + m)) := fun m hm => by rw [upto_drop m _ hm, List.drop_drop]
          cases he : ent (38 :: s.data.toList.drop (n + 1)) with
          | none =>
            rw [he] at C hec
            rw [hu] at k5
            have hr := k5.none (by simp) rfl hec
            subst hr
            have C := hide C
            have HX := hide (show p + (n - p) = n by omega)
            clear k3 k4 k5 k6 k7 c1 c3 hb he hu hec hud
            go_wp2_with (first | (go_at_call 47; refine C.out.mono ?_; rintro e w1 ⟨h1, rfl⟩; have H1 := hide h1; clear h1))
            go_ret3
            exact ⟨K4.out.trans (H1.out.mono K4.out.size), by show _ = Ending.returned (.tuple #[.string ⟨#[]⟩, .int .i64 ((p + (n - p) : Nat) : Int), .bool false]); rw [HX.out]; rfl⟩
          | some u =>
            obtain ⟨c, m⟩ := u
            rw [he] at C hec
            have hbd := ent_bd hec
            rw [← hu] at hbd
            have hr := (hu ▸ k5).ent (by simp) rfl hec
            rw [← hu, hud m hbd.2] at hr
            have hlen : (upto 60 (s.data.toList.drop n)).length ≤ s.size - n := by have := upto_le 60 (s.data.toList.drop n); rw [List.length_drop, HL.out] at this; exact this
            have hE2 : n + m + (upto 60 (s.data.toList.drop (n + m))).length = E := by
              rw [← hud m hbd.2, List.length_drop]; omega
            have hv2 : Vt (s.data.toList.drop (n + m)) := by
              have h1 := (ent_vt k7 (by rw [HDR.out n hlt, hb]; exact he))
              rwa [List.drop_drop] at h1
            have C : Calls Tryd.prog 47 #[.string s, .int .i64 (n : Int)] wr fun e w' => Below wr.heap.size wr w' ∧ e = .returned (.tuple #[.string ⟨(e8 c).toArray⟩, .int .i64 ((n + m : Nat) : Int), .bool true]) := C
            have C := hide C
            rw [show n - p + m = n + m - p by omega] at hr
            have HR := hide hr
            have HB := hide (show n + m ≤ s.size ∧ 2 ≤ m ∧ p ≤ n + m by omega)
            have HA := hide (show (acc ++ e8 c).length ≤ 4 * (n + m) by rw [List.length_append]; have := (code8.len c).2; omega)
            have HEL := hide (show acc.length + (⟨(e8 c).toArray⟩ : ByteArray).size ≤ 300000 by rw [size_mk']; have := (code8.len c).2; have := HS.out; omega)
            have HEE := hide (And.intro hE2 hv2)
            obtain ⟨M, hM⟩ : ∃ M, n + m = M := ⟨_, rfl⟩
            rw [hM] at C HR HB HA HEE
            have hMi : (M : Int) ≤ 65536 := by have := HB.out.1; omega
            have HMM := hide hM
            clear k3 k4 k5 k6 k7 c1 c3 hb he hu hec hud hr hbd hlen hE2 hv2 hM
            go_wp2_with (first
              | (go_at_call 47; refine C.out.mono ?_; rintro e w1 ⟨h1, rfl⟩; have H1 := hide h1; clear h1)
              | (at_builtin; refine Lib.wpList_append_own_string _ rfl _ _ 56 9 rfl w.heap.size 5 i0 Tryd.underlying56 Tryd.underlying9 HI.out HI0.out HI1.out HI2.out _ _ _ rfl (own_below K3.out K4.out H1.out) ⟨(e8 c).toArray⟩ rfl ?d1 ?d2 ?d3 ?_))
            case d1 => have := HEL.out; unfold maxLen; omega
            case d2 => have := HEL.out; omega
            case d3 => exact Nat.le_trans K4.out.size H1.out.size
            intro v3 w3 hown3 hgrow3 _
            have HB3 := hide (show Below w.heap.size w w3 from (K4.out.trans (H1.out.mono K4.out.size)).grown hgrow3 (Nat.le_trans K4.out.size H1.out.size) (fun k hk => (World.ownsRow.lt K3.out k hk).1))
            have HO3 := hide (show BRow w3 w.heap.size v3 (acc ++ e8 c) by
              unfold BRow
              rw [strCells_bytes] at hown3
              rw [List.map_append, List.length_append]
              exact hown3)
            clear hown3 hgrow3
            go_wp2
            go_roundw
            case rel => exact ⟨M, acc ++ e8 c, rfl, hide ⟨HB.out.2.2, HB.out.1, HA.out, HO3.out, HB3.out, HR.out, HEE.out.1, HEE.out.2⟩⟩
            case measure => have := HB.out; have := HMM.out; simp [RowKit.intOf]; omega
        · have f3 : ((s[n].toNat : Int) == 38) = false := by rw [beq_eq_false_iff_ne]; omega
          obtain ⟨c, r', hl, hcp, hvr, hdn⟩ := k7.step (by rw [HDR.out n hlt]; simp)
          have hp := isP_t.1 hcp
          have hg0 : (s.data.toList.drop n).getD 0 0 = s[n] := by rw [HDR.out n hlt]; rfl
          have hc38 : c ≠ 38 := fun h => c3 (by
            have := (e8_first c hcp 38 (by decide) r').2 h
            rw [← hl, hg0] at this; rw [this]; rfl)
          have hc60 : c ≠ 60 := fun h => c1 (by
            have := (e8_first c hcp 60 (by decide) r').2 h
            rw [← hl, hg0] at this; rw [this]; rfl)
          have hu : upto 60 (s.data.toList.drop n) = e8 c ++ upto 60 r' := by rw [hl, upto_e8 c hcp hc60]
          have hdu := dN_e8 c (upto 60 r') hcp
          rw [← hu] at hdu
          have h8 := code8.len c
          obtain ⟨K, hK⟩ : ∃ K, (e8 c).length = K := ⟨_, rfl⟩
          rw [hK] at hdu h8
          have hll := congrArg List.length hl
          rw [List.length_drop, HL.out, List.length_append, hK] at hll
          have hr' : s.data.toList.drop (n + K) = r' := by rw [← List.drop_drop, hl, ← hK, List.drop_left' rfl]
          have hune : upto 60 (s.data.toList.drop n) ≠ [] := by rw [hu]; simp [e8_ne]
          have hu38 : (upto 60 (s.data.toList.drop n)).getD 0 0 ≠ 38 := fun h => by
            rw [hu] at h
            exact hc38 ((e8_first c hcp 38 (by decide) _).1 h)
          have hst : ctl c = false → PL (upto 60 (s.data.toList.drop (n + K))) (n + K - p) (acc ++ e8 c) R := fun h => by
            have := k5.step hune hu38 (by rw [hdu]; exact h)
            rw [hdu] at this
            simp only at this
            rw [hu, ← hK, List.drop_left' rfl, List.take_left' rfl, hK] at this
            rw [hr', show n + K - p = n - p + K by omega]
            exact this
          have hctl : ctl c = true → R = .error (n - p) := fun h => k5.ctl hune hu38 (by rw [hdu]; exact h)
          have hE2 : n + K + (upto 60 (s.data.toList.drop (n + K))).length = E := by
            rw [hu, List.length_append, hK] at k6; rw [hr']; omega
          have hv2 : Vt (s.data.toList.drop (n + K)) := by rw [hr']; exact hvr
          have hbyte : ∀ j (h : n + j < s.size), (s.data.toList.drop n)[j]? = some s[n + j] := fun j h => by rw [List.getElem?_drop]; exact get_b s (n + j) h
          have hcont : ∀ j (h : n + j < s.size), 1 ≤ j → j < K → 128 ≤ s[n + j].toNat ∧ s[n + j].toNat < 192 := fun j h h1 h2 => by
            have := hbyte j h
            rw [hl, List.getElem?_append_left (by omega)] at this
            exact e8_cont c (by omega) j h1 _ this
          have hlead : ∀ (h : n + K < s.size), s[n + K].toNat < 128 ∨ 192 ≤ s[n + K].toNat := fun h => by
            obtain ⟨c', r'', hl', hcp', _, _⟩ := hv2.step (drop_ne _ _ (by rw [HL.out]; exact h))
            have h1 := hbyte K h
            have h2 : (s.data.toList.drop (n + K))[0]? = some s[n + K] := by rw [List.getElem?_drop]; exact get_b s (n + K) h
            rw [hl', List.getElem?_append_left (by have := code8.len c'; omega)] at h2
            exact e8_lead c' (by have := isP_t.1 hcp'; omega) _ h2
          have hpc : (s.data.toList.drop n).take K = e8 c := by rw [hl, ← hK, List.take_left' rfl]
          obtain ⟨M, hM⟩ : ∃ M, n + K = M := ⟨_, rfl⟩
          have hpM : (s.data.toList.drop n).take (M - n) = e8 c := by rw [← hpc]; congr 1; omega
          have hve : Vt (e8 c) := by have := Vt.cons c [] hcp .nil; rwa [List.append_nil] at this
          have hhc : hc (e8 c) = ctl c := by
            have := hc_cons c [] hcp
            rw [List.append_nil] at this
            rw [this]; simp [hc, hcF]
          have CK := hide (fun w => CC.out n M w (by omega) (by omega) (by rw [hpM]; exact hve))
          rw [hpM, hhc] at CK
          obtain ⟨X, hX⟩ : ∃ X : ByteArray, s.extract n M = X := ⟨_, rfl⟩
          have hXe : (⟨(e8 c).toArray⟩ : ByteArray) = X := by rw [← hX, str_eq, Lib.extract_data, mk_l, hpM]
          have HXX := hide hXe
          have hXz : X.size = K := by rw [← hXe, size_m, hK]
          rw [hM] at hst hE2 hv2
          have HST := hide hst
          have HCT := hide hctl
          have HEE := hide (And.intro hE2 hv2)
          have HB := hide (show M ≤ s.size ∧ 1 ≤ K ∧ p ≤ M by omega)
          have HA := hide (show (acc ++ e8 c).length ≤ 4 * M by rw [List.length_append, hK]; omega)
          have HEL := hide (show acc.length + X.size ≤ 300000 by rw [hXz]; have := HS.out; omega)
          have HX := hide (show p + (n - p) = n by omega)
          have hMs : (M : Int) ≤ (s.size : Int) := by omega
          have hnM : (n : Int) ≤ (M : Int) := by omega
          have HMM := hide hM
          have HCO := hide hcont
          have HLD := hide hlead
          have hMi : (n : Int) + (K : Int) = (M : Int) := by omega
          have HK4 := hide h8
          have HM2 := hide (show M ≤ s.size by omega)
          clear k3 k4 k5 k6 k7 c1 c3 hl hcp hvr hdn hp hg0 hc38 hc60 hu hdu h8 hK hll hr' hune hu38 hst hctl hE2 hv2 hbyte hcont hlead hpc hM hpM hve hhc hXe hXz hsn
          go_wp2_with fail
          go_loopw [11] (fun vk wz => ∃ k : Nat, vk = .int .i64 k ∧ Hid (1 ≤ k ∧ k ≤ K ∧ wz = wr)) (fun vk _ => 5 - (RowKit.intOf vk).toNat)
          case atStart => exact ⟨1, rfl, hide ⟨Nat.le_refl _, by have := HK4.out; omega, rfl⟩⟩
          case round =>
            obtain ⟨k, rfl, HJ⟩ := hrel
            obtain ⟨j1, j2, j3⟩ := HJ.out
            clear HJ
            subst j3
            obtain ⟨N, hN⟩ : ∃ N, n + k = N := ⟨_, rfl⟩
            have hNi : (n : Int) + (k : Int) = (N : Int) := by omega
            by_cases hk : k < K
            · have hNl : N < s.size := by have := HM2.out; have := HMM.out; omega
              have hNl' : (N : Int) < (s.size : Int) := by omega
              obtain ⟨q1, q2⟩ := HCO.out k (by omega) j1 hk
              have g1 : (128 : Int) ≤ (s[N].toNat : Int) := by subst hN; omega
              have g2 : (s[N].toNat : Int) < 192 := by subst hN; omega
              have hk4 : (k : Int) ≤ 4 := by have := HK4.out; omega
              clear q1 q2
              go_wp2_with fail
              go_roundw
              case rel => exact ⟨k + 1, by go_num, hide ⟨by omega, by omega, by first | rfl | trivial⟩⟩
              case measure => have := HK4.out; simp [RowKit.intOf]; omega
            · obtain rfl : k = K := by omega
              obtain rfl : N = M := by have := HMM.out; omega
              by_cases hNl : N < s.size
              · have hNl' : (N : Int) < (s.size : Int) := by omega
                have hld := HLD.out (by omega)
                by_cases h128 : s[N].toNat < 128
                · have g1 : ¬ (128 : Int) ≤ (s[N].toNat : Int) := by omega
                  clear hld hN
                  cases hct : ctl c
                  · rw [hct] at CK
                    have HR := hide (HST.out hct)
                    clear hct
                    go_wp2_with (first
                      | (go_at_call 45; refine (CK.out _).mono ?_; rintro e w1 ⟨rfl, h1⟩; have H1 := hide h1; clear h1)
                      | (at_builtin; refine Lib.wpList_append_own_string _ rfl _ _ 56 9 rfl w.heap.size 5 i0 Tryd.underlying56 Tryd.underlying9 HI.out HI0.out HI1.out HI2.out _ _ _ rfl (own_below K3.out K4.out H1.out) X rfl ?d1 ?d2 ?d3 ?_))
                    case d1 => have := HEL.out; unfold maxLen; omega
                    case d2 => have := HEL.out; omega
                    case d3 => exact Nat.le_trans K4.out.size H1.out.size
                    intro v3 w3 hown3 hgrow3 _
                    have HB3 := hide (show Below w.heap.size w w3 from (K4.out.trans (H1.out.mono K4.out.size)).grown hgrow3 (Nat.le_trans K4.out.size H1.out.size) (fun k hk => (World.ownsRow.lt K3.out k hk).1))
                    have HO3 := hide (show BRow w3 w.heap.size v3 (acc ++ e8 c) by
                      unfold BRow
                      rw [← HXX.out, strCells_bytes] at hown3
                      rw [List.map_append, List.length_append]
                      rw [size_mk'] at hown3
                      exact hown3)
                    clear hown3 hgrow3
                    go_wp2
                    go_roundw
                    case rel => exact ⟨N, acc ++ e8 c, by first | rfl | go_num, hide ⟨HB.out.2.2, HB.out.1, HA.out, HO3.out, HB3.out, HR.out, HEE.out.1, HEE.out.2⟩⟩
                    case measure => have := HB.out; have := HMM.out; simp [RowKit.intOf]; omega
                  · rw [hct] at CK
                    have hr := HCT.out hct
                    subst hr
                    clear hct
                    go_wp2_with (first | (go_at_call 45; refine (CK.out _).mono ?_; rintro e w1 ⟨rfl, h1⟩; have H1 := hide h1; clear h1))
                    go_ret3
                    exact ⟨K4.out.trans (H1.out.mono K4.out.size), by show _ = Ending.returned (.tuple #[.string ⟨#[]⟩, .int .i64 ((p + (n - p) : Nat) : Int), .bool false]); rw [HX.out]; rfl⟩
                · have g1 : (128 : Int) ≤ (s[N].toNat : Int) := by omega
                  have g2 : ¬ (s[N].toNat : Int) < 192 := by
                    have : 192 ≤ s[N].toNat := by
                      rcases hld with h | h
                      · exfalso; apply h128; subst hN; exact h
                      · subst hN; exact h
                    omega
                  clear hld hN
                  cases hct : ctl c
                  · rw [hct] at CK
                    have HR := hide (HST.out hct)
                    clear hct
                    go_wp2_with (first
                      | (go_at_call 45; refine (CK.out _).mono ?_; rintro e w1 ⟨rfl, h1⟩; have H1 := hide h1; clear h1)
                      | (at_builtin; refine Lib.wpList_append_own_string _ rfl _ _ 56 9 rfl w.heap.size 5 i0 Tryd.underlying56 Tryd.underlying9 HI.out HI0.out HI1.out HI2.out _ _ _ rfl (own_below K3.out K4.out H1.out) X rfl ?d1 ?d2 ?d3 ?_))
                    case d1 => have := HEL.out; unfold maxLen; omega
                    case d2 => have := HEL.out; omega
                    case d3 => exact Nat.le_trans K4.out.size H1.out.size
                    intro v3 w3 hown3 hgrow3 _
                    have HB3 := hide (show Below w.heap.size w w3 from (K4.out.trans (H1.out.mono K4.out.size)).grown hgrow3 (Nat.le_trans K4.out.size H1.out.size) (fun k hk => (World.ownsRow.lt K3.out k hk).1))
                    have HO3 := hide (show BRow w3 w.heap.size v3 (acc ++ e8 c) by
                      unfold BRow
                      rw [← HXX.out, strCells_bytes] at hown3
                      rw [List.map_append, List.length_append]
                      rw [size_mk'] at hown3
                      exact hown3)
                    clear hown3 hgrow3
                    go_wp2
                    go_roundw
                    case rel => exact ⟨N, acc ++ e8 c, by first | rfl | go_num, hide ⟨HB.out.2.2, HB.out.1, HA.out, HO3.out, HB3.out, HR.out, HEE.out.1, HEE.out.2⟩⟩
                    case measure => have := HB.out; have := HMM.out; simp [RowKit.intOf]; omega
                  · rw [hct] at CK
                    have hr := HCT.out hct
                    subst hr
                    clear hct
                    go_wp2_with (first | (go_at_call 45; refine (CK.out _).mono ?_; rintro e w1 ⟨rfl, h1⟩; have H1 := hide h1; clear h1))
                    go_ret3
                    exact ⟨K4.out.trans (H1.out.mono K4.out.size), by show _ = Ending.returned (.tuple #[.string ⟨#[]⟩, .int .i64 ((p + (n - p) : Nat) : Int), .bool false]); rw [HX.out]; rfl⟩
              · have hNl' : ¬ (N : Int) < (s.size : Int) := by omega
                clear hN
                cases hct : ctl c
                · rw [hct] at CK
                  have HR := hide (HST.out hct)
                  clear hct
                  go_wp2_with (first
                    | (go_at_call 45; refine (CK.out _).mono ?_; rintro e w1 ⟨rfl, h1⟩; have H1 := hide h1; clear h1)
                    | (at_builtin; refine Lib.wpList_append_own_string _ rfl _ _ 56 9 rfl w.heap.size 5 i0 Tryd.underlying56 Tryd.underlying9 HI.out HI0.out HI1.out HI2.out _ _ _ rfl (own_below K3.out K4.out H1.out) X rfl ?d1 ?d2 ?d3 ?_))
                  case d1 => have := HEL.out; unfold maxLen; omega
                  case d2 => have := HEL.out; omega
                  case d3 => exact Nat.le_trans K4.out.size H1.out.size
                  intro v3 w3 hown3 hgrow3 _
                  have HB3 := hide (show Below w.heap.size w w3 from (K4.out.trans (H1.out.mono K4.out.size)).grown hgrow3 (Nat.le_trans K4.out.size H1.out.size) (fun k hk => (World.ownsRow.lt K3.out k hk).1))
                  have HO3 := hide (show BRow w3 w.heap.size v3 (acc ++ e8 c) by
                    unfold BRow
                    rw [← HXX.out, strCells_bytes] at hown3
                    rw [List.map_append, List.length_append]
                    rw [size_mk'] at hown3
                    exact hown3)
                  clear hown3 hgrow3
                  go_wp2
                  go_roundw
                  case rel => exact ⟨N, acc ++ e8 c, by first | rfl | go_num, hide ⟨HB.out.2.2, HB.out.1, HA.out, HO3.out, HB3.out, HR.out, HEE.out.1, HEE.out.2⟩⟩
                  case measure => have := HB.out; have := HMM.out; simp [RowKit.intOf]; omega
                · rw [hct] at CK
                  have hr := HCT.out hct
                  subst hr
                  clear hct
                  go_wp2_with (first | (go_at_call 45; refine (CK.out _).mono ?_; rintro e w1 ⟨rfl, h1⟩; have H1 := hide h1; clear h1))
                  go_ret3
                  exact ⟨K4.out.trans (H1.out.mono K4.out.size), by show _ = Ending.returned (.tuple #[.string ⟨#[]⟩, .int .i64 ((p + (n - p) : Nat) : Int), .bool false]); rw [HX.out]; rfl⟩
    · have hlt' : ¬ (n : Int) < (s.size : Int) := by omega
      obtain rfl : n = s.size := by omega
      have hu : upto 60 (s.data.toList.drop s.size) = [] := by rw [List.drop_eq_nil_of_le (by rw [HL.out]; omega)]; rfl
      rw [hu] at k5 k6
      have hr := k5.done
      subst hr
      have hcv := k3.text
      obtain rfl : s.size = E := by simpa using k6
      clear k3 k4 k5 k6 k7 hu
      go_wp2_with fail
      go_ret3
      exact ⟨K4.out, rfl⟩
end Go.Proofs.YtpmdekhjodhdmaaDoor.K17
