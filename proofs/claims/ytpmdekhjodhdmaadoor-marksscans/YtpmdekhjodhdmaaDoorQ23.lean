/-
  Joined: K17Rh, K17Rf, K17Ri.
-/
import Derived.Test.YtpmdekhjodhdmaaDoorQ19
import Derived.Test.YtpmdekhjodhdmaaDoorQ22
namespace Go.Proofs.YtpmdekhjodhdmaaDoor.K17
open Go.RowKit Go.Proofs.YtpmdekhjodhdmaaDoor
open Go.Lib
set_option linter.unusedVariables false
set_option linter.unusedSimpArgs false
set_option maxRecDepth 100000
def TxR (w : World) (p E : Nat) (R : Except Nat (List UInt8)) (e : Ending) (w' : World) : Prop := Below w.heap.size w w' ∧ match R with
  | .ok t => e = .returned (.tuple #[.string ⟨t.toArray⟩, .int .i64 (E : Int), .bool true])
  | .error q => e = .returned (.tuple #[.string ⟨#[]⟩, .int .i64 ((p + q : Nat) : Int), .bool false])
theorem upto_drop {d : UInt8} : ∀ (m : Nat) (l : List UInt8), m ≤ (upto d l).length → (upto d l).drop m = upto d (l.drop m)
  | 0, l, _ => rfl
  | m + 1, [], h => by simp [upto] at h
  | m + 1, b :: l, h => by
    unfold upto at *
    rw [List.takeWhile_cons] at h ⊢
    split at h
    · rename_i hb
      rw [if_pos hb]
      have h2 : m ≤ (l.takeWhile (· != d)).length := by rw [List.length_cons] at h; omega
      exact upto_drop m l h2
    · simp at h
theorem e8_not60 (c : Nat) (h : isP (c : Int) = true) (hc : c ≠ 60) : (60 : UInt8) ∉ e8 c := by
  intro hm
  have hp := isP_t.1 h
  by_cases h1 : c < 128
  · rw [u8_1 h1] at hm
    simp only [List.mem_singleton] at hm
    apply hc
    rw [← bt_nat c (by omega), ← hm]; rfl
  · have := e8_high (c := c) (by omega) (by omega) _ hm
    exact absurd this (by decide)
theorem upto_e8 (c : Nat) (h : isP (c : Int) = true) (hc : c ≠ 60) (r : List UInt8) : upto 60 (e8 c ++ r) = e8 c ++ upto 60 r := by
  have hn := (e8_not60 c h hc)
  generalize e8 c = t at *
  induction t with
  | nil => rfl
  | cons b t ih =>
    simp only [List.mem_cons, not_or] at hn
    have := ih hn.2
    unfold upto at *
    rw [List.cons_append, List.takeWhile_cons, if_pos (by simpa using Ne.symm hn.1), this]; rfl
theorem ent_vt {l : List UInt8} {c m : Nat} (h : Vt l) (he : ent l = some (c, m)) : Vt (l.drop m) := by
  have hb := ent_bd he
  unfold ent at he
  split at he
  · simp at he
  · rename_i hne
    cases hq : entW (upto 59 (l.drop 1)) with
    | none => rw [hq] at he; simp at he
    | some x =>
      rw [hq] at he
      simp only [Option.map_some, Option.some.injEq, Prod.mk.injEq] at he
      obtain ⟨rfl, rfl⟩ := he
      have hm : (59 : UInt8) ∈ l.drop 1 := by
        by_cases hm : (59 : UInt8) ∈ l.drop 1
        · exact hm
        · exact absurd (by rw [upto_all hm]) hne
      have hg := upto_get hm
      rw [List.getElem?_drop] at hg
      have h1 := (h.cut (1 + (upto 59 (l.drop 1)).length) (fun b hb => by rw [hg] at hb; injection hb with hb; rw [← hb]; decide)).2
      have hlt := (List.getElem?_eq_some_iff.1 hg).1
      rw [List.drop_eq_getElem_cons hlt] at h1
      have hx : l[1 + (upto 59 (l.drop 1)).length] = 59 := by rw [List.getElem?_eq_getElem hlt] at hg; injection hg
      rw [hx] at h1
      have := (h1.low (by decide)).1
      rwa [show (upto 59 (l.drop 1)).length + 2 = 1 + (upto 59 (l.drop 1)).length + 1 by omega]
set_option maxHeartbeats 8000000 in
theorem rtext_any (s : ByteArray) (p : Nat) (w : World) (hs : s.size ≤ 65536) (hp' : p ≤ s.size) (hv : Vt (s.data.toList.drop p)) :
    Calls Tryd.prog 24 #[.string s, .int .i64 (p : Int)] w (TxR w p (p + (upto 60 (s.data.toList.drop p)).length) (pl (upto 60 (s.data.toList.drop p)))) := by
  have hs' : (s.size : Int) ≤ 65536 := by omega
  have hpi : (p : Int) ≤ (s.size : Int) := by omega
  have HL := hide (size_l s)
  have HDR := hide (show ∀ n (h : n < s.size), s.data.toList.drop n = s[n] :: s.data.toList.drop (n + 1) from fun n h => by
    rw [List.drop_eq_getElem_cons (by rw [size_l]; exact h)]; congr 1)
  obtain ⟨R, hR⟩ : ∃ R, pl (upto 60 (s.data.toList.drop p)) = R := ⟨_, rfl⟩
  rw [hR]
  obtain ⟨E, hE⟩ : ∃ E, p + (upto 60 (s.data.toList.drop p)).length = E := ⟨_, rfl⟩
  rw [hE]
  have HPL := hide (show PL (upto 60 (s.data.toList.drop p)) 0 [] R by rw [← hR]; exact PL.start _)
  have HS := hide hs
  have HE := hide hE
  have HV := hide hv
  have CE := hide (fun n w h1 h2 => rentity_any s n w hs h1 h2)
  have CC := hide (fun a b w h1 h2 h3 => rcontrols_any s a b w hs h1 h2 h3)
  obtain ⟨i0, hi, hz0, hz1, hz2⟩ := info_parts info_u8
  have HI := hide hi
  have HI0 := hide hz0
  have HI1 := hide hz1
  have HI2 := hide hz2
  clear hi hz0 hz1 hz2 hR hs hE hv
  go_enter Tryd.func24, Tryd.ntmps24
  go_wp2_with fail
  go_loopw [1, 7] (fun va vb wr => ∃ (n : Nat) (acc : List UInt8), va = .int .i64 n ∧ Hid (p ≤ n ∧ n ≤ s.size ∧ acc.length ≤ 4 * n ∧ BRow wr w.heap.size vb acc ∧ Below w.heap.size w wr ∧ PL (upto 60 (s.data.toList.drop n)) (n - p) acc R ∧ n + (upto 60 (s.data.toList.drop n)).length = E ∧ Vt (s.data.toList.drop n))) (fun va _ _ => s.size - (RowKit.intOf va).toNat)
  case atStart => exact ⟨p, [], rfl, hide ⟨Nat.le_refl _, by omega, by simp, BRow.nil _ _, Below.refl _ _, by rw [Nat.sub_self]; exact HPL.out, HE.out, HV.out⟩⟩
  case round =>
    obtain ⟨n, acc, rfl, HK⟩ := hrel
    obtain ⟨k0, k1, k2, k3, k4, k5, k6, k7⟩ := HK.out
    clear HK HPL HV
    have K3 := hide k3
    have K4 := hide k4
    by_cases hlt : n < s.size
    · have hlt' : (n : Int) < (s.size : Int) := by omega
      by_cases c1 : s[n].toNat = 60
      · have f1 : ((s[n].toNat : Int) != 60) = false := by rw [c1]; rfl
        have hu : upto 60 (s.data.toList.drop n) = [] := by
          rw [HDR.out n hlt]
          unfold upto
          rw [List.takeWhile_cons, if_neg]
          have : s[n] = 60 := UInt8.toNat_inj.1 c1
          rw [this]; decide
        rw [hu] at k5 k6
        have hr := k5.done
        subst hr
        have hcv := k3.text
        obtain rfl : n = E := by simpa using k6
        clear k3 k4 k5 k6 k7 hu c1
        go_wp2_with fail
        go_ret3
        exact ⟨K4.out, rfl⟩
      · have f1 : ((s[n].toNat : Int) != 60) = true := by rw [bne_iff_ne]; omega
        have hsn : s[n] ≠ 60 := fun h => c1 (by rw [h]; rfl)
        by_cases c3 : s[n].toNat = 38
        · have f3 : ((s[n].toNat : Int) == 38) = true := by rw [beq_iff_eq]; omega
          have hb : s[n] = 38 := UInt8.toNat_inj.1 c3
          have C := CE.out n wr hlt hb
          have hu : upto 60 (s.data.toList.drop n) = 38 :: upto 60 (s.data.toList.drop (n + 1)) := by
            rw [HDR.out n hlt, hb]
            unfold upto
            rw [List.takeWhile_cons, if_pos (by decide)]
          have hec := ent_cut 60 (Or.inl rfl) (s.data.toList.drop (n + 1))
          rw [HDR.out n hlt, hb] at C
          have hud : ∀ m, m ≤ (upto 60 (s.data.toList.drop n)).length → (upto 60 (s.data.toList.drop n)).drop m = upto 60 (s.data.toList.drop (n + m)) := fun m hm => by rw [upto_drop m _ hm, List.drop_drop]
          cases he : ent (38 :: s.data.toList.drop (n + 1)) with
          | none =>
            rw [he] at C hec
            rw [hu] at k5
            have hr := k5.none (by simp) rfl hec
            subst hr
            have C := hide C
            have HX := hide (show p + (n - p) = n by omega)
            clear k3 k4 k5 k6 k7 c1 c3 hb he hu hec hud
            go_wp2_with (first | (go_at_call 47; refine C.out.mono ?_; rintro e w1 ⟨h1, rfl⟩; have H1 := hide h1; clear h1))
            go_ret3
            exact ⟨K4.out.trans (H1.out.mono K4.out.size), by show _ = Ending.returned (.tuple #[.string ⟨#[]⟩, .int .i64 ((p + (n - p) : Nat) : Int), .bool false]); rw [HX.out]; rfl⟩
          | some u =>
            obtain ⟨c, m⟩ := u
            rw [he] at C hec
            have hbd := ent_bd hec
            rw [← hu] at hbd
            have hr := (hu ▸ k5).ent (by simp) rfl hec
            rw [← hu, hud m hbd.2] at hr
            have hlen : (upto 60 (s.data.toList.drop n)).length ≤ s.size - n := by have := upto_le 60 (s.data.toList.drop n); rw [List.length_drop, HL.out] at this; exact this
            have hE2 : n + m + (upto 60 (s.data.toList.drop (n + m))).length = E := by
              rw [← hud m hbd.2, List.length_drop]; omega
            have hv2 : Vt (s.data.toList.drop (n + m)) := by
              have h1 := (ent_vt k7 (by rw [HDR.out n hlt, hb]; exact he))
              rwa [List.drop_drop] at h1
            have C : Calls Tryd.prog 47 #[.string s, .int .i64 (n : Int)] wr fun e w' => Below wr.heap.size wr w' ∧ e = .returned (.tuple #[.string ⟨(e8 c).toArray⟩, .int .i64 ((n + m : Nat) : Int), .bool true]) := C
            have C := hide C
            rw [show n - p + m = n + m - p by omega] at hr
            have HR := hide hr
            have HB := hide (show n + m ≤ s.size ∧ 2 ≤ m ∧ p ≤ n + m by omega)
            have HA := hide (show (acc ++ e8 c).length ≤ 4 * (n + m) by rw [List.length_append]; have := (code8.len c).2; omega)
            have HEL := hide (show acc.length + (⟨(e8 c).toArray⟩ : ByteArray).size ≤ 300000 by rw [size_mk']; have := (code8.len c).2; have := HS.out; omega)
            have HEE := hide (And.intro hE2 hv2)
            obtain ⟨M, hM⟩ : ∃ M, n + m = M := ⟨_, rfl⟩
            rw [hM] at C HR HB HA HEE
            have hMi : (M : Int) ≤ 65536 := by have := HB.out.1; omega
            have HMM := hide hM
            clear k3 k4 k5 k6 k7 c1 c3 hb he hu hec hud hr hbd hlen hE2 hv2 hM
            go_wp2_with (first
              | (go_at_call 47; refine C.out.mono ?_; rintro e w1 ⟨h1, rfl⟩; have H1 := hide h1; clear h1)
              | (at_builtin; refine Lib.wpList_append_own_string _ rfl _ _ 56 9 rfl w.heap.size 5 i0 Tryd.underlying56 Tryd.underlying9 HI.out HI0.out HI1.out HI2.out _ _ _ rfl (own_below K3.out K4.out H1.out) ⟨(e8 c).toArray⟩ rfl ?d1 ?d2 ?d3 ?_))
            case d1 => have := HEL.out; unfold maxLen; omega
            case d2 => have := HEL.out; omega
            case d3 => exact Nat.le_trans K4.out.size H1.out.size
            intro v3 w3 hown3 hgrow3 _
            have HB3 := hide (show Below w.heap.size w w3 from (K4.out.trans (H1.out.mono K4.out.size)).grown hgrow3 (Nat.le_trans K4.out.size H1.out.size) (fun k hk => (World.ownsRow.lt K3.out k hk).1))
            have HO3 := hide (show BRow w3 w.heap.size v3 (acc ++ e8 c) by
              unfold BRow
              rw [strCells_bytes] at hown3
              rw [List.map_append, List.length_append]
              exact hown3)
            clear hown3 hgrow3
            go_wp2
            go_roundw
            case rel => exact ⟨M, acc ++ e8 c, rfl, hide ⟨HB.out.2.2, HB.out.1, HA.out, HO3.out, HB3.out, HR.out, HEE.out.1, HEE.out.2⟩⟩
            case measure => have := HB.out; have := HMM.out; simp [RowKit.intOf]; omega
        · have f3 : ((s[n].toNat : Int) == 38) = false := by rw [beq_eq_false_iff_ne]; omega
          obtain ⟨c, r', hl, hcp, hvr, hdn⟩ := k7.step (by rw [HDR.out n hlt]; simp)
          have hp := isP_t.1 hcp
          have hg0 : (s.data.toList.drop n).getD 0 0 = s[n] := by rw [HDR.out n hlt]; rfl
          have hc38 : c ≠ 38 := fun h => c3 (by
            have := (e8_first c hcp 38 (by decide) r').2 h
            rw [← hl, hg0] at this; rw [this]; rfl)
          have hc60 : c ≠ 60 := fun h => c1 (by
            have := (e8_first c hcp 60 (by decide) r').2 h
            rw [← hl, hg0] at this; rw [this]; rfl)
          have hu : upto 60 (s.data.toList.drop n) = e8 c ++ upto 60 r' := by rw [hl, upto_e8 c hcp hc60]
          have hdu := dN_e8 c (upto 60 r') hcp
          rw [← hu] at hdu
          have h8 := code8.len c
          obtain ⟨K, hK⟩ : ∃ K, (e8 c).length = K := ⟨_, rfl⟩
          rw [hK] at hdu h8
          have hll := congrArg List.length hl
          rw [List.length_drop, HL.out, List.length_append, hK] at hll
          have hr' : s.data.toList.drop (n + K) = r' := by rw [← List.drop_drop, hl, ← hK, List.drop_left' rfl]
          have hune : upto 60 (s.data.toList.drop n) ≠ [] := by rw [hu]; simp [e8_ne]
          have hu38 : (upto 60 (s.data.toList.drop n)).getD 0 0 ≠ 38 := fun h => by
            rw [hu] at h
            exact hc38 ((e8_first c hcp 38 (by decide) _).1 h)
          have hst : ctl c = false → PL (upto 60 (s.data.toList.drop (n + K))) (n + K - p) (acc ++ e8 c) R := fun h => by
            have := k5.step hune hu38 (by rw [hdu]; exact h)
            rw [hdu] at this
            simp only at this
            rw [hu, ← hK, List.drop_left' rfl, List.take_left' rfl, hK] at this
            rw [hr', show n + K - p = n - p + K by omega]
            exact this
          have hctl : ctl c = true → R = .error (n - p) := fun h => k5.ctl hune hu38 (by rw [hdu]; exact h)
          have hE2 : n + K + (upto 60 (s.data.toList.drop (n + K))).length = E := by
            rw [hu, List.length_append, hK] at k6; rw [hr']; omega
          have hv2 : Vt (s.data.toList.drop (n + K)) := by rw [hr']; exact hvr
          have hbyte : ∀ j (h : n + j < s.size), (s.data.toList.drop n)[j]? = some s[n + j] := fun j h => by rw [List.getElem?_drop]; exact get_b s (n + j) h
          have hcont : ∀ j (h : n + j < s.size), 1 ≤ j → j < K → 128 ≤ s[n + j].toNat ∧ s[n + j].toNat < 192 := fun j h h1 h2 => by
            have := hbyte j h
            rw [hl, List.getElem?_append_left (by omega)] at this
            exact e8_cont c (by omega) j h1 _ this
          have hlead : ∀ (h : n + K < s.size), s[n + K].toNat < 128 ∨ 192 ≤ s[n + K].toNat := fun h => by
            obtain ⟨c', r'', hl', hcp', _, _⟩ := hv2.step (drop_ne _ _ (by rw [HL.out]; exact h))
            have h1 := hbyte K h
            have h2 : (s.data.toList.drop (n + K))[0]? = some s[n + K] := by rw [List.getElem?_drop]; exact get_b s (n + K) h
            rw [hl', List.getElem?_append_left (by have := code8.len c'; omega)] at h2
            exact e8_lead c' (by have := isP_t.1 hcp'; omega) _ h2
          have hpc : (s.data.toList.drop n).take K = e8 c := by rw [hl, ← hK, List.take_left' rfl]
          obtain ⟨M, hM⟩ : ∃ M, n + K = M := ⟨_, rfl⟩
          have hpM : (s.data.toList.drop n).take (M - n) = e8 c := by rw [← hpc]; congr 1; omega
          have hve : Vt (e8 c) := by have := Vt.cons c [] hcp .nil; rwa [List.append_nil] at this
          have hhc : hc (e8 c) = ctl c := by
            have := hc_cons c [] hcp
            rw [List.append_nil] at this
            rw [this]; simp [hc, hcF]
          have CK := hide (fun w => CC.out n M w (by omega) (by omega) (by rw [hpM]; exact hve))
          rw [hpM, hhc] at CK
          obtain ⟨X, hX⟩ : ∃ X : ByteArray, s.extract n M = X := ⟨_, rfl⟩
          have hXe : (⟨(e8 c).toArray⟩ : ByteArray) = X := by rw [← hX, str_eq, Lib.extract_data, mk_l, hpM]
          have HXX := hide hXe
          have hXz : X.size = K := by rw [← hXe, size_m, hK]
          rw [hM] at hst hE2 hv2
          have HST := hide hst
          have HCT := hide hctl
          have HEE := hide (And.intro hE2 hv2)
          have HB := hide (show M ≤ s.size ∧ 1 ≤ K ∧ p ≤ M by omega)
          have HA := hide (show (acc ++ e8 c).length ≤ 4 * M by rw [List.length_append, hK]; omega)
          have HEL := hide (show acc.length + X.size ≤ 300000 by rw [hXz]; have := HS.out; omega)
          have HX := hide (show p + (n - p) = n by omega)
          have hMs : (M : Int) ≤ (s.size : Int) := by omega
          have hnM : (n : Int) ≤ (M : Int) := by omega
          have HMM := hide hM
          have HCO := hide hcont
          have HLD := hide hlead
          have hMi : (n : Int) + (K : Int) = (M : Int) := by omega
          have HK4 := hide h8
          have HM2 := hide (show M ≤ s.size by omega)
          clear k3 k4 k5 k6 k7 c1 c3 hl hcp hvr hdn hp hg0 hc38 hc60 hu hdu h8 hK hll hr' hune hu38 hst hctl hE2 hv2 hbyte hcont hlead hpc hM hpM hve hhc hXe hXz hsn
          go_wp2_with fail
          go_loopw [11] (fun vk wz => ∃ k : Nat, vk = .int .i64 k ∧ Hid (1 ≤ k ∧ k ≤ K ∧ wz = wr)) (fun vk _ => 5 - (RowKit.intOf vk).toNat)
          case atStart => exact ⟨1, rfl, hide ⟨Nat.le_refl _, by have := HK4.out; omega, rfl⟩⟩
          case round =>
            obtain ⟨k, rfl, HJ⟩ := hrel
            obtain ⟨j1, j2, j3⟩ := HJ.out
            clear HJ
            subst j3
            obtain ⟨N, hN⟩ : ∃ N, n + k = N := ⟨_, rfl⟩
            have hNi : (n : Int) + (k : Int) = (N : Int) := by omega
            by_cases hk : k < K
            · have hNl : N < s.size := by have := HM2.out; have := HMM.out; omega
              have hNl' : (N : Int) < (s.size : Int) := by omega
              obtain ⟨q1, q2⟩ := HCO.out k (by omega) j1 hk
              have g1 : (128 : Int) ≤ (s[N].toNat : Int) := by subst hN; omega
              have g2 : (s[N].toNat : Int) < 192 := by subst hN; omega
              have hk4 : (k : Int) ≤ 4 := by have := HK4.out; omega
              clear q1 q2
              go_wp2_with fail
              go_roundw
              case rel => exact ⟨k + 1, by go_num, hide ⟨by omega, by omega, by first | rfl | trivial⟩⟩
              case measure => have := HK4.out; simp [RowKit.intOf]; omega
            · obtain rfl : k = K := by omega
              obtain rfl : N = M := by have := HMM.out; omega
              by_cases hNl : N < s.size
              · have hNl' : (N : Int) < (s.size : Int) := by omega
                have hld := HLD.out (by omega)
                by_cases h128 : s[N].toNat < 128
                · have g1 : ¬ (128 : Int) ≤ (s[N].toNat : Int) := by omega
                  clear hld hN
                  cases hct : ctl c
                  · rw [hct] at CK
                    have HR := hide (HST.out hct)
                    clear hct
                    go_wp2_with (first
                      | (go_at_call 45; refine (CK.out _).mono ?_; rintro e w1 ⟨rfl, h1⟩; have H1 := hide h1; clear h1)
                      | (at_builtin; refine Lib.wpList_append_own_string _ rfl _ _ 56 9 rfl w.heap.size 5 i0 Tryd.underlying56 Tryd.underlying9 HI.out HI0.out HI1.out HI2.out _ _ _ rfl (own_below K3.out K4.out H1.out) X rfl ?d1 ?d2 ?d3 ?_))
                    case d1 => have := HEL.out; unfold maxLen; omega
                    case d2 => have := HEL.out; omega
                    case d3 => exact Nat.le_trans K4.out.size H1.out.size
                    intro v3 w3 hown3 hgrow3 _
                    have HB3 := hide (show Below w.heap.size w w3 from (K4.out.trans (H1.out.mono K4.out.size)).grown hgrow3 (Nat.le_trans K4.out.size H1.out.size) (fun k hk => (World.ownsRow.lt K3.out k hk).1))
                    have HO3 := hide (show BRow w3 w.heap.size v3 (acc ++ e8 c) by
                      unfold BRow
                      rw [← HXX.out, strCells_bytes] at hown3
                      rw [List.map_append, List.length_append]
                      rw [size_mk'] at hown3
                      exact hown3)
                    clear hown3 hgrow3
                    go_wp2
                    go_roundw
                    case rel => exact ⟨N, acc ++ e8 c, by first | rfl | go_num, hide ⟨HB.out.2.2, HB.out.1, HA.out, HO3.out, HB3.out, HR.out, HEE.out.1, HEE.out.2⟩⟩
                    case measure => have := HB.out; have := HMM.out; simp [RowKit.intOf]; omega
                  · rw [hct] at CK
                    have hr := HCT.out hct
                    subst hr
                    clear hct
                    go_wp2_with (first | (go_at_call 45; refine (CK.out _).mono ?_; rintro e w1 ⟨rfl, h1⟩; have H1 := hide h1; clear h1))
                    go_ret3
                    exact ⟨K4.out.trans (H1.out.mono K4.out.size), by show _ = Ending.returned (.tuple #[.string ⟨#[]⟩, .int .i64 ((p + (n - p) : Nat) : Int), .bool false]); rw [HX.out]; rfl⟩
                · have g1 : (128 : Int) ≤ (s[N].toNat : Int) := by omega
                  have g2 : ¬ (s[N].toNat : Int) < 192 := by
                    have : 192 ≤ s[N].toNat := by
                      rcases hld with h | h
                      · exfalso; apply h128; subst hN; exact h
                      · subst hN; exact h
                    omega
                  clear hld hN
                  cases hct : ctl c
                  · rw [hct] at CK
                    have HR := hide (HST.out hct)
                    clear hct
                    go_wp2_with (first
                      | (go_at_call 45; refine (CK.out _).mono ?_; rintro e w1 ⟨rfl, h1⟩; have H1 := hide h1; clear h1)
                      | (at_builtin; refine Lib.wpList_append_own_string _ rfl _ _ 56 9 rfl w.heap.size 5 i0 Tryd.underlying56 Tryd.underlying9 HI.out HI0.out HI1.out HI2.out _ _ _ rfl (own_below K3.out K4.out H1.out) X rfl ?d1 ?d2 ?d3 ?_))
                    case d1 => have := HEL.out; unfold maxLen; omega
                    case d2 => have := HEL.out; omega
                    case d3 => exact Nat.le_trans K4.out.size H1.out.size
                    intro v3 w3 hown3 hgrow3 _
                    have HB3 := hide (show Below w.heap.size w w3 from (K4.out.trans (H1.out.mono K4.out.size)).grown hgrow3 (Nat.le_trans K4.out.size H1.out.size) (fun k hk => (World.ownsRow.lt K3.out k hk).1))
                    have HO3 := hide (show BRow w3 w.heap.size v3 (acc ++ e8 c) by
                      unfold BRow
                      rw [← HXX.out, strCells_bytes] at hown3
                      rw [List.map_append, List.length_append]
                      rw [size_mk'] at hown3
                      exact hown3)
                    clear hown3 hgrow3
                    go_wp2
                    go_roundw
                    case rel => exact ⟨N, acc ++ e8 c, by first | rfl | go_num, hide ⟨HB.out.2.2, HB.out.1, HA.out, HO3.out, HB3.out, HR.out, HEE.out.1, HEE.out.2⟩⟩
                    case measure => have := HB.out; have := HMM.out; simp [RowKit.intOf]; omega
                  · rw [hct] at CK
                    have hr := HCT.out hct
                    subst hr
                    clear hct
                    go_wp2_with (first | (go_at_call 45; refine (CK.out _).mono ?_; rintro e w1 ⟨rfl, h1⟩; have H1 := hide h1; clear h1))
                    go_ret3
                    exact ⟨K4.out.trans (H1.out.mono K4.out.size), by show _ = Ending.returned (.tuple #[.string ⟨#[]⟩, .int .i64 ((p + (n - p) : Nat) : Int), .bool false]); rw [HX.out]; rfl⟩
              · have hNl' : ¬ (N : Int) < (s.size : Int) := by omega
                clear hN
                cases hct : ctl c
                · rw [hct] at CK
                  have HR := hide (HST.out hct)
                  clear hct
                  go_wp2_with (first
                    | (go_at_call 45; refine (CK.out _).mono ?_; rintro e w1 ⟨rfl, h1⟩; have H1 := hide h1; clear h1)
                    | (at_builtin; refine Lib.wpList_append_own_string _ rfl _ _ 56 9 rfl w.heap.size 5 i0 Tryd.underlying56 Tryd.underlying9 HI.out HI0.out HI1.out HI2.out _ _ _ rfl (own_below K3.out K4.out H1.out) X rfl ?d1 ?d2 ?d3 ?_))
                  case d1 => have := HEL.out; unfold maxLen; omega
                  case d2 => have := HEL.out; omega
                  case d3 => exact Nat.le_trans K4.out.size H1.out.size
                  intro v3 w3 hown3 hgrow3 _
                  have HB3 := hide (show Below w.heap.size w w3 from (K4.out.trans (H1.out.mono K4.out.size)).grown hgrow3 (Nat.le_trans K4.out.size H1.out.size) (fun k hk => (World.ownsRow.lt K3.out k hk).1))
                  have HO3 := hide (show BRow w3 w.heap.size v3 (acc ++ e8 c) by
                    unfold BRow
                    rw [← HXX.out, strCells_bytes] at hown3
                    rw [List.map_append, List.length_append]
                    rw [size_mk'] at hown3
                    exact hown3)
                  clear hown3 hgrow3
                  go_wp2
                  go_roundw
                  case rel => exact ⟨N, acc ++ e8 c, by first | rfl | go_num, hide ⟨HB.out.2.2, HB.out.1, HA.out, HO3.out, HB3.out, HR.out, HEE.out.1, HEE.out.2⟩⟩
                  case measure => have := HB.out; have := HMM.out; simp [RowKit.intOf]; omega
                · rw [hct] at CK
                  have hr := HCT.out hct
                  subst hr
                  clear hct
                  go_wp2_with (first | (go_at_call 45; refine (CK.out _).mono ?_; rintro e w1 ⟨rfl, h1⟩; have H1 := hide h1; clear h1))
                  go_ret3
                  exact ⟨K4.out.trans (H1.out.mono K4.out.size), by show _ = Ending.returned (.tuple #[.string ⟨#[]⟩, .int .i64 ((p + (n - p) : Nat) : Int), .bool false]); rw [HX.out]; rfl⟩
    · have hlt' : ¬ (n : Int) < (s.size : Int) := by omega
      obtain rfl : n = s.size := by omega
      have hu : upto 60 (s.data.toList.drop s.size) = [] := by rw [List.drop_eq_nil_of_le (by rw [HL.out]; omega)]; rfl
      rw [hu] at k5 k6
      have hr := k5.done
      subst hr
      have hcv := k3.text
      obtain rfl : s.size = E := by simpa using k6
      clear k3 k4 k5 k6 k7 hu
      go_wp2_with fail
      go_ret3
      exact ⟨K4.out, rfl⟩
def atR (l : List UInt8) : Option (List UInt8 × List UInt8 × List UInt8) := match nm l with
  | none => none
  | some (x, r) => if hp [61] (bk r) then (if hp [34] (bk (tp [61] (bk r))) then (match rv (tp [34] (bk (tp [61] (bk r)))) with
      | none => none
      | some (t, q) => some (x, t, q)) else none) else none
def AaR (w : World) (n : Nat) (R : Option (List UInt8 × List UInt8 × List UInt8)) (e : Ending) (w' : World) : Prop := Below w.heap.size w w' ∧ match R with
  | some (x, t, r) => e = .returned (.tuple #[.agg #[.string ⟨x.toArray⟩, .string ⟨t.toArray⟩], .int .i64 ((n - r.length : Nat) : Int), .bool true])
  | none => ∃ x y k, e = .returned (.tuple #[.agg #[.string x, .string y], .int .i64 k, .bool false])
theorem nmL_le (q : List UInt8) : nmL q ≤ q.length ∧ nmL q ≤ 17 := by
  unfold nmL
  have : (q.takeWhile nmB).length ≤ q.length := (List.takeWhile_prefix _).length_le
  split <;> omega
theorem at_hp (s : ByteArray) (n : Nat) (b : UInt8) (q : List UInt8) (hq : s.data.toList.drop n = q) (h : n < s.size) : hp [b] q = (s[n] == b) := by
  rw [← hq, List.drop_eq_getElem_cons (by rw [size_l]; exact h)]
  unfold hp Lib.hasPrefix
  simp only [List.isPrefixOf, Bool.and_true]
  rw [Bool.eq_iff_iff, beq_iff_eq, beq_iff_eq]
  constructor
  · intro h; exact h.symm
  · intro h; exact h.symm
theorem at_hpe (s : ByteArray) (n : Nat) (b : UInt8) (q : List UInt8) (hq : s.data.toList.drop n = q) (h : s.size ≤ n) : hp [b] q = false := by
  rw [← hq, List.drop_eq_nil_of_le (by rw [size_l]; exact h)]; rfl
theorem at_tp (s : ByteArray) (n : Nat) (b : UInt8) (q : List UInt8) (hq : s.data.toList.drop n = q) (h : hp [b] q = true) : s.data.toList.drop (n + 1) = tp [b] q := by
  have := tp_one h
  rw [← List.drop_drop, hq]
  calc q.drop 1 = (b :: tp [b] q).drop 1 := by rw [← this]
    _ = _ := rfl
theorem two_at (w : World) (X : ByteArray) : Blk ((w.alloc (.cells #[.string ⟨#[]⟩, .string ⟨#[]⟩] 47)).alloc (.cells #[.string X, .string ⟨#[]⟩] 47)) w.heap.size #[.string ⟨#[]⟩, .string ⟨#[]⟩] 47 ∧ Blk ((w.alloc (.cells #[.string ⟨#[]⟩, .string ⟨#[]⟩] 47)).alloc (.cells #[.string X, .string ⟨#[]⟩] 47)) (w.heap.size + 1) #[.string X, .string ⟨#[]⟩] 47 ∧ Below w.heap.size w ((w.alloc (.cells #[.string ⟨#[]⟩, .string ⟨#[]⟩] 47)).alloc (.cells #[.string X, .string ⟨#[]⟩] 47)) := by
  have e1 : (w.alloc (.cells #[.string ⟨#[]⟩, .string ⟨#[]⟩] 47)).heap.size = w.heap.size + 1 := by simp
  have b1 := Blk.new (w.alloc (.cells #[.string ⟨#[]⟩, .string ⟨#[]⟩] 47)) #[.string X, .string ⟨#[]⟩] 47
  rw [e1] at b1
  exact ⟨(Blk.new w _ _).below ((Below.refl _ _).alloc (Nat.le_refl _) _), b1, ((Below.refl _ _).alloc (Nat.le_refl _) _).alloc (by simp) _⟩
theorem at_end {w w2 : World} {X0 : ByteArray} (h0 : Blk w2 w.heap.size #[.string ⟨#[]⟩, .string ⟨#[]⟩] 47) (h1 : Blk w2 (w.heap.size + 1) #[.string X0, .string ⟨#[]⟩] 47) (hb : Below w.heap.size w w2) (X Y : ByteArray) :
    Below w.heap.size w (((w2.setCell ⟨w.heap.size + 1, 1, none⟩ (.string Y)).setCell ⟨w.heap.size, 0, none⟩ (.string X)).setCell ⟨w.heap.size, 1, none⟩ (.string Y)) ∧ (((w2.setCell ⟨w.heap.size + 1, 1, none⟩ (.string Y)).setCell ⟨w.heap.size, 0, none⟩ (.string X)).setCell ⟨w.heap.size, 1, none⟩ (.string Y)).cell? ⟨w.heap.size, 0, none⟩ = some (.string X) ∧ (((w2.setCell ⟨w.heap.size + 1, 1, none⟩ (.string Y)).setCell ⟨w.heap.size, 0, none⟩ (.string X)).setCell ⟨w.heap.size, 1, none⟩ (.string Y)).cell? ⟨w.heap.size, 1, none⟩ = some (.string Y) := by
  have k := ((h0.other (b' := w.heap.size + 1) (by omega) 1 (.string Y)).set 0 (.string X)).set 1 (.string Y)
  refine ⟨((hb.setCell (p := ⟨w.heap.size + 1, 1, none⟩) (by simp) _).setCell (p := ⟨w.heap.size, 0, none⟩) (by simp) _).setCell (p := ⟨w.heap.size, 1, none⟩) (by simp) _, ?_, ?_⟩
  · simpa using k.cell 0
  · simpa using k.cell 1
set_option maxHeartbeats 8000000 in
theorem rattr_any (s : ByteArray) (p : Nat) (w : World) (hs : s.size ≤ 65536) (hp' : p ≤ s.size) :
    Calls Tryd.prog 46 #[.string s, .int .i64 (p : Int)] w (AaR w s.size (atR (s.data.toList.drop p))) := by
  have hs' : (s.size : Int) ≤ 65536 := by omega
  have hpi : (p : Int) ≤ (s.size : Int) := by omega
  have hl := size_l s
  have CN := hide (fun w => rname_any s p w (by omega) hp')
  have CB := hide (fun n w h => rblanks_any s n w (by omega) h)
  have CV := hide (fun n w h => rvalue_any s n w hs h)
  have hnm := nmL_nm (s.data.toList.drop p)
  have hnl : nmL (s.data.toList.drop p) ≤ (s.data.toList.drop p).length ∧ nmL (s.data.toList.drop p) ≤ 17 := nmL_le _
  rw [List.length_drop, hl] at hnl
  obtain ⟨n, hn⟩ : ∃ n, nmL (s.data.toList.drop p) = n := ⟨_, rfl⟩
  rw [hn] at CN hnm hnl
  have hni : (n : Int) ≤ 17 := by omega
  unfold atR
  rw [hnm]
  obtain ⟨p1, hp1⟩ : ∃ p1, p + n = p1 := ⟨_, rfl⟩
  have hp1i : (p : Int) + (n : Int) = (p1 : Int) := by omega
  have hp1l : p1 ≤ s.size := by omega
  have hp1l' : (p1 : Int) ≤ (s.size : Int) := by omega
  have hx : s.extract p p1 = ⟨((s.data.toList.drop p).take n).toArray⟩ := by rw [str_eq, Lib.extract_data, mk_l]; congr 1; omega
  have hd1 : (s.data.toList.drop p).drop n = s.data.toList.drop p1 := by rw [List.drop_drop, hp1]
  rw [hd1]
  obtain ⟨X, hX⟩ : ∃ X, (s.data.toList.drop p).take n = X := ⟨_, rfl⟩
  rw [hX] at hx ⊢
  have b0 : (p : Int) ≤ (p1 : Int) := by omega
  have b1 : (0 : Int) ≤ (p : Int) := by omega
  by_cases hok : 1 ≤ n ∧ n ≤ 16
  · rw [if_pos hok]
    have o1 : ¬ (n : Int) < 1 := by omega
    have o2 : ¬ (16 : Int) < (n : Int) := by omega
    have CB1 := hide (fun w => CB.out p1 w hp1l)
    obtain ⟨g1, g2, g3⟩ := bkP_le s.data.toList p1 (by rw [hl]; exact hp1l)
    obtain ⟨p2, hp2⟩ : ∃ p2, bkP s.data.toList p1 = p2 := ⟨_, rfl⟩
    rw [hp2] at g1 g2 g3 CB1
    rw [hl] at g2
    have g2' : (p2 : Int) ≤ (s.size : Int) := by omega
    simp only
    rw [← g3]
    have H1 := hide (And.intro g1 g2)
    obtain ⟨X', hXX⟩ : ∃ X' : ByteArray, (⟨X.toArray⟩ : ByteArray) = X' := ⟨_, rfl⟩
    have HXX := hide hXX
    rw [hXX] at hx
    clear hnm hnl hn hd1 hX hXX CB hp2 CV hs hp' hl
    by_cases c1 : p2 < s.size
    · have c1' : (p2 : Int) < (s.size : Int) := by omega
      have c1d : decide (s.size ≤ p2) = false := decide_eq_false (by omega)
      rw [at_hp s p2 61 _ rfl c1]
      by_cases e61 : s[p2] = 61
      · have f61 : ((s[p2].toNat : Int) != 61) = false := by rw [e61]; rfl
        have hT := at_tp s p2 61 _ rfl (by rw [at_hp s p2 61 _ rfl c1, e61]; rfl)
        rw [if_pos (by rw [e61]; rfl), ← hT]
        obtain ⟨q2, hq2⟩ : ∃ q2, p2 + 1 = q2 := ⟨_, rfl⟩
        have hq2i : (p2 : Int) + 1 = (q2 : Int) := by omega
        have hq2l : q2 ≤ s.size := by omega
        rw [hq2]
        have CB2 := hide (fun w => rblanks_any s q2 w (by omega) hq2l)
        obtain ⟨_, k2, k3⟩ := bkP_le s.data.toList q2 (by rw [size_l]; exact hq2l)
        obtain ⟨p3, hp3⟩ : ∃ p3, bkP s.data.toList q2 = p3 := ⟨_, rfl⟩
        rw [hp3] at k2 k3 CB2
        rw [size_l] at k2
        have k2' : (p3 : Int) ≤ (s.size : Int) := by omega
        rw [← k3]
        clear hT hp3 k3 e61 hq2
        by_cases c3 : p3 < s.size
        · have c3' : (p3 : Int) < (s.size : Int) := by omega
          have c3d : decide (s.size ≤ p3) = false := decide_eq_false (by omega)
          rw [at_hp s p3 34 _ rfl c3]
          by_cases e34 : s[p3] = 34
          · have f34 : ((s[p3].toNat : Int) != 34) = false := by rw [e34]; rfl
            have hT := at_tp s p3 34 _ rfl (by rw [at_hp s p3 34 _ rfl c3, e34]; rfl)
            rw [if_pos (by rw [e34]; rfl), ← hT]
            obtain ⟨q4, hq4⟩ : ∃ q4, p3 + 1 = q4 := ⟨_, rfl⟩
            have hq4i : (p3 : Int) + 1 = (q4 : Int) := by omega
            have hq4l : q4 ≤ s.size := by omega
            have hq4l' : (q4 : Int) ≤ (s.size : Int) := by omega
            rw [hq4]
            have CV4 := fun w => rvalue_any s q4 w (by omega) hq4l
            cases hrv : rv (s.data.toList.drop q4) with
            | none =>
              simp only [hrv] at CV4
              have CV4 := hide (show ∀ w, Calls Tryd.prog 64 #[.string s, .int .i64 (q4 : Int)] w (fun e w' => Below w.heap.size w w' ∧ e = .returned (.tuple #[.string ⟨#[]⟩, .int .i64 0, .bool false])) from CV4)
              clear hT hq4 e34 hrv
              obtain ⟨W0, W1, WB⟩ := two_at w X'
              go_enter Tryd.func46, Tryd.ntmps46
              go_wp2_with (first
                | (go_at_call 43; refine (CN.out _).mono ?_; rintro e w1 ⟨rfl, hw⟩; subst hw)
                | (go_at_call 44; refine (CB1.out _).mono ?_; rintro e w1 ⟨rfl, hw⟩; subst hw; clear CB1)
                | (go_at_call 44; refine (CB2.out _).mono ?_; rintro e w1 ⟨rfl, hw⟩; subst hw)
                | (go_at_call 64; refine (CV4.out _).mono ?_; rintro e w2 ⟨h2, rfl⟩; have A0 := (W0.below h2).cell 0; have A1 := (W0.below h2).cell 1; have B0 := (W1.below h2).cell 0; have B1 := (W1.below h2).cell 1; simp at A0 A1 B0 B1; have A2 := (W0.below h2).frozen 0; have A3 := (W0.below h2).frozen 1; have B2 := (W1.below h2).frozen 0; have B3 := (W1.below h2).frozen 1; have HB := hide (WB.trans (h2.mono WB.size)); have H2 := hide h2; clear h2))
              obtain ⟨FB, f0, f1⟩ := at_end (W0.below H2.out) (W1.below H2.out) HB.out X' ⟨#[]⟩
              generalize (((w2.setCell ⟨w.heap.size + 1, 1, none⟩ (.string ⟨#[]⟩)).setCell ⟨w.heap.size, 0, none⟩ (.string X')).setCell ⟨w.heap.size, 1, none⟩ (.string ⟨#[]⟩)) = wf at FB f0 f1 ⊢
              exact bodyPost_ret (v := .tuple #[.agg #[.string X', .string ⟨#[]⟩], .int .i64 0, .bool false]) (by simp [results, Tryd.results46, go_sem, f0, f1]) rfl ⟨FB, _, _, _, rfl⟩
            | some u =>
              obtain ⟨t, r⟩ := u
              simp only [hrv] at CV4
              have CV4 := hide (show ∀ w, Calls Tryd.prog 64 #[.string s, .int .i64 (q4 : Int)] w (fun e w' => Below w.heap.size w w' ∧ e = .returned (.tuple #[.string ⟨t.toArray⟩, .int .i64 ((s.size - r.length : Nat) : Int), .bool true])) from CV4)
              clear hT hq4 e34 hrv
              obtain ⟨W0, W1, WB⟩ := two_at w X'
              go_enter Tryd.func46, Tryd.ntmps46
              go_wp2_with (first
                | (go_at_call 43; refine (CN.out _).mono ?_; rintro e w1 ⟨rfl, hw⟩; subst hw)
                | (go_at_call 44; refine (CB1.out _).mono ?_; rintro e w1 ⟨rfl, hw⟩; subst hw; clear CB1)
                | (go_at_call 44; refine (CB2.out _).mono ?_; rintro e w1 ⟨rfl, hw⟩; subst hw)
                | (go_at_call 64; refine (CV4.out _).mono ?_; rintro e w2 ⟨h2, rfl⟩; have A0 := (W0.below h2).cell 0; have A1 := (W0.below h2).cell 1; have B0 := (W1.below h2).cell 0; have B1 := (W1.below h2).cell 1; simp at A0 A1 B0 B1; have A2 := (W0.below h2).frozen 0; have A3 := (W0.below h2).frozen 1; have B2 := (W1.below h2).frozen 0; have B3 := (W1.below h2).frozen 1; have HB := hide (WB.trans (h2.mono WB.size)); have H2 := hide h2; clear h2))
              obtain ⟨FB, f0, f1⟩ := at_end (W0.below H2.out) (W1.below H2.out) HB.out X' ⟨t.toArray⟩
              generalize (((w2.setCell ⟨w.heap.size + 1, 1, none⟩ (.string ⟨t.toArray⟩)).setCell ⟨w.heap.size, 0, none⟩ (.string X')).setCell ⟨w.heap.size, 1, none⟩ (.string ⟨t.toArray⟩)) = wf at FB f0 f1 ⊢
              exact bodyPost_ret (v := .tuple #[.agg #[.string X', .string ⟨t.toArray⟩], .int .i64 ((s.size - r.length : Nat) : Int), .bool true]) (by simp [results, Tryd.results46, go_sem, f0, f1]) rfl ⟨FB, by show _ = Ending.returned (.tuple #[.agg #[.string ⟨X.toArray⟩, .string ⟨t.toArray⟩], .int .i64 ((s.size - r.length : Nat) : Int), .bool true]); rw [HXX.out]⟩
          · have f34 : ((s[p3].toNat : Int) != 34) = true := by
              rw [bne_iff_ne]; intro h; apply e34; apply UInt8.toNat_inj.1; show s[p3].toNat = 34; omega
            rw [if_neg (by rw [beq_iff_eq]; exact e34)]
            clear e34
            go_enter Tryd.func46, Tryd.ntmps46
            go_wp2_with (first
              | (go_at_call 43; refine (CN.out _).mono ?_; rintro e w1 ⟨rfl, hw⟩; subst hw)
              | (go_at_call 44; refine (CB1.out _).mono ?_; rintro e w1 ⟨rfl, hw⟩; subst hw; clear CB1)
              | (go_at_call 44; refine (CB2.out _).mono ?_; rintro e w1 ⟨rfl, hw⟩; subst hw))
            exact bodyPost_ret (v := .tuple #[.agg #[.string ⟨#[]⟩, .string ⟨#[]⟩], .int .i64 0, .bool false]) (by simp [results, Tryd.results46, go_sem]) rfl ⟨((Below.refl _ _).alloc (Nat.le_refl _) _).alloc (by simp) _, _, _, _, rfl⟩
        · have c3' : ¬ (p3 : Int) < (s.size : Int) := by omega
          have c3d : decide (s.size ≤ p3) = true := decide_eq_true (by omega)
          rw [at_hpe s p3 34 _ rfl (by omega), if_neg (by simp)]
          go_enter Tryd.func46, Tryd.ntmps46
          go_wp2_with (first
            | (go_at_call 43; refine (CN.out _).mono ?_; rintro e w1 ⟨rfl, hw⟩; subst hw)
            | (go_at_call 44; refine (CB1.out _).mono ?_; rintro e w1 ⟨rfl, hw⟩; subst hw; clear CB1)
            | (go_at_call 44; refine (CB2.out _).mono ?_; rintro e w1 ⟨rfl, hw⟩; subst hw))
          exact bodyPost_ret (v := .tuple #[.agg #[.string ⟨#[]⟩, .string ⟨#[]⟩], .int .i64 0, .bool false]) (by simp [results, Tryd.results46, go_sem]) rfl ⟨((Below.refl _ _).alloc (Nat.le_refl _) _).alloc (by simp) _, _, _, _, rfl⟩
      · have f61 : ((s[p2].toNat : Int) != 61) = true := by
          rw [bne_iff_ne]; intro h; apply e61; apply UInt8.toNat_inj.1; show s[p2].toNat = 61; omega
        rw [if_neg (by rw [beq_iff_eq]; exact e61)]
        clear e61
        go_enter Tryd.func46, Tryd.ntmps46
        go_wp2_with (first
          | (go_at_call 43; refine (CN.out _).mono ?_; rintro e w1 ⟨rfl, hw⟩; subst hw)
          | (go_at_call 44; refine (CB1.out _).mono ?_; rintro e w1 ⟨rfl, hw⟩; subst hw; clear CB1))
        exact bodyPost_ret (v := .tuple #[.agg #[.string ⟨#[]⟩, .string ⟨#[]⟩], .int .i64 0, .bool false]) (by simp [results, Tryd.results46, go_sem]) rfl ⟨((Below.refl _ _).alloc (Nat.le_refl _) _).alloc (by simp) _, _, _, _, rfl⟩
    · have c1' : ¬ (p2 : Int) < (s.size : Int) := by omega
      have c1d : decide (s.size ≤ p2) = true := decide_eq_true (by omega)
      rw [at_hpe s p2 61 _ rfl (by omega), if_neg (by simp)]
      go_enter Tryd.func46, Tryd.ntmps46
      go_wp2_with (first
        | (go_at_call 43; refine (CN.out _).mono ?_; rintro e w1 ⟨rfl, hw⟩; subst hw)
        | (go_at_call 44; refine (CB1.out _).mono ?_; rintro e w1 ⟨rfl, hw⟩; subst hw; clear CB1))
      exact bodyPost_ret (v := .tuple #[.agg #[.string ⟨#[]⟩, .string ⟨#[]⟩], .int .i64 0, .bool false]) (by simp [results, Tryd.results46, go_sem]) rfl ⟨((Below.refl _ _).alloc (Nat.le_refl _) _).alloc (by simp) _, _, _, _, rfl⟩
  · rw [if_neg hok]
    clear hnm hn hd1 hX CB CV hs hp' hl
    by_cases o1 : n < 1
    · have o1' : (n : Int) < 1 := by omega
      go_enter Tryd.func46, Tryd.ntmps46
      go_wp2_with (first
        | (go_at_call 43; refine (CN.out _).mono ?_; rintro e w1 ⟨rfl, hw⟩; subst hw))
      exact bodyPost_ret (v := .tuple #[.agg #[.string ⟨#[]⟩, .string ⟨#[]⟩], .int .i64 0, .bool false]) (by simp [results, Tryd.results46, go_sem]) rfl ⟨(Below.refl _ _).alloc (Nat.le_refl _) _, _, _, _, rfl⟩
    · have o1' : ¬ (n : Int) < 1 := by omega
      have o2' : (16 : Int) < (n : Int) := by omega
      go_enter Tryd.func46, Tryd.ntmps46
      go_wp2_with (first
        | (go_at_call 43; refine (CN.out _).mono ?_; rintro e w1 ⟨rfl, hw⟩; subst hw))
      exact bodyPost_ret (v := .tuple #[.agg #[.string ⟨#[]⟩, .string ⟨#[]⟩], .int .i64 0, .bool false]) (by simp [results, Tryd.results46, go_sem]) rfl ⟨(Below.refl _ _).alloc (Nat.le_refl _) _, _, _, _, rfl⟩
def plain (b : UInt8) : Prop := 33 ≤ b.toNat ∧ b.toNat < 127 ∧ b ≠ 34 ∧ b ≠ 60
theorem entW_plain {w : List UInt8} {c : Nat} (h : entW w = some c) : ∀ b ∈ w, plain b := by
  have hn := entW_no h
  intro b hb
  have h1 : b ≠ 34 := fun e => hn.2 (e ▸ hb)
  have h2 : b ≠ 60 := fun e => hn.1 (e ▸ hb)
  suffices hs : 33 ≤ b.toNat ∧ b.toNat < 127 from ⟨hs.1, hs.2, h1, h2⟩
  unfold entW at h
  have fin : ∀ ws : List UInt8, w = ws → (ws.all fun x => decide (33 ≤ x.toNat ∧ x.toNat < 127)) = true → 33 ≤ b.toNat ∧ b.toNat < 127 := fun ws e ha => by
    rw [e] at hb
    simpa using List.all_eq_true.1 ha b hb
  split at h
  · rename_i h1; exact fin _ h1 (by decide)
  · split at h
    · rename_i h1; exact fin _ h1 (by decide)
    · split at h
      · rename_i h1; exact fin _ h1 (by decide)
      · split at h
        · rename_i h1; exact fin _ h1 (by decide)
        · split at h
          · rename_i h35
            unfold numW at h
            split at h
            · simp at h
            · rename_i hn
              simp only [not_or, Bool.not_eq_false] at hn
              have hall := hn.2.2.2.1
              cases w with
              | nil => simp at hb
              | cons x r =>
                have hx : x = 35 := by simpa using h35
                rcases List.mem_cons.1 hb with h3 | h3
                · rw [h3, hx]; decide
                · have := List.all_eq_true.1 hall b (by simpa using h3)
                  simp only [dgB, decide_eq_true_eq] at this
                  omega
          · simp at h
theorem ent_plain {r : List UInt8} {c n : Nat} (h : ent (38 :: r) = some (c, n)) : ∀ b ∈ (38 :: r).take n, plain b := by
  unfold ent at h
  rw [show (38 :: r).drop 1 = r from rfl] at h
  split at h
  · simp at h
  · rename_i hne
    cases hq : entW (upto 59 r) with
    | none => rw [hq] at h; simp at h
    | some x =>
      rw [hq] at h
      simp only [Option.map_some, Option.some.injEq, Prod.mk.injEq] at h
      obtain ⟨rfl, rfl⟩ := h
      have hm : (59 : UInt8) ∈ r := by
        by_cases hm : (59 : UInt8) ∈ r
        · exact hm
        · exact absurd (by rw [upto_all hm]) hne
      have hg := upto_get hm
      have hlt := (List.getElem?_eq_some_iff.1 hg).1
      intro b hb
      rw [show (upto 59 r).length + 2 = ((upto 59 r).length + 1) + 1 by omega, List.take_succ_cons, List.take_add_one, hg, upto_take] at hb
      simp only [List.mem_cons, List.mem_append, Option.toList_some, List.not_mem_nil, or_false] at hb
      rcases hb with rfl | hb | rfl
      · exact ⟨by decide, by decide, by decide, by decide⟩
      · exact entW_plain hq b hb
      · exact ⟨by decide, by decide, by decide, by decide⟩
theorem hc_plain : ∀ (t r : List UInt8), (∀ b ∈ t, plain b) → hc (t ++ r) = hc r
  | [], r, _ => rfl
  | b :: t, r, h => by
    have hb := h b (by simp)
    have h1 : b.toNat < 128 := by have := hb.2.1; omega
    have h2 : e8 b.toNat = [b] := by
      rw [u8_1 h1]; congr 1
      apply UInt8.toNat_inj.1; exact bt_nat _ (by omega)
    have h3 := hc_cons b.toNat (t ++ r) (isP_t.2 (by omega))
    rw [h2] at h3
    have h4 : ctl b.toNat = false := by unfold ctl; have := hb.1; have := hb.2.1; simp; omega
    rw [show (b :: t) ++ r = [b] ++ (t ++ r) from rfl, h3, h4, hc_plain t r (fun x hx => h x (by simp [hx]))]
    rfl
theorem up_app {d : UInt8} : ∀ (t r : List UInt8), d ∉ t → upto d (t ++ r) = t ++ upto d r
  | [], r, _ => rfl
  | b :: t, r, h => by
    simp only [List.mem_cons, not_or] at h
    have := up_app t r h.2
    unfold upto at *
    rw [List.cons_append, List.takeWhile_cons, if_pos (by simpa using Ne.symm h.1), this]; rfl
theorem RV.many : ∀ (t : List UInt8) {r acc : List UInt8} {R : Option (List UInt8 × List UInt8)}, RV (t ++ r) acc R → (∀ b ∈ t, b ≠ 34 ∧ b ≠ 60 ∧ b ≠ 38) → RV r (acc ++ t) R
  | [], r, acc, R, h, _ => by rw [List.append_nil]; exact h
  | b :: t, r, acc, R, h, hb => by
    have h1 := hb b (by simp)
    have h2 := RV.many t (RV.on h h1.1 h1.2.1 h1.2.2) (fun x hx => hb x (by simp [hx]))
    rw [List.append_assoc] at h2
    exact h2
def VQ (l : List UInt8) (R : Option (List UInt8 × List UInt8)) (Q : Except Nat (List UInt8)) : Prop := match R with
  | none => ¬ (34 ∈ l ∧ 60 ∉ upto 34 l ∧ ∃ t, Q = .ok t)
  | some (t, r) => 34 ∈ l ∧ 60 ∉ upto 34 l ∧ r = l.drop ((upto 34 l).length + 1) ∧ (if hc (upto 34 l) = true then ∃ q, Q = .error q else Q = .ok t)
theorem VQ.pre {t r : List UInt8} {R : Option (List UInt8 × List UInt8)} {Q : Except Nat (List UInt8)} (h : VQ r R Q) (h34 : 34 ∉ t) (h60 : 60 ∉ t) (hh : hc (t ++ upto 34 r) = hc (upto 34 r)) : VQ (t ++ r) R Q := by
  have hm : (34 : UInt8) ∈ t ++ r ↔ 34 ∈ r := by rw [List.mem_append]; exact ⟨fun x => x.resolve_left h34, Or.inr⟩
  have hu := up_app t r h34
  have hm6 : (60 : UInt8) ∈ t ++ upto 34 r ↔ 60 ∈ upto 34 r := by rw [List.mem_append]; exact ⟨fun x => x.resolve_left h60, Or.inr⟩
  unfold VQ at *
  cases R with
  | none => simp only at *; rw [hm, hu, hm6]; exact h
  | some p =>
    obtain ⟨y, z⟩ := p
    simp only at *
    rw [hm, hu, hm6, hh, List.length_append, Nat.add_assoc, List.drop_length_add_append]
    exact h
theorem VQ.bad {t r : List UInt8} {R : Option (List UInt8 × List UInt8)} {Q : Except Nat (List UInt8)} {q : Nat} (h : VQ r R Q) (h34 : 34 ∉ t) (h60 : 60 ∉ t) (hh : hc (t ++ upto 34 r) = true) : VQ (t ++ r) R (.error q) := by
  have hm : (34 : UInt8) ∈ t ++ r ↔ 34 ∈ r := by rw [List.mem_append]; exact ⟨fun x => x.resolve_left h34, Or.inr⟩
  have hu := up_app t r h34
  have hm6 : (60 : UInt8) ∈ t ++ upto 34 r ↔ 60 ∈ upto 34 r := by rw [List.mem_append]; exact ⟨fun x => x.resolve_left h60, Or.inr⟩
  unfold VQ at *
  cases R with
  | none => simp only at *; rintro ⟨_, _, t, ht⟩; exact absurd ht (by simp)
  | some p =>
    obtain ⟨y, z⟩ := p
    simp only at *
    rw [hm, hu, hm6, hh, List.length_append, Nat.add_assoc, List.drop_length_add_append]
    exact ⟨h.1, h.2.1, h.2.2.1, by rw [if_pos rfl]; exact ⟨q, rfl⟩⟩
theorem rv_vq : ∀ (n : Nat) (l : List UInt8), l.length ≤ n → Vt l → ∀ {acc : List UInt8} {p : Nat} {R : Option (List UInt8 × List UInt8)} {Q : Except Nat (List UInt8)}, RV l acc R → PL (upto 34 l) p acc Q → VQ l R Q := by
  intro n
  induction n with
  | zero =>
    intro l hl hv acc p R Q h k
    obtain rfl : l = [] := List.length_eq_zero_iff.1 (by omega)
    rw [h.nil]
    rintro ⟨h1, _⟩
    simp at h1
  | succ n ih =>
    intro l hl hv acc p R Q h k
    by_cases h0 : l = []
    · subst h0
      rw [h.nil]
      rintro ⟨h1, _⟩
      simp at h1
    obtain ⟨c, r, rfl, hcp, hvr, hdn⟩ := hv.step h0
    have hp := isP_t.1 hcp
    have hne := e8_ne c
    have hlen : r.length ≤ n := by
      have := List.length_pos_iff.2 hne
      rw [List.length_append] at hl; omega
    by_cases c34 : c = 34
    · subst c34
      rw [show e8 34 = [34] from rfl] at *
      have hR := RV.q h
      subst hR
      have hu : upto 34 ([34] ++ r) = [] := rfl
      rw [hu] at k
      have hQ := k.done
      subst hQ
      unfold VQ
      simp only
      rw [hu]
      refine ⟨by simp, by simp, rfl, ?_⟩
      rw [if_neg (by decide)]
      trivial
    by_cases c60 : c = 60
    · subst c60
      rw [show e8 60 = [60] from rfl] at *
      have hR := RV.lt h
      subst hR
      rintro ⟨_, h6, _⟩
      apply h6
      rw [show upto 34 ([60] ++ r) = 60 :: upto 34 r from rfl]
      simp
    by_cases c38 : c = 38
    · subst c38
      rw [show e8 38 = [38] from rfl] at *
      rw [show upto 34 ([38] ++ r) = 38 :: upto 34 r from rfl] at k
      have hcut := ent_cut 34 (Or.inr rfl) r
      cases he : ent (38 :: r) with
      | none =>
        have hR := RV.no h he
        subst hR
        have hQ := k.none (by simp) rfl (by rw [hcut]; exact he)
        subst hQ
        rintro ⟨_, _, t, ht⟩
        exact absurd ht (by simp)
      | some u =>
        obtain ⟨d, m⟩ := u
        have h2 := RV.en h he
        have k2 := k.ent (by simp) rfl (by rw [hcut]; exact he)
        have hb := ent_bd (by rw [hcut]; exact he)
        have hb2 := ent_bd he
        have hv2 := ent_vt (l := 38 :: r) hv he
        have hdr : (38 :: upto 34 r).drop m = upto 34 ((38 :: r).drop m) := by
          rw [← show upto 34 (38 :: r) = 38 :: upto 34 r from rfl]
          exact upto_drop m _ hb.2
        rw [hdr] at k2
        have i := ih _ (by rw [List.length_drop]; rw [List.length_append] at hl; simp only [List.length_cons, List.length_nil] at *; omega) hv2 h2 k2
        have hpl := ent_plain he
        have := i.pre (t := (38 :: r).take m) (fun hm => (hpl _ hm).2.2.1 rfl) (fun hm => (hpl _ hm).2.2.2 rfl) (hc_plain _ _ hpl)
        rw [List.take_append_drop] at this
        exact this
    have hall : ∀ b ∈ e8 c, b ≠ 34 ∧ b ≠ 60 ∧ b ≠ 38 := by
      intro b hb
      by_cases h1 : c < 128
      · rw [u8_1 h1] at hb
        simp only [List.mem_singleton] at hb
        have hn := bt_nat c (by omega)
        rw [← hb] at hn
        refine ⟨?_, ?_, ?_⟩ <;> (rintro rfl; simp at hn; omega)
      · have := e8_high (c := c) (by omega) (by omega) _ hb
        refine ⟨?_, ?_, ?_⟩ <;> (rintro rfl; exact absurd this (by decide))
    have n34 : (34 : UInt8) ∉ e8 c := fun hm => (hall _ hm).1 rfl
    have n60 : (60 : UInt8) ∉ e8 c := fun hm => (hall _ hm).2.1 rfl
    have h2 := RV.many _ h hall
    have hu := up_app (e8 c) r n34
    rw [hu] at k
    have hd := dN_e8 c (upto 34 r) hcp
    have g38 : (e8 c ++ upto 34 r).getD 0 0 ≠ 38 := fun h => c38 ((e8_first c hcp 38 (by decide) _).1 h)
    have une : e8 c ++ upto 34 r ≠ [] := by simp [hne]
    have hcc := hc_cons c (upto 34 r) hcp
    cases hct : ctl c with
    | true =>
      have hQ := k.ctl une g38 (by rw [hd]; exact hct)
      subst hQ
      have k3 : PL (upto 34 r) 0 (acc ++ e8 c) (plF (upto 34 r).length (upto 34 r) 0 (acc ++ e8 c)) := ⟨_, Nat.le_refl _, rfl⟩
      exact (ih r hlen hvr h2 k3).bad n34 n60 (by rw [hcc, hct]; rfl)
    | false =>
      have k2 := k.step une g38 (by rw [hd]; exact hct)
      rw [hd] at k2
      simp only [List.drop_left', List.take_left'] at k2
      exact (ih r hlen hvr h2 k2).pre n34 n60 (by rw [hcc, hct]; rfl)
theorem rv_va {l : List UInt8} (hv : Vt l) : va l = match rv l with
  | none => none
  | some (t, r) => if hc (l.take (l.length - r.length)) = true then none else some (t, r) := by
  have h := rv_vq _ l (Nat.le_refl _) hv (RV.start l) (PL.start (upto 34 l))
  unfold va
  cases hr : rv l with
  | none =>
    rw [hr] at h
    simp only
    split
    · rename_i h34
      split
      · rfl
      · rename_i h60
        cases hp : pl (upto 34 l) with
        | error q => rfl
        | ok t => exact absurd ⟨h34, h60, t, hp⟩ h
    · rfl
  | some u =>
    obtain ⟨t, r⟩ := u
    rw [hr] at h
    obtain ⟨h34, h60, rfl, h4⟩ := h
    simp only
    rw [if_pos h34, if_neg h60]
    have hlt := upto_lt h34
    have hg := upto_get h34
    have ht : l.take (l.length - (l.drop ((upto 34 l).length + 1)).length) = upto 34 l ++ [34] := by
      rw [List.length_drop, show l.length - (l.length - ((upto 34 l).length + 1)) = (upto 34 l).length + 1 by omega, List.take_add_one, hg, upto_take]
      rfl
    rw [ht]
    have hca : hc (upto 34 l ++ [34]) = hc (upto 34 l) := by
      have hvu := (vt_split (b := 34) (by decide) hv).1
      generalize upto 34 l = z at hvu
      induction hvu with
      | nil => decide
      | cons c z hcp hz ih => rw [List.append_assoc, hc_cons c _ hcp, hc_cons c _ hcp, ih]
    rw [hca]
    split at h4
    · rename_i hh
      obtain ⟨q, hq⟩ := h4
      rw [if_pos hh, hq]
    · rename_i hh
      rw [if_neg hh, h4]
end Go.Proofs.YtpmdekhjodhdmaaDoor.K17
