/-
  The law MarksPlaces.
-/
import Derived.Test.YtpmdekhjodhdmaaDoorK17Pp
import Derived.Test.YtpmdekhjodhdmaaDoorK17Y
import Derived.Test.YtpmdekhjodhdmaaDoorK17Wk
import Derived.Test.YtpmdekhjodhdmaaDoorK17Glo
import Derived.Test.YtpmdekhjodhdmaaDoorU4Glo
namespace Go.Proofs.YtpmdekhjodhdmaaDoor.K17
open Go.RowKit Go.Proofs.YtpmdekhjodhdmaaDoor
open Go.Lib
set_option linter.unusedVariables false
set_option linter.unusedSimpArgs false
set_option maxRecDepth 8000

theorem scR_ok {l : List UInt8} (h : (scR l).2.2 = 0) : Vt l ∧ scV l = .ok (scR l).1 ∧ scR l = ((scR l).1, 0, 0) := by
  unfold scR at h ⊢
  split at h
  · rename_i hE
    rw [if_pos hE]
    refine ⟨(rd_vt l).2.1 hE, ?_⟩
    cases hs : scV l with
    | ok ts => exact ⟨rfl, rfl⟩
    | error q => rw [hs] at h; simp at h
  · simp at h
theorem Chain.len {l : List UInt8} {p : Nat} {ts : List Tk} (h : Chain l p ts) : p + ts.length ≤ l.length := by
  induction h with
  | nil => simp
  | cons p n t ts _ _ h1 h2 _ _ _ ih => rw [List.length_cons]; omega
theorem scV_len {l : List UInt8} {ts : List Tk} (hv : Vt l) (h : scV l = .ok ts) : ts.length ≤ l.length := by
  unfold scV at h
  obtain ⟨us, e1, e2⟩ := scF_chain l l.length 0 [] ts (by omega) (by omega) (by simpa using hv) (by simpa using h)
  rw [List.nil_append] at e1
  subst e1
  have := e2.len
  omega
/- one of a list of tokens -/
theorem TLs.one {w : World} {b o : Nat} {ts : List Tk} (h : TLs w (some ⟨b, o, none⟩) ts) (k : Nat) (hk : k < ts.length) : TLs w (some ⟨b, o + k * 5, none⟩) [ts.getD k tk0.1] := by
  rcases h with h | ⟨b', o', he, hb, hc⟩
  · rw [h] at hk; simp at hk
  · injection he with he
    injection he with e1 e2 _
    subst e1; subst e2
    refine Or.inr ⟨b, o + k * 5, rfl, hb, fun i hi => ?_⟩
    obtain rfl : i = 0 := by simpa using hi
    obtain ⟨aa, ac, q⟩ := hc k hk
    refine ⟨aa, ac, ?_⟩
    simpa using q
theorem alike_one (t : Tk) (a : Nat) : Alike [{ t with a := a }] [t] := by unfold Alike noA; rfl
set_option maxHeartbeats 4000000 in
theorem places_walk (s : ByteArray) (w : World) (hg : Glo w) (hm : MX w) (hz : s.size ≤ maxLen) : Calls Tryd.prog 8 #[.string s] w fun e w' => e = .returned (.bool true) ∧ Below w.heap.size w w' := by
  have hz' : (s.size : Int) ≤ 9223372036854775807 := by unfold maxLen at hz; omega
  have CW := hide (fun w' (h : Below w.heap.size w w') => wakes_any w' (hg.below h) (hm.below h))
  by_cases h3 : s.size ≤ 3000
  · have h3' : ¬ (3000 : Int) < (s.size : Int) := by omega
    have hs' : (s.size : Int) ≤ 3000 := by omega
    have CS := scan_any s w hg hm (by omega)
    have CZ := hide (fun x w' (h : Below w.heap.size w w') (hx : x.size ≤ 3000) => scan_any x w' (hg.below h) (hm.below h) (by omega))
    have hl : s.data.toList.length = s.size := size_l s
    have hok := scR_ok (l := s.data.toList)
    obtain ⟨⟨ts, P, E⟩, hR⟩ : ∃ R, scR s.data.toList = R := ⟨_, rfl⟩
    rw [hR] at CS hok
    have CS := hide CS
    by_cases hE : E = 0
    · subst hE
      obtain ⟨hv, hsc, he⟩ := hok rfl
      injection he with _ he
      injection he with he _
      subst he
      obtain ⟨hemp, hpl⟩ := scV_places hv hsc
      obtain ⟨n, hn⟩ : ∃ n, ts.length = n := ⟨_, rfl⟩
      have hn6 : (n : Int) ≤ 3000 := by have : ts.length ≤ _ := scV_len hv hsc; omega
      have HPL := hide hpl
      have HEMP := hide hemp
      have HN := hide hn
      have HS3 := hide h3
      have HSL := hide hl
      clear hg hm hz hok hR hv hsc hemp hpl h3 hl
      go_enter Tryd.func8, Tryd.ntmps8
      go_wp2_with (first | (go_at_call 10; refine CS.out.mono ?_; rintro e w1 ⟨v, rfl, h1, h2⟩; obtain ⟨a, c, rfl, hL, hc1, hc2⟩ := h1.lst; rw [hn] at hc1 ⊢; have HL := hide hL; have H2 := hide h2; have HC := hide (And.intro hc1 hc2); clear h1 h2 hL hc1 hc2))
      go_loopw [6] (fun vi wr => ∃ k : Nat, vi = .int .i64 k ∧ Hid (k ≤ n ∧ Below w.heap.size w wr ∧ TLs wr a ts)) (fun vi _ => n - (RowKit.intOf vi).toNat)
      case atStart => exact ⟨0, rfl, hide ⟨by omega, H2.out, HL.out⟩⟩
      case round =>
        obtain ⟨k, rfl, HK⟩ := hrel
        obtain ⟨k1, k2, k3⟩ := HK.out
        clear HK H2 HL CS
        by_cases hlt : k < n
        · have hlt' : (k : Int) < (n : Int) := by omega
          obtain ⟨p, e, hp, hnx, hla, h0⟩ := HPL.out k (by rw [HN.out]; exact hlt)
          have P1 := hp.lt
          have P2 := hp.le
          have PA := hp.a
          have HSC := hide hp.sc
          rw [HSL.out] at P2
          have p1' : (p : Int) < (e : Int) := by omega
          have p2' : (e : Int) ≤ (s.size : Int) := by omega
          have HXX := hide (show (s.extract p e).data.toList = (s.data.toList.drop p).take (e - p) by rw [Lib.extract_data])
          have HZX := hide (show (s.extract p e).size ≤ 3000 by rw [ByteArray.size_extract]; have := HS3.out; omega)
          have hkc : (k : Int) < (c : Int) := by have := HC.out.1; omega
          have hkc2 : (k : Int) + 1 ≤ (c : Int) := by omega
          have hcc : (c : Int) ≤ 9223372036854775807 := by have := HC.out.2; omega
          have k3' := k3
          rcases k3' with hh | ⟨b, o, rfl, hb, hc⟩
          · have := HN.out; rw [hh] at this; simp at this; omega
          obtain ⟨_, _, _, _, _, _, _, _, q4⟩ := hc k (by rw [HN.out]; exact hlt)
          rw [PA] at q4
          have K2 := hide k2
          have K3 := hide k3
          by_cases hlt2 : k + 1 < n
          · have hlt2' : (k : Int) + 1 < (n : Int) := by omega
            obtain ⟨_, _, _, _, _, _, _, _, r4⟩ := hc (k + 1) (by rw [HN.out]; exact hlt2)
            have hnx := hnx (by rw [HN.out]; exact hlt2)
            rw [hnx] at r4
            clear hc k2 k3 hp hla hnx
            by_cases hk : k = 0
            · have hp0 := h0 hk
              subst hk
              subst hp0
              simp at q4 r4
              clear h0
              go_wp2_with (first
                | (go_at_call 10; refine (CZ.out _ _ K2.out HZX.out).mono ?_; rw [HXX.out, HSC.out]; rintro e1 w2 ⟨v, rfl, h1, h2⟩; obtain ⟨a1, c1, rfl, hL, hc1, hc2⟩ := h1.lst; have HL1 := hide hL; have HB2 := hide h2; have HL2 := hide ((TLs.one K3.out 0 (by rw [HN.out]; exact hlt)).below h2); clear h1 h2 hL hc1 hc2)
                | (go_at_call 19; refine (same_any a1 _ c1 _ 1 _ _ _ rfl (by decide) HL1.out (by simpa using HL2.out) (alike_one _ 0)).mono ?_; rintro e1 w3 ⟨rfl, h3⟩; have HB3 := hide h3; clear h3))
              go_roundw
              case rel => exact ⟨0 + 1, by go_num, hide ⟨by omega, K2.out.trans ((HB2.out.trans (HB3.out.mono HB2.out.size)).mono K2.out.size), (K3.out.below HB2.out).below HB3.out⟩⟩
              case measure => simp [RowKit.intOf]; omega
            · have hk0 : ((k : Int) == 0) = false := by rw [beq_eq_false_iff_ne]; omega
              have b0 : (0 : Int) ≤ (p : Int) := by omega
              have b1 : (p : Int) ≤ (e : Int) := by omega
              have b2 : (k : Int) ≤ (k : Int) + 1 := by omega
              have b3 : (0 : Int) ≤ (k : Int) := by omega
              clear h0
              go_wp2_with (first
                | (go_at_call 10; refine (CZ.out _ _ K2.out HZX.out).mono ?_; rw [HXX.out, HSC.out]; rintro e1 w2 ⟨v, rfl, h1, h2⟩; obtain ⟨a1, c1, rfl, hL, hc1, hc2⟩ := h1.lst; have HL1 := hide hL; have HB2 := hide h2; have HL2 := hide ((TLs.one K3.out k (by rw [HN.out]; exact hlt)).below h2); clear h1 h2 hL hc1 hc2)
                | (go_at_call 19; refine (same_any a1 _ c1 _ 1 _ _ _ rfl (by decide) HL1.out (by simpa using HL2.out) (alike_one _ 0)).mono ?_; rintro e1 w3 ⟨rfl, h3⟩; have HB3 := hide h3; clear h3))
              go_roundw
              case rel => exact ⟨k + 1, by go_num, hide ⟨by omega, K2.out.trans ((HB2.out.trans (HB3.out.mono HB2.out.size)).mono K2.out.size), (K3.out.below HB2.out).below HB3.out⟩⟩
              case measure => simp [RowKit.intOf]; omega
          · have hlt2' : decide ((k : Int) + 1 < (n : Int)) = false := decide_eq_false (by omega)
            have HLT2 := hide hlt2
            clear hlt2
            have hla := hla (by rw [HN.out]; exact HLT2.out)
            rw [HSL.out] at hla
            subst hla
            clear hc k2 k3 hp hnx
            by_cases hk : k = 0
            · have hp0 := h0 hk
              have hk0 : ((k : Int) == 0) = true := by rw [beq_iff_eq]; omega
              subst hp0
              simp at q4
              have hes : s.extract 0 s.size = s := by
                rw [str_eq, Lib.extract_data, List.drop_zero, List.take_of_length_le (by rw [HSL.out]; omega)]
              rw [hes] at HXX HZX
              clear hes
              have b0 : (0 : Int) < (s.size : Int) := by omega
              clear p1' p2'
              have hne : ¬ s = ByteArray.empty := by intro h; rw [h] at P1; exact absurd P1 (by decide)
              have b1 : (0 : Int) ≤ (s.size : Int) := by omega
              have b2 : (k : Int) ≤ (k : Int) + 1 := by omega
              have b3 : (0 : Int) ≤ (k : Int) := by omega
              clear h0 hk
              go_wp2_with (first
                | (go_at_call 10; refine (CZ.out _ _ K2.out HZX.out).mono ?_; rw [HXX.out, HSC.out]; rintro e1 w2 ⟨v, rfl, h1, h2⟩; obtain ⟨a1, c1, rfl, hL, hc1, hc2⟩ := h1.lst; have HL1 := hide hL; have HB2 := hide h2; have HL2 := hide ((TLs.one K3.out k (by rw [HN.out]; exact hlt)).below h2); clear h1 h2 hL hc1 hc2)
                | (go_at_call 19; refine (same_any a1 _ c1 _ 1 _ _ _ rfl (by decide) HL1.out (by simpa using HL2.out) (alike_one _ 0)).mono ?_; rintro e1 w3 ⟨rfl, h3⟩; have HB3 := hide h3; clear h3))
              go_roundw
              case rel => exact ⟨k + 1, by go_num, hide ⟨by omega, K2.out.trans ((HB2.out.trans (HB3.out.mono HB2.out.size)).mono K2.out.size), (K3.out.below HB2.out).below HB3.out⟩⟩
              case measure => simp [RowKit.intOf]; omega
            · have hk0 : ((k : Int) == 0) = false := by rw [beq_eq_false_iff_ne]; omega
              have b0 : (0 : Int) ≤ (p : Int) := by omega
              have b1 : (p : Int) ≤ (s.size : Int) := by omega
              have b2 : (k : Int) ≤ (k : Int) + 1 := by omega
              have b3 : (0 : Int) ≤ (k : Int) := by omega
              clear h0
              go_wp2_with (first
                | (go_at_call 10; refine (CZ.out _ _ K2.out HZX.out).mono ?_; rw [HXX.out, HSC.out]; rintro e1 w2 ⟨v, rfl, h1, h2⟩; obtain ⟨a1, c1, rfl, hL, hc1, hc2⟩ := h1.lst; have HL1 := hide hL; have HB2 := hide h2; have HL2 := hide ((TLs.one K3.out k (by rw [HN.out]; exact hlt)).below h2); clear h1 h2 hL hc1 hc2)
                | (go_at_call 19; refine (same_any a1 _ c1 _ 1 _ _ _ rfl (by decide) HL1.out (by simpa using HL2.out) (alike_one _ 0)).mono ?_; rintro e1 w3 ⟨rfl, h3⟩; have HB3 := hide h3; clear h3))
              go_roundw
              case rel => exact ⟨k + 1, by go_num, hide ⟨by omega, K2.out.trans ((HB2.out.trans (HB3.out.mono HB2.out.size)).mono K2.out.size), (K3.out.below HB2.out).below HB3.out⟩⟩
              case measure => simp [RowKit.intOf]; omega
        · have hlt' : ¬ (k : Int) < (n : Int) := by omega
          obtain rfl : k = n := by omega
          have CW2 := hide (CW.out wr k2)
          have K2 := hide k2
          by_cases hn0 : k = 0
          · have hs0 : s.size = 0 := by
              have := HEMP.out (List.length_eq_zero_iff.1 (by rw [HN.out]; exact hn0))
              rw [← HSL.out, this]; rfl
            obtain rfl := emp_l hs0
            subst hn0
            clear k3 k2
            go_wp2_with (go_at_call 9; refine CW2.out.mono ?_; rintro e w4 ⟨rfl, hb4⟩)
            go_ret
            exact ⟨rfl, K2.out.trans (hb4.mono K2.out.size)⟩
          · have hk0 : (0 : Int) < (k : Int) := by omega
            clear k3 k2
            go_wp2_with (go_at_call 9; refine CW2.out.mono ?_; rintro e w4 ⟨rfl, hb4⟩)
            go_ret
            exact ⟨rfl, K2.out.trans (hb4.mono K2.out.size)⟩
    · have hE' : ((E : Int) == 0) = false := by rw [beq_eq_false_iff_ne]; exact hE
      clear hg hm hz hok h3 hl
      go_enter Tryd.func8, Tryd.ntmps8
      go_wp2_with (first | (go_at_call 10; refine CS.out.mono ?_; rintro e w1 ⟨v, rfl, h1, h2⟩; obtain ⟨a, c, rfl, hL, hc1, hc2⟩ := h1.lst; have H2 := hide h2; clear h1 h2 hL hc1 hc2) | (go_at_call 9; refine (CW.out _ H2.out).mono ?_; rintro e w4 ⟨rfl, hb4⟩))
      go_ret
      exact ⟨rfl, H2.out.trans (hb4.mono H2.out.size)⟩
  · have h3' : (3000 : Int) < (s.size : Int) := by omega
    clear hg hm hz h3
    go_enter Tryd.func8, Tryd.ntmps8
    go_wp2_with (go_at_call 9; refine (CW.out _ (Below.refl _ _)).mono ?_; rintro e w4 ⟨rfl, hb4⟩)
    go_ret
    exact ⟨rfl, hb4⟩
end Go.Proofs.YtpmdekhjodhdmaaDoor.K17
