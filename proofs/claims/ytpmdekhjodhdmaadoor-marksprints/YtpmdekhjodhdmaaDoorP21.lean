/-
  Joined: K17RE, K17Ra, K17Rj, K17Rk.
-/
import Derived.BigQuiet
import Derived.Deep.QuietTactic
import Derived.Deep.RegionHeld3
import Derived.Lib.AppendStr
import Derived.Test.YtpmdekhjodhdmaaDoorP02
import Derived.Test.YtpmdekhjodhdmaaDoorP06
import Derived.Test.YtpmdekhjodhdmaaDoorP11
import Derived.Test.YtpmdekhjodhdmaaDoorP15
import Derived.Test.YtpmdekhjodhdmaaDoorP16
import Derived.Test.YtpmdekhjodhdmaaDoorP17
import Derived.Test.YtpmdekhjodhdmaaDoorP18
namespace Go.Proofs.YtpmdekhjodhdmaaDoor.K17
open Go.RowKit Go.Proofs.YtpmdekhjodhdmaaDoor
open Go.Lib
set_option linter.unusedVariables false
set_option linter.unusedSimpArgs false
set_option maxRecDepth 8000
abbrev ez (z : Int) : List UInt8 := es z.toNat
theorem rd_es : ∀ (n : Nat) (l : List UInt8) (p : Nat) (acc ZS : List Int) (P : Nat), l.length ≤ n → Rd st8 l p acc (ZS, P, 0) → ∃ zs, ZS = acc ++ zs ∧ zs.all isP = true ∧ esc l = zs.flatMap ez ∧ hc l = zs.any (fun z => ctl z.toNat)
  | 0, l, p, acc, ZS, P, h, hR => by
    obtain rfl : l = [] := List.length_eq_zero_iff.1 (by omega)
    have := hR.done
    simp only [Prod.mk.injEq] at this
    exact ⟨[], by simp [this.1], rfl, rfl, rfl⟩
  | n + 1, l, p, acc, ZS, P, h, hR => by
    by_cases hl : l = []
    · subst hl
      have := hR.done
      simp only [Prod.mk.injEq] at this
      exact ⟨[], by simp [this.1], rfl, rfl, rfl⟩
    by_cases h0 : (st8 l).2 = 0
    · have := hR.bad hl h0
      simp only [Prod.mk.injEq] at this
      exact absurd this.2.2 (by decide)
    · have hst := hR.step hl h0
      obtain ⟨g1, g2, g3⟩ := code8.good l h0
      have hpos := List.length_pos_iff.2 hl
      obtain ⟨zs, e1, e2, e3, e4⟩ := rd_es n (l.drop (st8 l).2) _ _ ZS P (by rw [List.length_drop]; omega) hst
      have hd := st_dN h0
      refine ⟨((st8 l).1 : Int) :: zs, by rw [e1, List.append_assoc]; rfl, by rw [List.all_cons, e2, g1]; rfl, ?_, ?_⟩
      · rw [esc_step l hl, hd, e3]; rfl
      · rw [hc_step l hl, hd, e4]; rfl
theorem rd_esc {l : List UInt8} {ZS : List Int} {P : Nat} (h : rd st8 l 0 = (ZS, P, 0)) : ZS.all isP = true ∧ esc l = ZS.flatMap ez ∧ hc l = ZS.any (fun z => ctl z.toNat) := by
  obtain ⟨zs, e1, e2, e3, e4⟩ := rd_es l.length l 0 [] ZS P (Nat.le_refl _) (by rw [← h]; exact Rd.start _ _ _)
  rw [List.nil_append] at e1
  subst e1
  exact ⟨e2, e3, e4⟩
theorem ez_len (zs : List Int) : (zs.flatMap ez).length ≤ 6 * zs.length := by
  induction zs with
  | nil => simp
  | cons z r ih => rw [List.flatMap_cons, List.length_append, List.length_cons]; have := es_len z.toNat; unfold ez at *; omega
theorem Lst.one {w : World} {b off : Nat} {zs : List Int} {k : Nat} (h : Lst w (some ⟨b, off, none⟩) zs) (hk : k < zs.length) : Lst w (some ⟨b, off + k, none⟩) [zs.getD k 0] := by
  rcases h with h | ⟨b', o', he, hb, hc⟩
  · rw [h] at hk; simp at hk
  · injection he with he
    injection he with e1 e2 _
    subst e1; subst e2
    refine Or.inr ⟨b, off + k, rfl, hb, fun i hi => ?_⟩
    obtain rfl : i = 0 := by simpa using hi
    rw [Nat.add_zero]
    exact hc k hk
theorem irow_grown {w w' : World} {B B' : Nat} {v vb : Value} {zs : List Int} {ys : List UInt8} (h : IRow w B v zs) (hb : BRow w B' vb ys) (hg : w.grownBy w' vb.ownBlock) : IRow w' B v zs := by
  obtain ⟨h1, h2 | ⟨g, cap, cur, hv, hgB, hh, hr⟩⟩ := h
  · exact ⟨h1, Or.inl h2⟩
  · refine ⟨h1, Or.inr ⟨g, cap, cur, hv, hgB, ?_, hr⟩⟩
    rw [hg.block g (heap_lt hh) (fun e => by
      obtain ⟨_, ⟨h0, _⟩ | ⟨g', cap', cur', hv', _, hh', _⟩⟩ := hb
      · rw [h0] at e; simp [Value.ownBlock] at e
      · rw [hv'] at e
        have : g = g' := by simpa [Value.ownBlock] using e
        subst this
        rw [hh'] at hh
        injection hh with hh
        injection hh with _ e _
        exact absurd e (by decide))]
    exact hh
theorem IRow.below {w w' : World} {B : Nat} {v : Value} {zs : List Int} (h : IRow w B v zs) (hb : Below w.heap.size w w') : IRow w' B v zs := ownsRow_kc h (KC.of_below hb)
set_option maxHeartbeats 4000000 in
theorem rescape_any (s : ByteArray) (w : World) (hs : s.size ≤ 65536) :
    Calls Tryd.prog 18 #[.string s] w fun e w' => e = .returned (.tuple #[.string ⟨(escV s.data.toList).1.toArray⟩, .int .i64 (escV s.data.toList).2]) ∧ Below w.heap.size w w' := by
  obtain ⟨⟨ZS, P, E⟩, hrd⟩ : ∃ r, rd st8 s.data.toList 0 = r := ⟨_, rfl⟩
  have CD := hide (rdecode_core s w hs ZS P E hrd)
  obtain ⟨q1, q2⟩ := rd_vt s.data.toList
  have hn := rd_len st8 s.data.toList 0
  rw [hrd] at q1 q2 hn
  simp only at q1 q2 hn
  rw [size_l] at hn
  unfold escV
  by_cases hE : E = 0
  · subst hE
    have hv := q2.1 rfl
    rw [if_neg (by rw [(valid_iff _).2 hv]; simp)]
    obtain ⟨hall, hes, hhc⟩ := rd_esc hrd
    rw [hes, hhc]
    obtain ⟨n, hzn⟩ : ∃ n, ZS.length = n := ⟨_, rfl⟩
    have HZ := hide hzn
    have HALL := hide hall
    have hn6 : (n : Int) ≤ 65536 := by omega
    have HN := hide (show n ≤ 65536 by omega)
    obtain ⟨RS, hRS⟩ : ∃ R, (if (ZS.any fun z => ctl z.toNat) = true then (([] : List UInt8), (170 : Int)) else (ZS.flatMap ez, 0)) = R := ⟨_, rfl⟩
    rw [hRS]
    have HRS := hide hRS
    obtain ⟨i0, hi, hz0, hz1, hz2⟩ := info_parts info_u8
    have HI := hide hi
    have HI0 := hide hz0
    have HI1 := hide hz1
    have HI2 := hide hz2
    clear hi hz0 hz1 hz2 hs q1 q2 hrd hv hall hes hhc hRS hzn hn
    go_enter Tryd.func18, Tryd.ntmps18
    go_wp2_with (first | (go_at_call 20; refine CD.out.mono ?_; rintro e w1 ⟨v, rfl, h1, h2⟩; obtain ⟨a, c, rfl, hL, hc1, hc2⟩ := h1.lst; rw [HZ.out] at hc1 ⊢; have HL := hide (show IRow w1 w.heap.size (.slice a n c) ZS by rw [← HZ.out]; exact h1); have H2 := hide h2; have HC := hide (And.intro hc1 hc2); clear h1 h2 hL hc1 hc2))
    go_loopw [7, 8] (fun vb vi wr => ∃ k : Nat, vi = .int .i64 k ∧ Hid (k ≤ n ∧ (ZS.take k).any (fun z => ctl z.toNat) = false ∧ BRow wr w.heap.size vb ((ZS.take k).flatMap ez) ∧ Below w.heap.size w wr ∧ IRow wr w.heap.size (.slice a n c) ZS)) (fun _ vi _ => n - (RowKit.intOf vi).toNat)
    case atStart => exact ⟨0, rfl, hide ⟨by omega, by simp, by simpa using BRow.nil _ _, H2.out, HL.out⟩⟩
    case round =>
      clear H2 HL CD
      obtain ⟨k, rfl, HK⟩ := hrel
      obtain ⟨k1, k2, k3, k4, k5⟩ := HK.out
      clear HK
      by_cases hlt : k < n
      · have hlt' : (k : Int) < (n : Int) := by omega
        obtain ⟨a', c', he, hL, _⟩ := k5.lst
        rw [HZ.out] at he
        injection he with he1 _ he2
        subst he1
        subst he2
        have k5' := hL
        rcases k5' with h0 | ⟨b, off, rfl, hb, hcell⟩
        · have := HZ.out; rw [h0] at this; simp at this; omega
        have hc := hcell k (by have := HZ.out; omega)
        have hone := Lst.one hL (k := k) (by have := HZ.out; omega)
        have htk := take_snoc ZS k (by have := HZ.out; omega)
        have hel := ez_len (ZS.take k)
        rw [List.length_take] at hel
        have hp : isP (ZS.getD k 0) = true := by
          have hm : ZS.getD k 0 ∈ ZS := by rw [List.getD_eq_getElem?_getD, List.getElem?_eq_getElem (by have := HZ.out; omega)]; exact List.getElem_mem _
          exact List.all_eq_true.1 HALL.out _ hm
        have hmem : ZS.getD k 0 ∈ ZS := by rw [List.getD_eq_getElem?_getD, List.getElem?_eq_getElem (by have := HZ.out; omega)]; exact List.getElem_mem _
        have hz := isP_t.1 hp
        obtain ⟨z, hzc⟩ : ∃ z : Nat, ZS.getD k 0 = (z : Int) := ⟨(ZS.getD k 0).toNat, by omega⟩
        rw [hzc] at hc hone htk hp hz hmem
        have hkc : (k : Int) < (c : Int) := by have := HC.out.1; omega
        have hkc2 : (k : Int) + 1 ≤ (c : Int) := by omega
        have hcc : (c : Int) ≤ 9223372036854775807 := by have := HC.out.2; omega
        have b2 : (k : Int) ≤ (k : Int) + 1 := by omega
        have CC := hide (fun w => rclass_any (z : Int) w)
        have h4 := ctl_cls z (by omega)
        obtain ⟨Y, hY⟩ : ∃ Y, (ZS.take k).flatMap ez = Y := ⟨_, rfl⟩
        rw [hY] at k3 hel
        have K3 := hide k3
        have K4 := hide k4
        have K5 := hide k5
        have HEL := hide (show Y.length ≤ 393216 by have := HN.out; omega)
        cases hct : ctl z
        · rw [hct] at h4
          have K2 := hide (show (ZS.take (k + 1)).any (fun z => ctl z.toNat) = false by rw [htk, List.any_append, k2]; simp [hct])
          have HT := hide (show (ZS.take (k + 1)).flatMap ez = Y ++ es z by rw [htk, List.flatMap_append, hY]; simp [ez])
          obtain ⟨CL, hCL⟩ : ∃ CL, clsV (z : Int) = CL := ⟨_, rfl⟩
          rw [hCL] at CC h4
          have HONE := hide hone
          have HP := hide hp
          have z1 : (z : Int) ≤ 1114111 := by omega
          clear k2 k3 k4 k5 hcell hone hL htk hel hp hmem hz hct hCL hzc hY
          by_cases e60 : z = 60
          · subst e60
            go_wp2_with (first | (go_at_call 34; refine (CC.out _).mono ?_; rintro e w1 ⟨rfl, rfl⟩) | (at_builtin; refine Lib.wpList_append_own_string _ rfl _ _ 56 9 rfl w.heap.size 5 i0 Tryd.underlying56 Tryd.underlying9 HI.out HI0.out HI1.out HI2.out _ _ _ rfl K3.out ⟨#[38, 108, 116, 59]⟩ rfl ?d1 ?d2 ?d3 ?_))
            case d1 => have := HEL.out; unfold maxLen; show _ + 4 ≤ _; omega
            case d2 => have := HEL.out; show _ + 4 ≤ _; omega
            case d3 => exact K4.out.size
            intro v3 w3 hown3 hgrow3 _
            have HB3 := hide (show Below w.heap.size w w3 from K4.out.grown hgrow3 K4.out.size (fun k hk => (World.ownsRow.lt K3.out k hk).1))
            have HO3 := hide (show BRow w3 w.heap.size v3 ((ZS.take (k + 1)).flatMap ez) by
              rw [HT.out, show es 60 = [38, 108, 116, 59] from rfl]
              unfold BRow
              rw [strCells_bytes] at hown3
              rw [List.map_append, List.length_append]
              exact hown3)
            have HL3 := hide (show IRow w3 w.heap.size (.slice (some ⟨b, off, none⟩) n c) ZS from irow_grown K5.out K3.out hgrow3)
            clear hown3 hgrow3
            go_wp2
            go_roundw
            case rel => exact ⟨k + 1, by go_num, hide ⟨by omega, K2.out, HO3.out, HB3.out, HL3.out⟩⟩
            case measure => simp [RowKit.intOf]; omega
          have f60 : ((z : Int) == 60) = false := by rw [beq_eq_false_iff_ne]; omega
          by_cases e62 : z = 62
          · subst e62
            go_wp2_with (first | (go_at_call 34; refine (CC.out _).mono ?_; rintro e w1 ⟨rfl, rfl⟩) | (at_builtin; refine Lib.wpList_append_own_string _ rfl _ _ 56 9 rfl w.heap.size 5 i0 Tryd.underlying56 Tryd.underlying9 HI.out HI0.out HI1.out HI2.out _ _ _ rfl K3.out ⟨#[38, 103, 116, 59]⟩ rfl ?d1 ?d2 ?d3 ?_))
            case d1 => have := HEL.out; unfold maxLen; show _ + 4 ≤ _; omega
            case d2 => have := HEL.out; show _ + 4 ≤ _; omega
            case d3 => exact K4.out.size
            intro v3 w3 hown3 hgrow3 _
            have HB3 := hide (show Below w.heap.size w w3 from K4.out.grown hgrow3 K4.out.size (fun k hk => (World.ownsRow.lt K3.out k hk).1))
            have HO3 := hide (show BRow w3 w.heap.size v3 ((ZS.take (k + 1)).flatMap ez) by
              rw [HT.out, show es 62 = [38, 103, 116, 59] from rfl]
              unfold BRow
              rw [strCells_bytes] at hown3
              rw [List.map_append, List.length_append]
              exact hown3)
            have HL3 := hide (show IRow w3 w.heap.size (.slice (some ⟨b, off, none⟩) n c) ZS from irow_grown K5.out K3.out hgrow3)
            clear hown3 hgrow3
            go_wp2
            go_roundw
            case rel => exact ⟨k + 1, by go_num, hide ⟨by omega, K2.out, HO3.out, HB3.out, HL3.out⟩⟩
            case measure => simp [RowKit.intOf]; omega
          have f62 : ((z : Int) == 62) = false := by rw [beq_eq_false_iff_ne]; omega
          by_cases e38 : z = 38
          · subst e38
            go_wp2_with (first | (go_at_call 34; refine (CC.out _).mono ?_; rintro e w1 ⟨rfl, rfl⟩) | (at_builtin; refine Lib.wpList_append_own_string _ rfl _ _ 56 9 rfl w.heap.size 5 i0 Tryd.underlying56 Tryd.underlying9 HI.out HI0.out HI1.out HI2.out _ _ _ rfl K3.out ⟨#[38, 97, 109, 112, 59]⟩ rfl ?d1 ?d2 ?d3 ?_))
            case d1 => have := HEL.out; unfold maxLen; show _ + 5 ≤ _; omega
            case d2 => have := HEL.out; show _ + 5 ≤ _; omega
            case d3 => exact K4.out.size
            intro v3 w3 hown3 hgrow3 _
            have HB3 := hide (show Below w.heap.size w w3 from K4.out.grown hgrow3 K4.out.size (fun k hk => (World.ownsRow.lt K3.out k hk).1))
            have HO3 := hide (show BRow w3 w.heap.size v3 ((ZS.take (k + 1)).flatMap ez) by
              rw [HT.out, show es 38 = [38, 97, 109, 112, 59] from rfl]
              unfold BRow
              rw [strCells_bytes] at hown3
              rw [List.map_append, List.length_append]
              exact hown3)
            have HL3 := hide (show IRow w3 w.heap.size (.slice (some ⟨b, off, none⟩) n c) ZS from irow_grown K5.out K3.out hgrow3)
            clear hown3 hgrow3
            go_wp2
            go_roundw
            case rel => exact ⟨k + 1, by go_num, hide ⟨by omega, K2.out, HO3.out, HB3.out, HL3.out⟩⟩
            case measure => simp [RowKit.intOf]; omega
          have f38 : ((z : Int) == 38) = false := by rw [beq_eq_false_iff_ne]; omega
          by_cases e34 : z = 34
          · subst e34
            go_wp2_with (first | (go_at_call 34; refine (CC.out _).mono ?_; rintro e w1 ⟨rfl, rfl⟩) | (at_builtin; refine Lib.wpList_append_own_string _ rfl _ _ 56 9 rfl w.heap.size 5 i0 Tryd.underlying56 Tryd.underlying9 HI.out HI0.out HI1.out HI2.out _ _ _ rfl K3.out ⟨#[38, 113, 117, 111, 116, 59]⟩ rfl ?d1 ?d2 ?d3 ?_))
            case d1 => have := HEL.out; unfold maxLen; show _ + 6 ≤ _; omega
            case d2 => have := HEL.out; show _ + 6 ≤ _; omega
            case d3 => exact K4.out.size
            intro v3 w3 hown3 hgrow3 _
            have HB3 := hide (show Below w.heap.size w w3 from K4.out.grown hgrow3 K4.out.size (fun k hk => (World.ownsRow.lt K3.out k hk).1))
            have HO3 := hide (show BRow w3 w.heap.size v3 ((ZS.take (k + 1)).flatMap ez) by
              rw [HT.out, show es 34 = [38, 113, 117, 111, 116, 59] from rfl]
              unfold BRow
              rw [strCells_bytes] at hown3
              rw [List.map_append, List.length_append]
              exact hown3)
            have HL3 := hide (show IRow w3 w.heap.size (.slice (some ⟨b, off, none⟩) n c) ZS from irow_grown K5.out K3.out hgrow3)
            clear hown3 hgrow3
            go_wp2
            go_roundw
            case rel => exact ⟨k + 1, by go_num, hide ⟨by omega, K2.out, HO3.out, HB3.out, HL3.out⟩⟩
            case measure => simp [RowKit.intOf]; omega
          have f34 : ((z : Int) == 34) = false := by rw [beq_eq_false_iff_ne]; omega
          have CE := hide (fun w2 (h : Lst w2 (some ⟨b, off + k, none⟩) [(z : Int)]) cp => rencode_core (some ⟨b, off + k, none⟩) 1 cp [(z : Int)] w2 rfl (by decide) h (e8 z) 0 (by unfold wrS encs; simp [HP.out]) (by unfold wrE; simp [HP.out]))
          have hes : es z = e8 z := by
            unfold es
            rw [if_neg e60, if_neg e62, if_neg e38, if_neg e34]
          clear e60 e62 e38 e34
          rw [← hes] at CE
          clear hes
          go_wp2_with (first | (go_at_call 34; refine (CC.out _).mono ?_; rintro e w1 ⟨rfl, rfl⟩) | (go_at_call 35; refine (CE.out _ HONE.out _).mono ?_; rintro e w2 ⟨rfl, hb2⟩) | (at_builtin; refine Lib.wpList_append_own_string _ rfl _ _ 56 9 rfl w.heap.size 5 i0 Tryd.underlying56 Tryd.underlying9 HI.out HI0.out HI1.out HI2.out _ _ _ rfl (own_below K3.out K4.out hb2) ⟨(es z).toArray⟩ rfl ?d1 ?d2 ?d3 ?_))
          case d1 => have := HEL.out; unfold maxLen; rw [size_mk']; have := es_len z; omega
          case d2 => have := HEL.out; rw [size_mk']; have := es_len z; omega
          case d3 => exact Nat.le_trans K4.out.size hb2.size
          intro v3 w3 hown3 hgrow3 _
          have HB3 := hide (show Below w.heap.size w w3 from (K4.out.trans (hb2.mono K4.out.size)).grown hgrow3 (Nat.le_trans K4.out.size hb2.size) (fun k hk => (World.ownsRow.lt K3.out k hk).1))
          have HO3 := hide (show BRow w3 w.heap.size v3 ((ZS.take (k + 1)).flatMap ez) by
            rw [HT.out]
            unfold BRow
            rw [strCells_bytes] at hown3
            rw [List.map_append, List.length_append]
            exact hown3)
          have HL3 := hide (show IRow w3 w.heap.size (.slice (some ⟨b, off, none⟩) n c) ZS from irow_grown (IRow.below K5.out hb2) (own_below K3.out K4.out hb2) hgrow3)
          clear hown3 hgrow3
          go_wp2
          go_roundw
          case rel => exact ⟨k + 1, by go_num, hide ⟨by omega, K2.out, HO3.out, HB3.out, HL3.out⟩⟩
          case measure => simp [RowKit.intOf]; omega
        · rw [hct] at h4
          have hany : (ZS.any fun z => ctl z.toNat) = true := List.any_eq_true.2 ⟨(z : Int), hmem, by simpa using hct⟩
          have hR := HRS.out
          rw [hany, if_pos rfl] at hR
          subst hR
          have h5 : clsV (z : Int) = 4 := by simpa using h4
          rw [h5] at CC
          clear k2 k3 k4 k5 hcell hone hL htk hel hp hmem hz hct hzc hany h4 h5 hY
          go_wp2_with (first | (go_at_call 34; refine (CC.out _).mono ?_; rintro e w1 ⟨rfl, rfl⟩))
          go_ret2
          exact ⟨rfl, K4.out⟩
      · have hlt' : ¬ (k : Int) < (n : Int) := by omega
        rw [List.take_of_length_le (by have := HZ.out; omega)] at k2 k3
        have hR := HRS.out
        rw [k2, if_neg (by simp)] at hR
        subst hR
        have hcv := k3.text
        have K4 := hide k4
        clear k2 k3 k4 k5
        go_wp2
        go_ret2
        exact ⟨rfl, K4.out⟩
  · obtain rfl : E = 40 := by rcases q1 with h | h; exact absurd h hE; exact h
    have hv : Lib.validD s.data.toList = false := by
      cases h : Lib.validD s.data.toList with
      | false => rfl
      | true => exact absurd (q2.2 ((valid_iff _).1 h)) (by decide)
    rw [if_pos hv]
    clear hs q1 q2 hrd hE hv hn
    go_enter Tryd.func18, Tryd.ntmps18
    go_wp2_with (first | (go_at_call 20; refine CD.out.mono ?_; rintro e w1 ⟨v, rfl, h1, h2⟩; have H2 := hide h2; clear h1 h2))
    go_ret2
    exact ⟨rfl, H2.out⟩
def nmL (q : List UInt8) : Nat := if smN (q.getD 0 0).toNat = true then min 17 (q.takeWhile nmB).length else 0
theorem tw_le (q : List UInt8) (n : Nat) (h : n ≤ q.length) (ha : (q.take n).all nmB = true) : n ≤ (q.takeWhile nmB).length := by
  induction q generalizing n with
  | nil => simp at h; omega
  | cons b r ih =>
    cases n with
    | zero => omega
    | succ n =>
      rw [List.take_succ_cons, List.all_cons, Bool.and_eq_true] at ha
      rw [List.takeWhile_cons, if_pos ha.1, List.length_cons]
      have := ih n (by simpa using h) ha.2
      omega
theorem tw_eq (q : List UInt8) (n : Nat) (ha : (q.take n).all nmB = true) (hn : ∀ b, q[n]? = some b → nmB b = false) (h : n ≤ q.length) : (q.takeWhile nmB).length = n := by
  rw [(tw_take q n ha hn).1, List.length_take]; omega
theorem nmL_17 {q : List UInt8} (h : 17 ≤ q.length) (ha : (q.take 17).all nmB = true) (hs : smN (q.getD 0 0).toNat = true) : nmL q = 17 := by
  unfold nmL
  rw [if_pos hs]
  have := tw_le q 17 h ha
  omega
theorem nmL_end {q : List UInt8} {n : Nat} (h : n ≤ q.length) (h17 : n ≤ 17) (ha : (q.take n).all nmB = true) (hs : 0 < n → smN (q.getD 0 0).toNat = true) (hn : ∀ b, q[n]? = some b → nmB b = false ∨ (n = 0 ∧ smN b.toNat = false)) : nmL q = n := by
  unfold nmL
  by_cases h0 : n = 0
  · subst h0
    cases hq : q[0]? with
    | none =>
      have : q = [] := by
        cases q with
        | nil => rfl
        | cons b r => simp at hq
      subst this
      rfl
    | some b =>
      have hg : q.getD 0 0 = b := by rw [List.getD_eq_getElem?_getD, hq]; rfl
      rw [hg]
      rcases hn b hq with h1 | ⟨_, h1⟩
      · rw [if_neg]
        unfold nmB nmN at h1
        rw [Bool.or_eq_false_iff] at h1
        rw [h1.1]; simp
      · rw [if_neg (by rw [h1]; simp)]
  · rw [if_pos (hs (by omega)), tw_eq q n ha (fun b hb => by
      rcases hn b hb with h1 | ⟨h1, _⟩
      · exact h1
      · exact absurd h1 h0) h]
    omega
theorem drop_get (l : List UInt8) (p n : Nat) : (l.drop p)[n]? = l[p + n]? := by rw [List.getElem?_drop]
set_option maxHeartbeats 4000000 in
theorem rname_any (s : ByteArray) (p : Nat) (w : World) (hs : s.size ≤ 1048576) (hp : p ≤ s.size) :
    Calls Tryd.prog 43 #[.string s, .int .i64 (p : Int)] w fun e w' => e = .returned (.int .i64 (nmL (s.data.toList.drop p) : Nat)) ∧ w' = w := by
  have hs' : (s.size : Int) ≤ 1048576 := by omega
  have hp' : (p : Int) ≤ (s.size : Int) := by omega
  have hl := size_l s
  have hql : (s.data.toList.drop p).length = s.size - p := by rw [List.length_drop, hl]
  have hget : ∀ n (h : p + n < s.size), (s.data.toList.drop p)[n]? = some s[p + n] := fun n h => by rw [drop_get]; exact get_b s (p + n) h
  have hg0 : ∀ (h : p < s.size), (s.data.toList.drop p).getD 0 0 = s[p] := fun h => by
    rw [List.getD_eq_getElem?_getD, drop_get, Nat.add_zero, get_b s p h]; rfl
  obtain ⟨R, hR⟩ : ∃ R, nmL (s.data.toList.drop p) = R := ⟨_, rfl⟩
  rw [hR]
  have HR := hide hR
  have HQ := hide hql
  have HG := hide hget
  have HG0 := hide hg0
  clear hR hql hget hg0 hl hs
  generalize s.data.toList.drop p = q at *
  go_enter Tryd.func43, Tryd.ntmps43
  go_wp2_with fail
  go_loop [5] (fun vn => ∃ n : Nat, vn = .int .i64 n ∧ Hid (n ≤ 17 ∧ p + n ≤ s.size ∧ (q.take n).all nmB = true ∧ (0 < n → smN (q.getD 0 0).toNat = true))) (fun vn => 17 - (RowKit.intOf vn).toNat)
  case atStart => exact ⟨0, rfl, hide ⟨by omega, by omega, by simp, by omega⟩⟩
  case round =>
    obtain ⟨n, rfl, HK⟩ := hrel
    obtain ⟨k1, k2, k3, k4⟩ := HK.out
    clear HK
    have hpn : (p : Int) + (n : Int) ≤ (s.size : Int) := by omega
    have hn17 : (n : Int) ≤ 17 := by omega
    by_cases hlt : p + n < s.size
    · have hlt' : (p : Int) + (n : Int) < (s.size : Int) := by omega
      by_cases h17 : n < 17
      · have h17' : (n : Int) < 17 := by omega
        have hb := HG.out n hlt
        obtain ⟨m, hm⟩ : ∃ m, p + n = m := ⟨_, rfl⟩
        have hm' : (p : Int) + (n : Int) = (m : Int) := by omega
        have HMM := hide hlt
        rw [show s[p + n] = s[m]'(by omega) from by subst hm; rfl] at hb
        have hml : m < s.size := by omega
        have hml' : (m : Int) < (s.size : Int) := by omega
        by_cases c1 : 97 ≤ s[m].toNat
        · have c1' : (97 : Int) ≤ (s[m].toNat : Int) := by omega
          by_cases c2 : s[m].toNat ≤ 122
          · have c2' : (s[m].toNat : Int) ≤ 122 := by omega
            have hfs : smN (q.getD 0 0).toNat = true := by
              by_cases h0 : n = 0
              · subst h0
                rw [List.getD_eq_getElem?_getD, hb]
                simp [smN]; omega
              · exact k4 (by omega)
            have K3 := hide (show (q.take (n + 1)).all nmB = true by rw [List.take_add_one, hb, List.all_append, k3]; simp [nmB, nmN, smN]; omega)
            have K4 := hide (show 0 < n + 1 → smN (q.getD 0 0).toNat = true by intro _; exact hfs)
            clear k3 k4 hb hm
            go_wp2_with fail
            go_round
            case rel => exact ⟨n + 1, by go_num, hide ⟨by omega, by have := HMM.out; omega, K3.out, K4.out⟩⟩
            case measure => simp [RowKit.intOf]; omega
          · have c2' : ¬ (s[m].toNat : Int) ≤ 122 := by omega
            have c3' : (48 : Int) ≤ (s[m].toNat : Int) := by omega
            have c4' : ¬ (s[m].toNat : Int) ≤ 57 := by omega
            have c5' : ((s[m].toNat : Int) == 45) = false := by rw [beq_eq_false_iff_ne]; omega
            by_cases h0 : n = 0
            · subst h0
              obtain rfl : m = p := by omega
              have hr := nmL_end (q := q) (n := 0) (by rw [HQ.out]; omega) k1 k3 k4 (fun c hc => by
                rw [hb] at hc
                injection hc with hc
                rw [← hc]
                exact Or.inr ⟨by omega, by simp [smN]; omega⟩)
              rw [HR.out] at hr
              subst hr
              clear k3 k4 hb hm
              go_wp2_with fail
              go_ret
              exact ⟨rfl, rfl⟩
            · have h0' : (0 : Int) < (n : Int) := by omega
              have hr := nmL_end (q := q) (n := n) (by rw [HQ.out]; omega) k1 k3 k4 (fun c hc => by
                rw [hb] at hc
                injection hc with hc
                rw [← hc]
                exact Or.inl (by simp [nmB, nmN, smN]; omega))
              rw [HR.out] at hr
              subst hr
              clear k3 k4 hb hm
              go_wp2_with fail
              go_ret
              exact ⟨rfl, rfl⟩
        · have c1' : ¬ (97 : Int) ≤ (s[m].toNat : Int) := by omega
          by_cases h0 : n = 0
          · subst h0
            obtain rfl : m = p := by omega
            have hr := nmL_end (q := q) (n := 0) (by rw [HQ.out]; omega) k1 k3 k4 (fun c hc => by
              rw [hb] at hc
              injection hc with hc
              rw [← hc]
              exact Or.inr ⟨by omega, by simp [smN]; omega⟩)
            rw [HR.out] at hr
            subst hr
            clear k3 k4 hb hm
            go_wp2_with fail
            go_ret
            exact ⟨rfl, rfl⟩
          · have h0' : (0 : Int) < (n : Int) := by omega
            have hfs := k4 (by omega)
            by_cases c3 : 48 ≤ s[m].toNat
            · have c3' : (48 : Int) ≤ (s[m].toNat : Int) := by omega
              by_cases c4 : s[m].toNat ≤ 57
              · have c4' : (s[m].toNat : Int) ≤ 57 := by omega
                have K3 := hide (show (q.take (n + 1)).all nmB = true by rw [List.take_add_one, hb, List.all_append, k3]; simp [nmB, nmN, smN]; omega)
                have K4 := hide (show 0 < n + 1 → smN (q.getD 0 0).toNat = true by intro _; exact hfs)
                clear k3 k4 hb hm
                go_wp2_with fail
                go_round
                case rel => exact ⟨n + 1, by go_num, hide ⟨by omega, by have := HMM.out; omega, K3.out, K4.out⟩⟩
                case measure => simp [RowKit.intOf]; omega
              · have c4' : ¬ (s[m].toNat : Int) ≤ 57 := by omega
                have c5' : ((s[m].toNat : Int) == 45) = false := by rw [beq_eq_false_iff_ne]; omega
                have hr := nmL_end (q := q) (n := n) (by rw [HQ.out]; omega) k1 k3 k4 (fun c hc => by
                  rw [hb] at hc
                  injection hc with hc
                  rw [← hc]
                  exact Or.inl (by simp [nmB, nmN, smN]; omega))
                rw [HR.out] at hr
                subst hr
                clear k3 k4 hb hm
                go_wp2_with fail
                go_ret
                exact ⟨rfl, rfl⟩
            · have c3' : ¬ (48 : Int) ≤ (s[m].toNat : Int) := by omega
              by_cases c5 : s[m].toNat = 45
              · have c5' : ((s[m].toNat : Int) == 45) = true := by rw [beq_iff_eq]; omega
                have K3 := hide (show (q.take (n + 1)).all nmB = true by rw [List.take_add_one, hb, List.all_append, k3]; simp [nmB, nmN, smN]; omega)
                have K4 := hide (show 0 < n + 1 → smN (q.getD 0 0).toNat = true by intro _; exact hfs)
                clear k3 k4 hb hm
                go_wp2_with fail
                go_round
                case rel => exact ⟨n + 1, by go_num, hide ⟨by omega, by have := HMM.out; omega, K3.out, K4.out⟩⟩
                case measure => simp [RowKit.intOf]; omega
              · have c5' : ((s[m].toNat : Int) == 45) = false := by rw [beq_eq_false_iff_ne]; omega
                have hr := nmL_end (q := q) (n := n) (by rw [HQ.out]; omega) k1 k3 k4 (fun c hc => by
                  rw [hb] at hc
                  injection hc with hc
                  rw [← hc]
                  exact Or.inl (by simp [nmB, nmN, smN]; omega))
                rw [HR.out] at hr
                subst hr
                clear k3 k4 hb hm
                go_wp2_with fail
                go_ret
                exact ⟨rfl, rfl⟩
      · have h17' : ¬ (n : Int) < 17 := by omega
        obtain rfl : n = 17 := by omega
        have hr := nmL_17 (by rw [HQ.out]; omega) k3 (k4 (by omega))
        rw [HR.out] at hr
        subst hr
        clear k3 k4
        go_wp2_with fail
        go_ret
        exact ⟨rfl, rfl⟩
    · have hlt' : ¬ (p : Int) + (n : Int) < (s.size : Int) := by omega
      have hr := nmL_end (q := q) (n := n) (by rw [HQ.out]; omega) k1 k3 k4 (fun b hb => by
        have := (List.getElem?_eq_some_iff.1 hb).1
        rw [HQ.out] at this
        omega)
      rw [HR.out] at hr
      subst hr
      clear k3 k4
      go_wp2_with fail
      go_ret
      exact ⟨rfl, rfl⟩
end Go.Proofs.YtpmdekhjodhdmaaDoor.K17
namespace Go.Proofs.YtpmdekhjodhdmaaDoor.K17
open Go.RowKit Go.Proofs.YtpmdekhjodhdmaaDoor
open Go.Lib
set_option linter.unusedVariables false
set_option linter.unusedSimpArgs false
set_option maxRecDepth 100000
def HC (l r : List UInt8) : Bool := hc (l.take (l.length - r.length))
theorem below_d {V a b x : World} (h : Below V.heap.size V a) (hx : Below b.heap.size b x) (e0 : b.os = a.os) (e1 : b.tape = a.tape) (e2 : b.output = a.output) (e3 : b.heap = a.heap) : Below V.heap.size V x :=
  ⟨hx.os.trans (e0.trans h.os), hx.tape.trans (e1.trans h.tape), hx.output.trans (e2.trans h.output), Nat.le_trans h.size (by rw [← e3]; exact hx.size), fun k hk => by
    rw [hx.block k (by rw [e3]; exact Nat.lt_of_lt_of_le hk h.size), e3]; exact h.block k hk⟩
end Go.Proofs.YtpmdekhjodhdmaaDoor.K17
