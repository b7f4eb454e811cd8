/-
  The law OutMore, walked.
-/
import Derived.Test.YtpjbkngeiaclgaaDoorQF
import Derived.Test.YtpjbkngeiaclgaaDoorP6Oc
import Derived.Test.YtpjbkngeiaclgaaDoorP6Op
import Derived.Test.YtpjbkngeiaclgaaDoorQA
namespace Go.Proofs.YtpjbkngeiaclgaaDoor
open Go.RowKit Go.Deep
set_option linter.unusedVariables false

theorem lyZ_lenM (l : List EP) (root : Int) : (lyZ l root).length ≤ 4097 := by
  by_cases h : lyE l root = 0
  · obtain ⟨q, hq, hz⟩ := lyE_ok h
    have hl := layG_lenM l 0 _ _ q hq
    have hck : ckV l root = 0 := by
      unfold lyE at h
      split at h
      · contradiction
      · rename_i hc; exact Decidable.not_not.1 hc
    have := ck_ok hck
    rw [hz]
    simp at hl ⊢
    omega
  · rw [lyE_bad h]; simp
set_option maxRecDepth 8000 in
set_option maxHeartbeats 4000000 in
theorem outMore_walk (l : List EP) (ea : Option Addr) (ec : Nat) (root : Int) (x : EP) (ka : Option Addr) (kc : Nat) (ia : Option Addr) (ic : Nat) (w : World) (hin : FileM w l ea ec root) (hmo : EntIn w x ka kc ia ic) (hg : D2.Glo w) :
    Calls Tryd.prog 6 #[fv l ea ec root, evv x ka kc ia ic] w fun e w' => e = .returned (.bool true) ∧ Below w.heap.size w w' := by
  obtain ⟨⟨⟨hF, hok⟩, hr1, hr2⟩, hn1⟩ := hin
  obtain ⟨hX, hxo⟩ := hmo
  have CW := hide (fun x (h : Below w.heap.size w x) => wakes6_any x (hg.below h))
  have hal := ((Below.refl w.heap.size w).alloc (Nat.le_refl _) (.cells (fbox l ea ec root) 24)).alloc (by simp) (.cells (ebox x ka kc ia ic) 46)
  have CC := hide (fcopyE_any l ea ec root _ (hF.below hal))
  have HF := hide hF
  have HOK := hide hok
  have HG := hide hg
  have HX := hide hX
  have HXO := hide hxo
  have HN := hide hn1
  have HB0 := hide hal
  have HS0 := hide (show ((w.alloc (.cells (fbox l ea ec root) 24)).alloc (.cells (ebox x ka kc ia ic) 46)).heap.size = w.heap.size + 2 by simp)
  have HK0 := hide ((Blk.new w (fbox l ea ec root) 24).below ((Below.refl _ _).alloc (Nat.le_refl _) (.cells (ebox x ka kc ia ic) 46)))
  have HE0 : Hid (Blk ((w.alloc (.cells (fbox l ea ec root) 24)).alloc (.cells (ebox x ka kc ia ic) 46)) (w.heap.size + 1) (ebox x ka kc ia ic) 46) := hide (by
    have := Blk.new (w.alloc (.cells (fbox l ea ec root) 24)) (ebox x ka kc ia ic) 46
    rwa [show (w.alloc (.cells (fbox l ea ec root) 24)).heap.size = w.heap.size + 1 by simp] at this)
  clear hF hok hg hal hX hxo hn1
  go_enter Tryd.func6, Tryd.ntmps6
  go_wp2_with fail
  generalize ((w.alloc (.cells (fbox l ea ec root) 24)).alloc (.cells (ebox x ka kc ia ic) 46)) = wa at CC HB0 HS0 HK0 HE0 ⊢
  refine CC.out.mono ?_
  rintro e w2 ⟨⟨eb, ed, l', rfl, hj, hrow, hs2⟩, h2⟩
  have hal2 := (Below.refl w2.heap.size w2).alloc (Nat.le_refl _) (.cells (fbox l eb ed root) 24)
  have hB2 := below_t5 HB0.out h2
  have hsa := HS0.out
  have hda : ∀ e ∈ eps l' ++ [x], e.da.size ≤ 140737488351232 := fun e he => by
    rw [hj] at he
    rcases List.mem_append.1 he with he | he
    · exact HF.out.2.1 e he
    · have ee : e = x := by simpa using he
      rw [ee]
      exact HXO.out.1
  have hG1 := Blk.new w2 (fbox l eb ed root) 24
  have hE1 := (HE0.out.below h2).below hal2
  have hK1 := (HK0.out.below h2).below hal2
  obtain ⟨g, cap, w5, hr, hfin, hb5, hkp⟩ := app_entF (W := w2) (W1 := w2.alloc (.cells (fbox l eb ed root) 24)) (n0 := w.heap.size) (EEnt.mk x ka kc ia ic) hrow (by simp) (fun k hk => Below.heap_alloc _ _ _ hk) hs2 (by omega)
    (fun W' hs hk => OIn.sub (sub_old (Nat.le_trans hB2.size hs) fun k h => (hk k h).trans (hB2.block k h)) HX.out) (by have := congrArg List.length hj; simp at this; rw [this]; exact HN.out) hda (w2.heap.size + 1) (by simp)
  rw [hj] at hr hfin
  simp only at hr hfin
  have hG5 : Blk w5 w2.heap.size (fbox l eb ed root) 24 := by
    unfold Blk
    rw [hkp _ (Nat.le_refl _) (by simp)]
    exact hG1
  have hK5 := hK1.kept hb5 (by omega)
  have hM : (l ++ [x]).length = l.length + 1 := by simp
  have HOM : Hid (∀ e ∈ l ++ [x], EOk e) := hide fun e he => by
    rcases List.mem_append.1 he with he | he
    · exact HOK.out e he
    · have ee : e = x := by simpa using he
      rw [ee]
      exact HXO.out
  have hf6 := hfin (w5.setCell ⟨w2.heap.size, 0, none⟩ (.slice (some ⟨g, 0, none⟩) (l ++ [x]).length cap)) (by simp [World.setCell]) fun k h1 h2 => Below.heap_setCell _ _ _ _ (by simp at h1 ⊢; omega)
  have hG6 := hG5.set 0 (.slice (some ⟨g, 0, none⟩) (l ++ [x]).length cap)
  have hK6 := hK5.other (show w.heap.size ≠ w2.heap.size by omega) 0 (.slice (some ⟨g, 0, none⟩) (l ++ [x]).length cap)
  have hB6 : Below w.heap.size w (w5.setCell ⟨w2.heap.size, 0, none⟩ (.slice (some ⟨g, 0, none⟩) (l ++ [x]).length cap)) := ((below_t5 hB2 hal2).trans (hb5.mono (by omega))).setCell (p := ⟨w2.heap.size, 0, none⟩) (by simp; omega) _
  have HMOR := hide (fun h h2 => lyZ_more (l := l) (x := x) (root := root) h h2)
  generalize l ++ [x] = m at hr hfin hM HOM hf6 hG6 hK6 hB6 HMOR
  have HR := hide hr
  have HM := hide hM
  have HF6 := hide hf6
  have HG6 := hide hG6
  have HK6 := hide hK6
  have HB6 := hide hB6
  obtain ⟨⟨d0, d1, d2, d3, d4, d5, d6, d7⟩, _⟩ := hE1.eight
  obtain ⟨⟨r0, r1⟩, _, _⟩ := hG1.two
  obtain ⟨⟨t0, t1⟩, y0, y1⟩ := hG5.two
  obtain ⟨⟨z0, z1⟩, _, _⟩ := Blk.two (show Blk (w5.setCell ⟨w2.heap.size, 0, none⟩ (.slice (some ⟨g, 0, none⟩) m.length cap)) w2.heap.size #[.slice (some ⟨g, 0, none⟩) m.length cap, .int .i64 root] 24 from hG6)
  clear hr hfin hM hf6 hG6 hK6 hB6 hE1 hG1 hG5 hK5 hK1 hkp hb5 hrow hj hs2 hsa hB2 h2 hal2 hda CC HK0 HE0 HS0 HB0
  go_wp2_with (at_builtin; refine Lib.wpList_append_run _ rfl _ _ _ _ rfl _ _ rfl rfl _ _ HR.out ?_)
  have HG6' : Hid (Blk (w5.setCell ⟨w2.heap.size, 0, none⟩ (.slice (some ⟨g, 0, none⟩) m.length cap)) w2.heap.size (fbox m (some ⟨g, 0, none⟩) cap root) 24) := HG6
  clear HG6 HR d0 d1 d2 d3 d4 d5 d6 d7 r0 r1 t0 t1 y0 y1 z0 z1
  generalize w5.setCell ⟨w2.heap.size, 0, none⟩ (.slice (some ⟨g, 0, none⟩) m.length cap) = w6 at HF6 HG6' HK6 HB6 ⊢
  generalize w2.heap.size = gb at HG6' ⊢
  generalize (some ⟨g, 0, none⟩ : Option Addr) = ga at HF6 HG6' ⊢
  have CL := hide (flarge_any m ga cap root w6 HF6.out)
  refine CL.out.mono ?_
  rintro e w7 ⟨⟨r, rfl, hr⟩, h7⟩
  have hB7 := below_t5 HB6.out h7
  have HK7 := hide (HK6.out.below h7)
  have HG7 := hide (HG6'.out.below h7)
  have HF7 := hide (HF6.out.below h7)
  have HB7 := hide hB7
  cases r
  case true =>
    have CW1 := hide (CW.out w7 hB7)
    clear h7 hB7 hr
    go_wp2_with (go_at_call 8; refine CW1.out.mono ?_; rintro e w8 ⟨rfl, h8⟩)
    go_ret
    exact ⟨rfl, below_t5 HB7.out h8⟩
  have CC1 := hide (fcopy_any l ea ec root w7 (HF.out.below hB7))
  obtain ⟨⟨s0, s1⟩, _⟩ := HK7.out.two
  clear h7 hB7 hr
  go_wp2_with fail
  refine CC1.out.mono ?_
  rintro e w8 ⟨⟨eb1, ed1, rfl, hF8⟩, h8⟩
  have hB8 := below_t5 HB7.out h8
  have HK8 := hide (HK7.out.below h8)
  have HG8 := hide (HG7.out.below h8)
  have HF8 := hide (HF7.out.below h8)
  have HB8 := hide hB8
  have CO1 := hide (offsets_any l eb1 ed1 root w8 (hF8.sub (fresh_sub _ _)) HOK.out (HG.out.below hB8))
  clear s0 s1 h8 hF8 hB8
  go_wp2_with fail
  refine CO1.out.mono ?_
  rintro e w9 ⟨⟨v9, rfl, hv9⟩, h9⟩
  have hB9 := below_t5 HB8.out h9
  have HK9 := hide (HK8.out.below h9)
  have HG9 := hide (HG8.out.below h9)
  have hF9 := HF8.out.below h9
  have HB9 := hide hB9
  have HV9 := hide hv9
  have CC2 := hide (fcopy_any m ga cap root w9 hF9)
  obtain ⟨⟨s0, s1⟩, _⟩ := HG9.out.two
  clear h9 hF9 hB9 hv9
  go_wp2_with fail
  refine CC2.out.mono ?_
  rintro e w10 ⟨⟨eb2, ed2, rfl, hF10⟩, h10⟩
  have hB10 := below_t5 HB9.out h10
  have HK10 := hide (HK9.out.below h10)
  have HB10 := hide hB10
  have HV10 := hide (HV9.out.later6 h10)
  have CO2 := hide (offsets_any m eb2 ed2 root w10 (hF10.sub (fresh_sub _ _)) HOM.out (HG.out.below hB10))
  clear s0 s1 h10 hF10 hB10
  go_wp2_with fail
  refine CO2.out.mono ?_
  rintro e w11 ⟨⟨v11, rfl, hv11⟩, h11⟩
  have hB11 := below_t5 HB10.out h11
  have hK11 := HK10.out.below h11
  have hL1 := (HV10.out.later6 h11).lst
  have hL2 := hv11.lst
  obtain ⟨a1, c1, rfl, hl1, hc1, hd1⟩ := hL1
  obtain ⟨a2, c2, rfl, hl2, hc2, hd2⟩ := hL2
  have HL1 := hide hl1
  have HL2 := hide hl2
  have HB11 := hide hB11
  have C4 := hide (fun x (hx : Below w11.heap.size w11 x) => CW.out x (below_t5 hB11 hx))
  obtain ⟨⟨s0, s1⟩, _⟩ := hK11.two
  clear h11 hB11 hK11 hl1 hl2 hv11
  have hl1 : (l.length : Int) ≤ 1256584717450 := by have h := HN.out; omega
  have hl0 : (0 : Int) ≤ (l.length : Int) := by omega
  by_cases hE1 : lyE l root = 0
  case neg =>
    have hn1 : (lyZ l root).length = 0 := by rw [lyE_bad hE1]; rfl
    have hq2 : lyE m root = 0 ∨ (lyZ m root).length = 0 := by
      by_cases h : lyE m root = 0
      · exact Or.inl h
      · exact Or.inr (by rw [lyE_bad h]; rfl)
    have t1 : (lyE l root != 0) = true := by simpa using hE1
    have t2 : (lyE l root == 0) = false := by simpa using hE1
    have t3 : (((lyZ l root).length : Int) == 0) = true := by rw [hn1]; rfl
    have t4 : (lyE m root == 0) = true ∨ ((lyE m root == 0) = false ∧ (((lyZ m root).length : Int) == 0) = true) := by
      by_cases h : lyE m root = 0
      · exact Or.inl (by simpa using h)
      · refine Or.inr ⟨by simpa using h, ?_⟩
        rw [lyE_bad h]; rfl
    generalize (lyZ l root).length = n1 at *
    generalize (lyZ m root).length = n2 at *
    generalize lyE l root = E1 at *
    generalize lyE m root = E2 at *
    clear HL1 HL2 hE1 hn1 hq2 HMOR CO1 CO2 CC1 CC2 CL HV9 HV10
    rcases t4 with t4 | ⟨t4, t5⟩
    all_goals
      go_wp2_with (go_at_call 8; refine (C4.out _ (Below.refl _ _)).mono ?_; rintro e w12 ⟨rfl, h12⟩)
      go_ret
      exact ⟨rfl, below_t5 HB11.out h12⟩
  by_cases hE2 : lyE m root = 0
  case neg =>
    have t1 : (lyE l root != 0) = false := by simpa using hE1
    have t2 : (lyE l root == 0) = true := by simpa using hE1
    have t6 : (lyE m root != 0) = true := by simpa using hE2
    have t4 : (lyE m root == 0) = false := by simpa using hE2
    have t5 : (((lyZ m root).length : Int) == 0) = true := by rw [lyE_bad hE2]; rfl
    generalize (lyZ l root).length = n1 at *
    generalize (lyZ m root).length = n2 at *
    generalize lyE l root = E1 at *
    generalize lyE m root = E2 at *
    clear HL1 HL2 hE1 hE2 HMOR CO1 CO2 CC1 CC2 CL HV9 HV10
    go_wp2_with (go_at_call 8; refine (C4.out _ (Below.refl _ _)).mono ?_; rintro e w12 ⟨rfl, h12⟩)
    go_ret
    exact ⟨rfl, below_t5 HB11.out h12⟩
  obtain ⟨hn1, hn2, htk⟩ := HMOR.out hE1 hE2
  have t1 : (lyE l root != 0) = false := by simpa using hE1
  have t6 : (lyE m root != 0) = false := by simpa using hE2
  have t3 : (((lyZ l root).length : Int) == (l.length : Int) + 1) = true := by rw [hn1]; simp
  have t5 : (((lyZ m root).length : Int) == (l.length : Int) + 2) = true := by rw [hn2]; simp
  have hle := lyZ_lenM l root
  have HA := hide HL1.out
  have HBB := hide (HL2.out.take (l.length + 1))
  rw [htk] at HBB
  have CS := hide (same_any a1 a2 (l.length + 1) c1 c2 (lyZ l root) w11 hn1 (by omega) HA.out HBB.out)
  have hcc : (l.length : Int) + 1 ≤ (c2 : Int) := by omega
  rw [hn1] at t3
  rw [hn2] at t5
  rw [hn1, hn2]
  generalize lyE l root = E1 at *
  generalize lyE m root = E2 at *
  clear HA HBB hn1 hn2 htk hE1 hE2 hle HL1 HL2 HMOR CO1 CO2 CC1 CC2 CL HV9 HV10
  go_wp2_with (first | (go_at_call 16; refine CS.out.mono ?_; rintro e w12 ⟨rfl, n12, hn12⟩; subst hn12) | (go_at_call 8; refine (C4.out _ (below_drewN (Below.refl _ _) _)).mono ?_; rintro e w13 ⟨rfl, h13⟩))
  go_ret
  exact ⟨rfl, below_t5 HB11.out (below_t5 (below_drewN (Below.refl _ _) _) h13)⟩
end Go.Proofs.YtpjbkngeiaclgaaDoor
