/-
  The law SubsetCloses, walked.
-/
import Derived.Deep.CutRange
import Derived.Test.YthnpnkiomknkeaaDoorC22
import Derived.Test.YthnpnkiomknkeaaDoorC24
import Derived.Test.YthnpnkiomknkeaaDoorC28
import Derived.Test.YthnpnkiomknkeaaDoorC29
namespace Go.Proofs.YthnpnkiomknkeaaDoor.S13
open Go.RowKit Go.Deep Go.Maps Go.Proofs.YthnpnkiomknkeaaDoor.F12
set_option linter.unusedVariables false
set_option linter.unusedSimpArgs false

set_option maxRecDepth 8000 in
set_option maxHeartbeats 16000000 in
theorem closes_walk (m : Mt) (aa ab ga ca la : Option Addr) (ka kb kg kc nl kl : Nat) (gs : List ByteArray) (cs : List C11.Ch) (zs : List Int) (w : World) (hF : FIn w m aa ab ga ca gs cs) (hZ : ZRow w la nl kl zs) :
    Calls Tryd.prog 3 #[.agg (fcs m (.slice aa m.ad.length ka) (.slice ab m.be.length kb) (.slice ga gs.length kg) (.slice ca cs.length kc)), .slice la nl kl] w fun e w' => e = .returned (.bool true) ∧ Below w.heap.size w w' := by
  obtain ⟨hz1, hz2, hz3, hz4, _⟩ := hZ
  obtain ⟨na, hna⟩ : ∃ n, m.ad.length = n := ⟨_, rfl⟩
  obtain ⟨nb, hnb⟩ : ∃ n, m.be.length = n := ⟨_, rfl⟩
  obtain ⟨ng, hng⟩ : ∃ n, gs.length = n := ⟨_, rfl⟩
  obtain ⟨nc, hnc⟩ : ∃ n, cs.length = n := ⟨_, rfl⟩
  rw [hna, hnb, hng, hnc]
  have CW := hide wakes13_any
  have CL := hide (fun (u : World) (hu : Below w.heap.size w u) => large_any m aa ab ga ca na nb ng nc ka kb kg kc gs u hng (by have := hF.mg; omega) (fun g hg => Nat.le_trans (hF.sg g hg) (by omega)) (hF.lg.below hu))
  obtain ⟨LB, hLB⟩ : ∃ b, lrgB (lsum gs 0) ng nc na nb = b := ⟨_, rfl⟩
  rw [hLB] at CL
  have HIN := hide (fun h : LB = false => lrg_in (hLB.trans h) hng)
  have CC := hide (fun (g1 : ng ≤ 200) (g2 : nc ≤ 200) (g3 : na ≤ 200) (g4 : nb ≤ 200) (u : World) (hu : Below w.heap.size w u) => copy_any m aa ab ga ca na nb ng nc ka kb kg kc gs cs u hna hnb hng hnc (by omega) (by omega) (by omega) (by omega) (hF.la.below hu) (hF.lb.below hu) (hF.lg.below hu) (hF.lc.below hu))
  have CI := hide (fun (u : World) (hu : Below w.heap.size w u) => ints_any la nl kl zs u hz1 hz2 hz3 (hz4.below hu))
  obtain ⟨us, hus⟩ : ∃ us, zs.take 300 = us := ⟨_, rfl⟩
  have hul : us.length ≤ 300 := by rw [← hus, List.length_take]; omega
  obtain ⟨nu, hnu⟩ : ∃ n, us.length = n := ⟨_, rfl⟩
  rw [hnu] at hul
  unfold InsR at CI
  rw [hus, hnu] at CI
  have C1 := hide (fun (p q g c l : Option Addr) (kp kq kg' kc' kl' : Nat) (g1 : ng ≤ 200) (g2 : nc ≤ 200) (g3 : na ≤ 200) (g4 : nb ≤ 200) (g5 : ∀ g ∈ gs, g.size ≤ 30000) (u : World) (i1 : Lst u p m.ad) (i2 : Lst u q m.be) (i3 : G10.SLst u g gs) (i4 : C11.CLst u c cs) (i5 : Lst u l us) => (close_any m p q g c l na nb ng nc kp kq kg' kc' nu kl' gs cs us u hna hnb hng hnc (by omega) (by omega) (by omega) (by omega) (fun x hx => Nat.le_trans (g5 x hx) (by omega)) i1 i2 i3 i4 hnu (by omega) i5).mono fun _ _ => cv_of)
  have C2 := hide (fun (l : Option Addr) (kl' : Nat) (g1 : ng ≤ 200) (g2 : nc ≤ 200) (g3 : na ≤ 200) (g4 : nb ≤ 200) (g5 : ∀ g ∈ gs, g.size ≤ 30000) (u : World) (hu : Below w.heap.size w u) (i5 : Lst u l us) => (rclose_any m aa ab ga ca l na nb ng nc ka kb kg kc nu kl' gs cs us u (hF.met hna hnb hu) hng hnc (by omega) (by omega) (by omega) (by omega) (fun x hx => Nat.le_trans (g5 x hx) (by omega)) (hF.lg.below hu) (hF.lc.below hu) hnu (by omega) i5).mono fun _ _ => cv_of)
  have KSM := hide (fun (a b : Option Addr) (n ca cb : Nat) (xs : List Int) (u : World) (h0 : xs.length = n) (h3 : n ≤ 1048576) (h1 : Lst u a xs) (h2 : Lst u b xs) => G10.ksame_any a b n ca cb xs u h0 h3 h1 h2)
  have HKF := hide (Blk.new w (fcs m (.slice aa na ka) (.slice ab nb kb) (.slice ga ng kg) (.slice ca nc kc)) 29)
  have HBF := hide ((Below.refl w.heap.size w).alloc (Nat.le_refl _) (.cells (fcs m (.slice aa na ka) (.slice ab nb kb) (.slice ga ng kg) (.slice ca nc kc)) 29))
  have HNU := hide hnu
  obtain ⟨V, hV⟩ : ∃ V, w.alloc (.cells (fcs m (.slice aa na ka) (.slice ab nb kb) (.slice ga ng kg) (.slice ca nc kc)) 29) = V := ⟨_, rfl⟩
  rw [hV] at HKF HBF
  simp only [fcs] at hV
  clear hLB hF hna hnb hng hnc hz1 hz2 hz3 hz4 hus hnu
  obtain ⟨x0, x1, x2, x3, x4, x5, x6, x7, x8, x9, x10, x11, x12, y0, y1, y2, y3, y4, y5, y6, y7, y8, y9, y10, y11, y12, flt⟩ := blk13 HKF.out
  go_enter Tryd.func3, Tryd.ntmps3
  go_wp2_with fail
  refine (CL.out _ HBF.out).mono ?_
  rintro e w1 ⟨rfl, h1⟩
  have HB1 := hide (below_t5 HBF.out h1)
  have HK1 := hide (HKF.out.below h1)
  clear h1 HKF HBF CL hV x0 x1 x2 x3 x4 x5 x6 x7 x8 x9 x10 x11 x12 y0 y1 y2 y3 y4 y5 y6 y7 y8 y9 y10 y11 y12 flt
  cases LB with
  | true =>
    go_wp2_with fail
    refine (CW.out _).mono ?_
    rintro e w2 ⟨rfl, h2⟩
    have HB2 := hide (below_t5 HB1.out h2)
    clear h2
    go_wp2_with fail
    go_ret
    exact ⟨rfl, HB2.out⟩
  | false =>
    obtain ⟨g1, g2, g3, g4, g5, g6⟩ := HIN.out rfl
    have HGG := hide (And.intro g1 (And.intro g2 (And.intro g3 (And.intro g4 g5))))
    clear g1 g2 g3 g4 g5 g6 HIN
    go_wp2_with fail
    refine (CI.out _ HB1.out).mono ?_
    rintro e w2 ⟨u1, k1, rfl, hl2, hb2, _, _⟩
    have HB2 := hide (below_t5 HB1.out hb2)
    have HK2 := hide (HK1.out.below hb2)
    have HU2 := hide hl2
    clear hb2 hl2 HB1 HK1
    obtain ⟨x0, x1, x2, x3, x4, x5, x6, x7, x8, x9, x10, x11, x12, y0, y1, y2, y3, y4, y5, y6, y7, y8, y9, y10, y11, y12, flt⟩ := blk13 HK2.out
    go_wp2_with fail
    refine (CC.out HGG.out.1 HGG.out.2.1 HGG.out.2.2.1 HGG.out.2.2.2.1 _ HB2.out).mono ?_
    rintro e w3 ⟨p, q, g, c, kp, kq, kg', kc', rfl, i1, i2, i3, i4, hb3⟩
    have C3 := hide (C1.out (some ⟨p, 0, none⟩) (some ⟨q, 0, none⟩) (some ⟨g, 0, none⟩) (some ⟨c, 0, none⟩) (some ⟨u1, 0, none⟩) kp kq kg' kc' k1 HGG.out.1 HGG.out.2.1 HGG.out.2.2.1 HGG.out.2.2.2.1 HGG.out.2.2.2.2 w3 i1 i2 i3 i4 (HU2.out.below hb3))
    have HB3 := hide (below_t5 HB2.out hb3)
    have HK3 := hide (HK2.out.below hb3)
    have HU3 := hide (HU2.out.below hb3)
    clear hb3 i1 i2 i3 i4 HB2 HK2 HU2 C1 CC x0 x1 x2 x3 x4 x5 x6 x7 x8 x9 x10 x11 x12 y0 y1 y2 y3 y4 y5 y6 y7 y8 y9 y10 y11 y12 flt
    go_wp2_with fail
    refine C3.out.mono ?_
    rintro e w4 ⟨L1, er1, a1, cap1, rfl, hrv1, hl4, hb4⟩
    have HB4 := hide (below_t5 HB3.out hb4)
    have HK4 := hide (HK3.out.below hb4)
    have HU4 := hide (HU3.out.below hb4)
    have HL4 := hide hl4
    have HRV := hide hrv1
    clear hb4 hl4 HB3 HK3 HU3 C3 hrv1
    obtain ⟨x0, x1, x2, x3, x4, x5, x6, x7, x8, x9, x10, x11, x12, y0, y1, y2, y3, y4, y5, y6, y7, y8, y9, y10, y11, y12, flt⟩ := blk13 HK4.out
    go_upto_region 5 with (fail)
    have HX := hide (Below.refl w4.heap.size w4)
    go_cut [8, 9] from 22 to 28 (fun s8 s9 wc => Hid (∃ L er a cap, s8 = .slice a L.length cap ∧ s9 = .int .i64 er ∧ RV m gs cs us ng L er ∧ Lst wc a L ∧ Below w4.heap.size w4 wc))
    case first =>
      go_region_with (first
        | (go_at_call 7; refine (CI.out _ (below_t5 HB4.out (by repeat (first | exact HX.out | refine bdr ?_)))).mono ?_; rintro e y ⟨u5, k5, rfl, hl5, hb5, _, _⟩; have HX0 := HX; replace HX := hide (show Below w4.heap.size w4 y from below_t5 (by repeat (first | exact HX0.out | refine bdr ?_)) hb5); have HU5 := hide hl5; clear HX0 hl5 hb5 x0 x1 x2 x3 x4 x5 x6 x7 x8 x9 x10 x11 x12 y0 y1 y2 y3 y4 y5 y6 y7 y8 y9 y10 y11 y12 flt; obtain ⟨x0, x1, x2, x3, x4, x5, x6, x7, x8, x9, x10, x11, x12, y0, y1, y2, y3, y4, y5, y6, y7, y8, y9, y10, y11, y12, flt⟩ := blk13 (HK4.out.below HX.out))
        | (go_at_call 10; refine (C2.out (some ⟨u5, 0, none⟩) k5 HGG.out.1 HGG.out.2.1 HGG.out.2.2.1 HGG.out.2.2.2.1 HGG.out.2.2.2.2 _ (below_t5 HB4.out (by repeat (first | exact HX.out | refine bdr ?_))) (by first | exact HU5.out | exact HU5.out.drewN 1)).mono ?_; rintro e y2 ⟨L2, er2, a2, cap2, rfl, hrv2, hl6, hb6⟩; have HX0 := HX; replace HX := hide (show Below w4.heap.size w4 y2 from below_t5 (by repeat (first | exact HX0.out | refine bdr ?_)) hb6); have HL6 := hide hl6; have HRV2 := hide hrv2; clear HX0 hl6 hb6 hrv2))
      all_goals
        go_wp2_with fail
        go_meet
        exact hide ⟨L2, er2, a2, cap2, rfl, rfl, HRV2.out, HL6.out, HX.out⟩
    case rest =>
      obtain ⟨L2, er2, a2, cap2, rfl, rfl, hrv2, hl6, hb6⟩ := hcut.out
      obtain ⟨rfl, rfl⟩ := HRV.out.uniq hrv2
      have hlen := hrv2.len
      have C5 := hide (KSM.out a1 a2 L1.length cap1 cap2 L1 wc rfl (by have := HGG.out.1; omega) (HL4.out.below hb6) hl6)
      have HB5 := hide (below_t5 HB4.out hb6)
      have HU5 := hide (HU4.out.below hb6)
      clear hcut hrv2 hl6 hb6 HRV HX HB4 HK4 HU4 HL4 C2 hlen x0 x1 x2 x3 x4 x5 x6 x7 x8 x9 x10 x11 x12 y0 y1 y2 y3 y4 y5 y6 y7 y8 y9 y10 y11 y12 flt
      go_wp2_with fail
      refine C5.out.mono ?_
      rintro e w6 ⟨rfl, n6, hw6⟩
      have HB6 := hide (show Below w.heap.size w w6 from by rw [hw6]; exact below_drewN HB5.out n6)
      have HU6 := hide (show Lst w6 (some ⟨u1, 0, none⟩) us from by rw [hw6]; exact HU5.out.drewN n6)
      clear hw6 C5 HB5 HU5
      go_wp2_with fail
      refine (CI.out _ HB6.out).mono ?_
      rintro e w7 ⟨u7, k7, rfl, hl7, hb7, _, _⟩
      have C7 := hide (KSM.out (some ⟨u1, 0, none⟩) (some ⟨u7, 0, none⟩) nu k1 k7 us w7 HNU.out (by omega) (HU6.out.below hb7) hl7)
      have HB7 := hide (below_t5 HB6.out hb7)
      clear hl7 hb7 HB6 HU6
      go_wp2_with fail
      refine C7.out.mono ?_
      rintro e w8 ⟨rfl, n8, hw8⟩
      have HB8 := hide (show Below w.heap.size w w8 from by rw [hw8]; exact below_drewN HB7.out n8)
      clear hw8 C7 HB7
      go_wp2_with fail
      refine (CW.out _).mono ?_
      rintro e w9 ⟨rfl, hb9⟩
      have HB9 := hide (below_t5 HB8.out hb9)
      clear hb9
      go_wp2_with fail
      go_ret
      exact ⟨rfl, HB9.out⟩
end Go.Proofs.YthnpnkiomknkeaaDoor.S13
