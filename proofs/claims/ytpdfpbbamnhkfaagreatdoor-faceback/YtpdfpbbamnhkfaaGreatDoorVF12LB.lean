/-
  The law FaceBack, walked.
-/
import Derived.Deep.RegionHeld3
import Derived.Test.YtpdfpbbamnhkfaaGreatDoorV38
import Derived.Test.YtpdfpbbamnhkfaaGreatDoorV49
import Derived.Test.YtpdfpbbamnhkfaaGreatDoorV50
namespace Go.Proofs.YtpdfpbbamnhkfaaGreatDoor.F12
open Go.RowKit Go.Deep
set_option linter.unusedVariables false
set_option linter.unusedSimpArgs false

theorem lrg_jg {gs : List ByteArray} {ng nc na nb : Nat} (h : lrgB (lsum gs 0) ng nc na nb = false) (hng : gs.length = ng) : (G10.jg gs).length ≤ 40000 := by
  have h1 := lrg_in h hng
  unfold lrgB at h
  simp only [Bool.or_eq_false_iff, decide_eq_false_iff_not] at h
  have ht := lsum_tot gs 0 (by omega)
  have hj := G10.jg_le gs
  omega
theorem sv_bad {m : Mt} {gs : List ByteArray} {cs : List C11.Ch} (h : ckV m gs cs ≠ 0) : svS m gs cs = ⟨#[]⟩ ∧ svE m gs cs = ckV m gs cs := by
  unfold svS svE; rw [if_neg h, if_neg h]; exact ⟨rfl, rfl⟩
set_option maxRecDepth 8000 in
set_option maxHeartbeats 16000000 in
theorem back_walk (m : Mt) (aa ab ga ca : Option Addr) (ka kb kg kc : Nat) (gs : List ByteArray) (cs : List C11.Ch) (w : World) (hF : FIn w m aa ab ga ca gs cs) (hW : S8.Glo8 w) :
    Calls Tryz.prog 7 #[.agg (fcs m (.slice aa m.ad.length ka) (.slice ab m.be.length kb) (.slice ga gs.length kg) (.slice ca cs.length kc))] w fun e w' => e = .returned (.bool true) ∧ Below w.heap.size w w' := by
  obtain ⟨na, hna⟩ : ∃ n, m.ad.length = n := ⟨_, rfl⟩
  obtain ⟨nb, hnb⟩ : ∃ n, m.be.length = n := ⟨_, rfl⟩
  obtain ⟨ng, hng⟩ : ∃ n, gs.length = n := ⟨_, rfl⟩
  obtain ⟨nc, hnc⟩ : ∃ n, cs.length = n := ⟨_, rfl⟩
  rw [hna, hnb, hng, hnc]
  have CW := hide (fun (u : World) (hu : Below w.heap.size w u) => wakes12_any u (hW.below hu))
  have CL := hide (fun (u : World) (hu : Below w.heap.size w u) => large_any m aa ab ga ca na nb ng nc ka kb kg kc gs u hng (by have := hF.mg; omega) (fun g hg => Nat.le_trans (hF.sg g hg) (by omega)) (hF.lg.below hu))
  have bF := (Below.refl w.heap.size w).alloc (Nat.le_refl _) (.cells (fcs m (.slice aa na ka) (.slice ab nb kb) (.slice ga ng kg) (.slice ca nc kc)) 29)
  have kF := Blk.new w (fcs m (.slice aa na ka) (.slice ab nb kb) (.slice ga ng kg) (.slice ca nc kc)) 29
  obtain ⟨LB, hLB⟩ : ∃ b, lrgB (lsum gs 0) ng nc na nb = b := ⟨_, rfl⟩
  rw [hLB] at CL
  have HIN := hide (fun h : LB = false => lrg_in (hLB.trans h) hng)
  have CC := hide (fun (g1 : ng ≤ 200) (g2 : nc ≤ 200) (g3 : na ≤ 200) (g4 : nb ≤ 200) (u : World) (hu : Below w.heap.size w u) => copy_any m aa ab ga ca na nb ng nc ka kb kg kc gs cs u hna hnb hng hnc (by omega) (by omega) (by omega) (by omega) (hF.la.below hu) (hF.lb.below hu) (hF.lg.below hu) (hF.lc.below hu))
  have HJG := hide (fun h : LB = false => lrg_jg (hLB.trans h) hng)
  have C1 := hide (fun (p q g c : Option Addr) (kp kq kg' kc' : Nat) (g1 : ng ≤ 200) (g2 : nc ≤ 200) (g3 : na ≤ 200) (g4 : nb ≤ 200) (g5 : ∀ g ∈ gs, g.size ≤ 30000) (g6 : (G10.jg gs).length ≤ 1048576) (u : World) (hu : Below w.heap.size w u) (i1 : Lst u p m.ad) (i2 : Lst u q m.be) (i3 : G10.SLst u g gs) (i4 : C11.CLst u c cs) => save_any m p q g c na nb ng nc kp kq kg' kc' gs cs u hna hnb hng hnc (by omega) (by omega) (by omega) (by omega) (fun x hx => Nat.le_trans (g5 x hx) (by omega)) g6 i1 i2 i3 i4 (hW.below hu))
  have C3 := hide (fun (p q g c : Option Addr) (kp kq kg' kc' : Nat) (g1 : ng ≤ 200) (g2 : nc ≤ 200) (g3 : na ≤ 200) (g4 : nb ≤ 200) (g5 : ∀ g ∈ gs, g.size ≤ 30000) (u : World) (i1 : Lst u p m.ad) (i2 : Lst u q m.be) (i3 : G10.SLst u g gs) (i4 : C11.CLst u c cs) => check_any m p q g c na nb ng nc kp kq kg' kc' gs cs u hna hnb hng hnc (by omega) (by omega) (by omega) (by omega) (fun x hx => Nat.le_trans (g5 x hx) (by omega)) i1 i2 i3 i4)
  have CPd := hide (fun (g1 : ng ≤ 200) (g2 : nc ≤ 200) (g3 : na ≤ 200) (g4 : nb ≤ 200) (g5 : ∀ g ∈ gs, g.size ≤ 30000) (u : World) (hu : Below w.heap.size w u) => rpadded_any m aa ab ga ca na nb ng nc ka kb kg kc gs cs u hna hnb hng hnc (by omega) (by omega) (by omega) (by omega) (fun x hx => Nat.le_trans (g5 x hx) (by omega)) (hF.la.below hu) (hF.lb.below hu) (hF.lg.below hu) (hF.lc.below hu))
  have CLd := hide (fun (hs : (svS m gs cs).size ≤ 1000000) (u : World) (hu : Below w.heap.size w u) => load_any (svS m gs cs) u hs (hW.below hu))
  have HPZ := hide (show (∀ g ∈ gs, g.size ≤ 30000) → ∀ g ∈ pdG gs, g.size ≤ 1000000 from fun g5 x hx => by
    unfold pdG at hx
    obtain ⟨y, hy, rfl⟩ := List.mem_map.1 hx
    have h1 := g5 y hy
    rw [Lib.size_eq, pdS_l, G10.pdT_len, ← Lib.size_eq]
    have : G10.lck y.size ≤ 3 := by unfold G10.lck; omega
    omega)
  have CKg := hide (fun (g5 : ∀ g ∈ gs, g.size ≤ 30000) (g1 : ng ≤ 200) (g2 : nc ≤ 200) (g3 : na ≤ 200) (g4 : nb ≤ 200) (p q g c : Option Addr) (k1 k2 k3 k4 : Nat) (u : World) (i1 : Lst u p m.ad) (i2 : Lst u q m.be) (i3 : G10.SLst u g (pdG gs)) (i4 : C11.CLst u c cs) => check_any (lgM m) p q g c na nb ng nc k1 k2 k3 k4 (pdG gs) cs u hna hnb (by rw [pdG_len]; exact hng) hnc (by omega) (by omega) (by omega) (by omega) (HPZ.out g5) i1 i2 i3 i4)
  have CSm := hide (fun (g1 : ng ≤ 200) (g2 : nc ≤ 200) (g3 : na ≤ 200) (g4 : nb ≤ 200) (p q g c p2 q2 g2' c2 : Option Addr) (k1 k2 k3 k4 k5 k6 k7 k8 : Nat) (u : World) (i1 : Lst u p m.ad) (j1 : Lst u p2 m.ad) (i2 : Lst u q m.be) (j2 : Lst u q2 m.be) (i3 : G10.SLst u g (pdG gs)) (j3 : G10.SLst u g2' (pdG gs)) (i4 : C11.CLst u c cs) (j4 : C11.CLst u c2 cs) => rsame_any (lgM m) p p2 q q2 g g2' c c2 na nb ng nc k1 k2 k3 k4 k5 k6 k7 k8 (pdG gs) cs u hna hnb (by rw [pdG_len]; exact hng) hnc (by omega) (by omega) (by omega) (by omega) i1 j1 i2 j2 i3 j3 i4 j4)
  have HBAD := hide (fun h : ckV m gs cs ≠ 0 => sv_bad h)
  have HGOOD := hide (show ckV m gs cs = 0 → LB = false → svE m gs cs = 0 ∧ (svS m gs cs).size ≤ 1000000 ∧ ldV (svS m gs cs) = .ok (lgM m, pdG gs, cs) ∧ ckV (lgM m) (pdG gs) cs = 0 ∧ nb = na ∧ ng = na from fun h1 h2 => by
    obtain ⟨g1, g2, g3, g4, g5, g6⟩ := lrg_in (hLB.trans h2) hng
    obtain ⟨e1, e2⟩ := sv_ok h1 (lrg_jg (hLB.trans h2) hng) (by omega) (by omega) (by omega)
    obtain ⟨hg, hl, _, _⟩ := ck_in h1
    exact ⟨e1, e2, ld_back e1 g6, ck_pd h1, by have := (good_in hg).2.2.2.2.1; omega, by omega⟩)
  unfold LdR at CLd
  have HNG := hide hng
  have HNC := hide hnc
  obtain ⟨zk, hck⟩ : ∃ c, ckV m gs cs = c := ⟨_, rfl⟩
  rw [hck] at C3 HBAD HGOOD
  obtain ⟨RS, hRS⟩ : ∃ R, svS m gs cs = R := ⟨_, rfl⟩
  obtain ⟨RE, hRE⟩ : ∃ R, svE m gs cs = R := ⟨_, rfl⟩
  rw [hRS, hRE] at C1 HBAD HGOOD
  rw [hRS] at CLd
  obtain ⟨zl, hzl⟩ : ∃ c, ckV (lgM m) (pdG gs) cs = c := ⟨_, rfl⟩
  rw [hzl] at CKg HGOOD
  obtain ⟨up, sc, de, gap, b0, b1, b2, b3, lg, ad, be⟩ := m
  simp only [fcs, CoR, lgM] at CC C1 C3 CPd CKg CSm HGOOD CL bF kF ⊢
  have HKF := hide kF
  have HBF := hide bF
  have x0 := kF.cell 0
  have x1 := kF.cell 1
  have x2 := kF.cell 2
  have x3 := kF.cell 3
  have x4 := kF.cell 4
  have x5 := kF.cell 5
  have x6 := kF.cell 6
  have x7 := kF.cell 7
  have x8 := kF.cell 8
  have x9 := kF.cell 9
  have x10 := kF.cell 10
  have x11 := kF.cell 11
  have x12 := kF.cell 12
  simp at x0 x1 x2 x3 x4 x5 x6 x7 x8 x9 x10 x11 x12
  have flt := kF.lt
  clear kF bF hLB hF hW hna hnb hng hnc hck hRS hRE hzl
  go_enter Tryz.func7, Tryz.ntmps7
  go_wp2_with fail
  refine (CL.out _ HBF.out).mono ?_
  rintro e w1 ⟨rfl, h1⟩
  have HB1 := hide (below_t5 HBF.out h1)
  have HK1 := hide (HKF.out.below h1)
  clear h1 HKF HBF CL flt x0 x1 x2 x3 x4 x5 x6 x7 x8 x9 x10 x11 x12
  cases LB with
  | true =>
    go_wp2_with fail
    refine (CW.out _ HB1.out).mono ?_
    rintro e w2 ⟨rfl, h2⟩
    have HB2 := hide (below_t5 HB1.out h2)
    clear h2
    go_wp2_with fail
    go_ret
    exact ⟨rfl, HB2.out⟩
  | false =>
    obtain ⟨g1, g2, g3, g4, g5, g6⟩ := HIN.out rfl
    have g7 := HJG.out (by first | rfl | trivial)
    by_cases hz0 : zk = 0
    case neg =>
      obtain ⟨rfl, rfl⟩ := HBAD.out hz0
      have hz1 : (RE == 0) = false := by simpa using hz0
      have hk := HK1.out
      have x0 := hk.cell 0
      have x1 := hk.cell 1
      have x2 := hk.cell 2
      have x3 := hk.cell 3
      have x4 := hk.cell 4
      have x5 := hk.cell 5
      have x6 := hk.cell 6
      have x7 := hk.cell 7
      have x8 := hk.cell 8
      have x9 := hk.cell 9
      have x10 := hk.cell 10
      have x11 := hk.cell 11
      have x12 := hk.cell 12
      simp at x0 x1 x2 x3 x4 x5 x6 x7 x8 x9 x10 x11 x12
      have flt := hk.lt
      have CC1 := hide (fun (u : World) (hu : Below w1.heap.size w1 u) => CC.out g1 g2 g3 g4 u (below_t5 HB1.out hu))
      clear hk CC CPd CLd CKg CSm HGOOD HBAD hz0
      go_wp2_with fail
      refine (CC1.out _ (Below.refl _ _)).mono ?_
      rintro e w2 ⟨p, q, g, c, kp, kq, kg', kc', rfl, i1, i2, i3, i4, h2⟩
      simp only [fcs]
      have CA := hide (C1.out (some ⟨p, 0, none⟩) (some ⟨q, 0, none⟩) (some ⟨g, 0, none⟩) (some ⟨c, 0, none⟩) kp kq kg' kc' g1 g2 g3 g4 g5 g6 w2 (below_t5 HB1.out h2) i1 i2 i3 i4)
      have H2 := hide h2
      clear i1 i2 i3 i4 h2 C1 flt x0 x1 x2 x3 x4 x5 x6 x7 x8 x9 x10 x11 x12
      go_wp2_with fail
      refine CA.out.mono ?_
      rintro e w3 ⟨rfl, h3⟩
      have H3 := hide (below_t5 H2.out h3)
      have hk := HK1.out.below (below_t5 H2.out h3)
      clear h3 H2 CA
      have x0 := hk.cell 0
      have x1 := hk.cell 1
      have x2 := hk.cell 2
      have x3 := hk.cell 3
      have x4 := hk.cell 4
      have x5 := hk.cell 5
      have x6 := hk.cell 6
      have x7 := hk.cell 7
      have x8 := hk.cell 8
      have x9 := hk.cell 9
      have x10 := hk.cell 10
      have x11 := hk.cell 11
      have x12 := hk.cell 12
      simp at x0 x1 x2 x3 x4 x5 x6 x7 x8 x9 x10 x11 x12
      have flt := hk.lt
      clear hk
      go_wp2_with fail
      refine (CC1.out _ H3.out).mono ?_
      rintro e w4 ⟨p2, q2, g2', c2, kp2, kq2, kg2, kc2, rfl, i1, i2, i3, i4, h4⟩
      simp only [fcs]
      have CB := hide (C3.out (some ⟨p2, 0, none⟩) (some ⟨q2, 0, none⟩) (some ⟨g2', 0, none⟩) (some ⟨c2, 0, none⟩) kp2 kq2 kg2 kc2 g1 g2 g3 g4 g5 w4 i1 i2 i3 i4)
      have H4 := hide (below_t5 H3.out h4)
      clear i1 i2 i3 i4 h4 H3 CC1 C3 flt x0 x1 x2 x3 x4 x5 x6 x7 x8 x9 x10 x11 x12
      go_wp2_with fail
      refine CB.out.mono ?_
      rintro e w5 ⟨rfl, h5⟩
      have H5 := hide (below_t5 HB1.out (below_t5 H4.out h5))
      clear h5 H4 CB
      go_wp2_with fail
      refine (CW.out _ H5.out).mono ?_
      rintro e w6 ⟨rfl, h6⟩
      have H6 := hide (below_t5 H5.out h6)
      clear h6 H5
      go_wp2_with fail
      go_ret
      exact ⟨rfl, H6.out⟩
    subst hz0
    obtain ⟨rfl, hRS2, hld, rfl, rfl, rfl⟩ := HGOOD.out (by first | rfl | trivial) (by first | rfl | trivial)
    have CLe := hide (fun (u : World) (hu : Below w.heap.size w u) => CLd.out hRS2 u hu)
    rw [hld] at CLe
    dsimp only at CLe
    clear HGOOD HBAD CLd hld hRS2
    have hk := HK1.out
    have x0 := hk.cell 0
    have x1 := hk.cell 1
    have x2 := hk.cell 2
    have x3 := hk.cell 3
    have x4 := hk.cell 4
    have x5 := hk.cell 5
    have x6 := hk.cell 6
    have x7 := hk.cell 7
    have x8 := hk.cell 8
    have x9 := hk.cell 9
    have x10 := hk.cell 10
    have x11 := hk.cell 11
    have x12 := hk.cell 12
    simp at x0 x1 x2 x3 x4 x5 x6 x7 x8 x9 x10 x11 x12
    have flt := hk.lt
    have CC1 := hide (CC.out g1 g2 g1 g1 w1 HB1.out)
    clear hk CC
    go_wp2_with fail
    refine CC1.out.mono ?_
    rintro e w2 ⟨p, q, g, c, kp, kq, kg', kc', rfl, i1, i2, i3, i4, h2⟩
    simp only [fcs]
    have CA := hide (C1.out (some ⟨p, 0, none⟩) (some ⟨q, 0, none⟩) (some ⟨g, 0, none⟩) (some ⟨c, 0, none⟩) kp kq kg' kc' g1 g2 g1 g1 g5 g6 w2 (below_t5 HB1.out h2) i1 i2 i3 i4)
    have H2 := hide h2
    clear i1 i2 i3 i4 h2 C1 flt x0 x1 x2 x3 x4 x5 x6 x7 x8 x9 x10 x11 x12 CC1 C3
    go_wp2_with fail
    refine CA.out.mono ?_
    rintro e w3 ⟨rfl, h3⟩
    have H3 := hide (below_t5 H2.out h3)
    have CL3 := hide (CLe.out w3 (below_t5 HB1.out (below_t5 H2.out h3)))
    clear h3 H2 CA CLe
    go_wp2_with fail
    refine CL3.out.mono ?_
    rintro e w4 ⟨h4, p, q, g, c, cc, k, e1, e2, e0, e3, e4, e5, rfl, i1, i2, i3, i4⟩
    obtain rfl : ng = k := by rw [← e3, pdG_len]; exact HNG.out.symm
    rw [HNC.out]
    simp only [fcs, lgM]
    have hb4 := below_t5 H3.out h4
    have bX := (Below.refl w4.heap.size w4).alloc (Nat.le_refl _) (.cells #[.int .i64 up, .int .i64 sc, .int .i64 de, .int .i64 gap, .int .i64 b0, .int .i64 b1, .int .i64 b2, .int .i64 b3, .bool true, .slice (some ⟨p, 0, none⟩) ng ng, .slice (some ⟨q, 0, none⟩) ng ng, .slice (some ⟨g, 0, none⟩) ng ng, .slice c nc cc] 29)
    have kX := Blk.new w4 #[.int .i64 up, .int .i64 sc, .int .i64 de, .int .i64 gap, .int .i64 b0, .int .i64 b1, .int .i64 b2, .int .i64 b3, .bool true, .slice (some ⟨p, 0, none⟩) ng ng, .slice (some ⟨q, 0, none⟩) ng ng, .slice (some ⟨g, 0, none⟩) ng ng, .slice c nc cc] 29
    have hb := below_t5 hb4 bX
    have kf := HK1.out.below hb
    have hbw := below_t5 HB1.out hb
    have i1 := i1.below bX
    have i2 := i2.below bX
    have i3 := i3.below bX
    have i4 := i4.below bX
    go_upto_region 7 with (fail)
    generalize w4.alloc (.cells #[.int .i64 up, .int .i64 sc, .int .i64 de, .int .i64 gap, .int .i64 b0, .int .i64 b1, .int .i64 b2, .int .i64 b3, .bool true, .slice (some ⟨p, 0, none⟩) ng ng, .slice (some ⟨q, 0, none⟩) ng ng, .slice (some ⟨g, 0, none⟩) ng ng, .slice c nc cc] 29) = V at bX kX hb kf hbw i1 i2 i3 i4 ⊢
    obtain ⟨X, hX⟩ : ∃ X, w4.heap.size = X := ⟨_, rfl⟩
    rw [hX] at kX ⊢
    have CPx := hide (fun (u : World) (hu : Below V.heap.size V u) => CPd.out g1 g2 g1 g1 g5 u (below_t5 hbw hu))
    have CKx := hide (fun (u : World) (hu : Below V.heap.size V u) => CKg.out g5 g1 g2 g1 g1 (some ⟨p, 0, none⟩) (some ⟨q, 0, none⟩) (some ⟨g, 0, none⟩) c ng ng ng cc u (i1.below hu) (i2.below hu) (i3.below hu) (i4.below hu))
    have CSx := hide (fun (p2 q2 g2' c2 : Option Addr) (k5 k6 k7 k8 : Nat) (u : World) (hu : Below V.heap.size V u) (j1 : Lst u p2 ad) (j2 : Lst u q2 be) (j3 : G10.SLst u g2' (pdG gs)) (j4 : C11.CLst u c2 cs) => CSm.out g1 g2 g1 g1 (some ⟨p, 0, none⟩) (some ⟨q, 0, none⟩) (some ⟨g, 0, none⟩) c p2 q2 g2' c2 ng ng ng cc k5 k6 k7 k8 u (i1.below hu) j1 (i2.below hu) j2 (i3.below hu) j3 (i4.below hu) j4)
    have CV := hide (fun (u : World) (hu : Below V.heap.size V u) => CW.out u (below_t5 hbw hu))
    have KS : Hid (∀ x, Below V.heap.size V x → w.heap.size < x.heap.size ∧ x.cell? ⟨w.heap.size, 0, none⟩ = some (.int .i64 up) ∧ x.cell? ⟨w.heap.size, 1, none⟩ = some (.int .i64 sc) ∧ x.cell? ⟨w.heap.size, 2, none⟩ = some (.int .i64 de) ∧ x.cell? ⟨w.heap.size, 3, none⟩ = some (.int .i64 gap) ∧ x.cell? ⟨w.heap.size, 4, none⟩ = some (.int .i64 b0) ∧ x.cell? ⟨w.heap.size, 5, none⟩ = some (.int .i64 b1) ∧ x.cell? ⟨w.heap.size, 6, none⟩ = some (.int .i64 b2) ∧ x.cell? ⟨w.heap.size, 7, none⟩ = some (.int .i64 b3) ∧ x.cell? ⟨w.heap.size, 8, none⟩ = some (.bool lg) ∧ x.cell? ⟨w.heap.size, 9, none⟩ = some (.slice aa ng ka) ∧ x.cell? ⟨w.heap.size, 10, none⟩ = some (.slice ab ng kb) ∧ x.cell? ⟨w.heap.size, 11, none⟩ = some (.slice ga ng kg) ∧ x.cell? ⟨w.heap.size, 12, none⟩ = some (.slice ca nc kc) ∧ X < x.heap.size ∧ x.cell? ⟨X, 0, none⟩ = some (.int .i64 up) ∧ x.cell? ⟨X, 1, none⟩ = some (.int .i64 sc) ∧ x.cell? ⟨X, 2, none⟩ = some (.int .i64 de) ∧ x.cell? ⟨X, 3, none⟩ = some (.int .i64 gap) ∧ x.cell? ⟨X, 4, none⟩ = some (.int .i64 b0) ∧ x.cell? ⟨X, 5, none⟩ = some (.int .i64 b1) ∧ x.cell? ⟨X, 6, none⟩ = some (.int .i64 b2) ∧ x.cell? ⟨X, 7, none⟩ = some (.int .i64 b3) ∧ x.cell? ⟨X, 8, none⟩ = some (.bool true) ∧ x.cell? ⟨X, 9, none⟩ = some (.slice (some ⟨p, 0, none⟩) ng ng) ∧ x.cell? ⟨X, 10, none⟩ = some (.slice (some ⟨q, 0, none⟩) ng ng) ∧ x.cell? ⟨X, 11, none⟩ = some (.slice (some ⟨g, 0, none⟩) ng ng) ∧ x.cell? ⟨X, 12, none⟩ = some (.slice c nc cc)) := hide fun x hx => by
      have k1 := kf.below hx
      have k2 := kX.below hx
      exact ⟨k1.lt, by simpa using k1.cell 0, by simpa using k1.cell 1, by simpa using k1.cell 2, by simpa using k1.cell 3, by simpa using k1.cell 4, by simpa using k1.cell 5, by simpa using k1.cell 6, by simpa using k1.cell 7, by simpa using k1.cell 8, by simpa using k1.cell 9, by simpa using k1.cell 10, by simpa using k1.cell 11, by simpa using k1.cell 12, k2.lt, by simpa using k2.cell 0, by simpa using k2.cell 1, by simpa using k2.cell 2, by simpa using k2.cell 3, by simpa using k2.cell 4, by simpa using k2.cell 5, by simpa using k2.cell 6, by simpa using k2.cell 7, by simpa using k2.cell 8, by simpa using k2.cell 9, by simpa using k2.cell 10, by simpa using k2.cell 11, by simpa using k2.cell 12⟩
    have HX := hide (Below.refl V.heap.size V)
    have HBV := hide hbw
    clear CPd CKg CSm CW HK1 HB1 H3 bX kX hb kf hbw hb4 i1 i2 i3 i4 h4 hX g1 g2 g5 g6 g7 HIN e0 e1 e2 e3 e4 e5 HNG HNC HPZ HJG CL3
    go_wp2_with fail
    go_region_held3 (fun x => w.heap.size < x.heap.size ∧ x.cell? ⟨w.heap.size, 0, none⟩ = some (.int .i64 up) ∧ x.cell? ⟨w.heap.size, 1, none⟩ = some (.int .i64 sc) ∧ x.cell? ⟨w.heap.size, 2, none⟩ = some (.int .i64 de) ∧ x.cell? ⟨w.heap.size, 3, none⟩ = some (.int .i64 gap) ∧ x.cell? ⟨w.heap.size, 4, none⟩ = some (.int .i64 b0) ∧ x.cell? ⟨w.heap.size, 5, none⟩ = some (.int .i64 b1) ∧ x.cell? ⟨w.heap.size, 6, none⟩ = some (.int .i64 b2) ∧ x.cell? ⟨w.heap.size, 7, none⟩ = some (.int .i64 b3) ∧ x.cell? ⟨w.heap.size, 8, none⟩ = some (.bool lg) ∧ x.cell? ⟨w.heap.size, 9, none⟩ = some (.slice aa ng ka) ∧ x.cell? ⟨w.heap.size, 10, none⟩ = some (.slice ab ng kb) ∧ x.cell? ⟨w.heap.size, 11, none⟩ = some (.slice ga ng kg) ∧ x.cell? ⟨w.heap.size, 12, none⟩ = some (.slice ca nc kc) ∧ X < x.heap.size ∧ x.cell? ⟨X, 0, none⟩ = some (.int .i64 up) ∧ x.cell? ⟨X, 1, none⟩ = some (.int .i64 sc) ∧ x.cell? ⟨X, 2, none⟩ = some (.int .i64 de) ∧ x.cell? ⟨X, 3, none⟩ = some (.int .i64 gap) ∧ x.cell? ⟨X, 4, none⟩ = some (.int .i64 b0) ∧ x.cell? ⟨X, 5, none⟩ = some (.int .i64 b1) ∧ x.cell? ⟨X, 6, none⟩ = some (.int .i64 b2) ∧ x.cell? ⟨X, 7, none⟩ = some (.int .i64 b3) ∧ x.cell? ⟨X, 8, none⟩ = some (.bool true) ∧ x.cell? ⟨X, 9, none⟩ = some (.slice (some ⟨p, 0, none⟩) ng ng) ∧ x.cell? ⟨X, 10, none⟩ = some (.slice (some ⟨q, 0, none⟩) ng ng) ∧ x.cell? ⟨X, 11, none⟩ = some (.slice (some ⟨g, 0, none⟩) ng ng) ∧ x.cell? ⟨X, 12, none⟩ = some (.slice c nc cc)) (exact KS.out _ (below_d HX.out (Below.refl _ _) rfl rfl rfl rfl)) ((first | (go_at_call 25; refine (CPx.out _ ?_).mono ?_; (exact below_d HX.out (Below.refl _ _) rfl rfl rfl rfl); rintro e wy ⟨p2, q2, g2', c2, kp2, kq2, kg2, kc2, rfl, j1, j2, j3, j4, hy⟩; have HJ := hide (And.intro j1 (And.intro j2 (And.intro j3 j4))); replace HX := hide (below_d HX.out hy rfl rfl rfl rfl); clear j1 j2 j3 j4 hy) | (go_at_call 14; refine (CSx.out _ _ _ _ _ _ _ _ _ ?_ ?_ ?_ ?_ ?_).mono ?_; (exact below_d HX.out (Below.refl _ _) rfl rfl rfl rfl); (exact HJ.out.1); (exact HJ.out.2.1); (exact HJ.out.2.2.1); (exact HJ.out.2.2.2); rintro e wz ⟨rfl, hy⟩; replace HX := hide (below_d HX.out hy rfl rfl rfl rfl); clear hy) | (go_at_call 12; refine (CKx.out _ ?_).mono ?_; (exact below_d HX.out (Below.refl _ _) rfl rfl rfl rfl); rintro e wv ⟨rfl, hy⟩; replace HX := hide (below_d HX.out hy rfl rfl rfl rfl); clear hy) | (go_at_call 10; refine (CV.out _ ?_).mono ?_; (exact below_d HX.out (Below.refl _ _) rfl rfl rfl rfl); rintro e wu ⟨rfl, hy⟩; replace HX := hide (below_d HX.out hy rfl rfl rfl rfl); clear hy)))
    go_wp2_with fail
    go_ret
    exact ⟨rfl, below_t5 HBV.out HX.out⟩
end Go.Proofs.YtpdfpbbamnhkfaaGreatDoor.F12
