/-
  The law FaceSaves, walked.
-/
import Derived.Test.YtpdfpbbamnhkfaaGreatDoorZ37
import Derived.Test.YtpdfpbbamnhkfaaGreatDoorZ47
import Derived.Test.YtpdfpbbamnhkfaaGreatDoorZ48
import Derived.Test.YtpdfpbbamnhkfaaGreatDoorZ49
namespace Go.Proofs.YtpdfpbbamnhkfaaGreatDoor.F12
open Go.RowKit Go.Deep
set_option linter.unusedVariables false
set_option linter.unusedSimpArgs false

set_option maxRecDepth 8000 in
set_option maxHeartbeats 16000000 in
theorem saves_walk (m : Mt) (aa ab ga ca : Option Addr) (ka kb kg kc : Nat) (gs : List ByteArray) (cs : List C11.Ch) (w : World) (hF : FIn w m aa ab ga ca gs cs) (hW : S8.Glo8 w) :
    Calls Tryz.prog 5 #[.agg (fcs m (.slice aa m.ad.length ka) (.slice ab m.be.length kb) (.slice ga gs.length kg) (.slice ca cs.length kc))] w fun e w' => e = .returned (.bool true) ∧ Below w.heap.size w w' := by
  obtain ⟨na, hna⟩ : ∃ n, m.ad.length = n := ⟨_, rfl⟩
  obtain ⟨nb, hnb⟩ : ∃ n, m.be.length = n := ⟨_, rfl⟩
  obtain ⟨ng, hng⟩ : ∃ n, gs.length = n := ⟨_, rfl⟩
  obtain ⟨nc, hnc⟩ : ∃ n, cs.length = n := ⟨_, rfl⟩
  rw [hna, hnb, hng, hnc]
  have CW := hide (fun (u : World) (hu : Below w.heap.size w u) => wakes12_any u (hW.below hu))
  have CL := hide (fun (u : World) (hu : Below w.heap.size w u) => large_any m aa ab ga ca na nb ng nc ka kb kg kc gs u hng (by have := hF.mg; omega) (fun g hg => Nat.le_trans (hF.sg g hg) (by omega)) (hF.lg.below hu))
  have bF := (Below.refl w.heap.size w).alloc (Nat.le_refl _) (.cells (fcs m (.slice aa na ka) (.slice ab nb kb) (.slice ga ng kg) (.slice ca nc kc)) 29)
  have kF := Blk.new w (fcs m (.slice aa na ka) (.slice ab nb kb) (.slice ga ng kg) (.slice ca nc kc)) 29
  obtain ⟨LB, hLB⟩ : ∃ b, lrgB (lsum gs 0) ng nc na nb = b := ⟨_, rfl⟩
  rw [hLB] at CL
  have HIN := hide (fun h : LB = false => lrg_in (hLB.trans h) hng)
  have CC := hide (fun (g1 : ng ≤ 200) (g2 : nc ≤ 200) (g3 : na ≤ 200) (g4 : nb ≤ 200) (u : World) (hu : Below w.heap.size w u) => copy_any m aa ab ga ca na nb ng nc ka kb kg kc gs cs u hna hnb hng hnc (by omega) (by omega) (by omega) (by omega) (hF.la.below hu) (hF.lb.below hu) (hF.lg.below hu) (hF.lc.below hu))
  have C1 := hide (fun (p q g c : Option Addr) (kp kq kg' kc' : Nat) (g1 : ng ≤ 200) (g2 : nc ≤ 200) (g3 : na ≤ 200) (g4 : nb ≤ 200) (g5 : ∀ g ∈ gs, g.size ≤ 30000) (g6 : (G10.jg gs).length ≤ 1048576) (u : World) (hu : Below w.heap.size w u) (i1 : Lst u p m.ad) (i2 : Lst u q m.be) (i3 : G10.SLst u g gs) (i4 : C11.CLst u c cs) => save_any m p q g c na nb ng nc kp kq kg' kc' gs cs u hna hnb hng hnc (by omega) (by omega) (by omega) (by omega) (fun x hx => Nat.le_trans (g5 x hx) (by omega)) g6 i1 i2 i3 i4 (hW.below hu))
  have C2 := hide (fun (g1 : ng ≤ 200) (g2 : nc ≤ 200) (g3 : na ≤ 200) (g4 : nb ≤ 200) (g5 : ∀ g ∈ gs, g.size ≤ 30000) (g6 : (G10.jg gs).length ≤ 1048576) (u : World) (hu : Below w.heap.size w u) => rsave_any m aa ab ga ca na nb ng nc ka kb kg kc gs cs u (hF.met hna hnb hu) hng hnc (by omega) (by omega) (by omega) (by omega) (fun x hx => Nat.le_trans (g5 x hx) (by omega)) g6 (hF.lg.below hu) (hF.lc.below hu))
  have C3 := hide (fun (p q g c : Option Addr) (kp kq kg' kc' : Nat) (g1 : ng ≤ 200) (g2 : nc ≤ 200) (g3 : na ≤ 200) (g4 : nb ≤ 200) (u : World) (hu : Below w.heap.size w u) (i1 : Lst u p m.ad) (i2 : Lst u q m.be) (i3 : G10.SLst u g gs) (i4 : C11.CLst u c cs) => rsame_any m p aa q ab g ga c ca na nb ng nc kp kq kg' kc' ka kb kg kc gs cs u hna hnb hng hnc (by omega) (by omega) (by omega) (by omega) i1 (hF.la.below hu) i2 (hF.lb.below hu) i3 (hF.lg.below hu) i4 (hF.lc.below hu))
  obtain ⟨RS, hRS⟩ : ∃ R, svS m gs cs = R := ⟨_, rfl⟩
  obtain ⟨RE, hRE⟩ : ∃ R, svE m gs cs = R := ⟨_, rfl⟩
  rw [hRS, hRE] at C1 C2
  obtain ⟨up, sc, de, gap, b0, b1, b2, b3, lg, ad, be⟩ := m
  simp only [fcs, CoR] at CC C1 C2 C3 CL bF kF ⊢
  have HKF := hide kF
  have HBF := hide bF
  have x0 := kF.cell 0
  have x1 := kF.cell 1
  have x2 := kF.cell 2
  have x3 := kF.cell 3
  have x4 := kF.cell 4
  have x5 := kF.cell 5
  have x6 := kF.cell 6
  have x7 := kF.cell 7
  have x8 := kF.cell 8
  have x9 := kF.cell 9
  have x10 := kF.cell 10
  have x11 := kF.cell 11
  have x12 := kF.cell 12
  simp at x0 x1 x2 x3 x4 x5 x6 x7 x8 x9 x10 x11 x12
  have flt := kF.lt
  clear kF bF hLB hF hW hna hnb hng hnc hRS hRE
  go_enter Tryz.func5, Tryz.ntmps5
  go_wp2_with fail
  refine (CL.out _ HBF.out).mono ?_
  rintro e w1 ⟨rfl, h1⟩
  have HB1 := hide (below_t5 HBF.out h1)
  have HK1 := hide (HKF.out.below h1)
  clear h1 HKF HBF CL flt x0 x1 x2 x3 x4 x5 x6 x7 x8 x9 x10 x11 x12
  cases LB with
  | true =>
    go_wp2_with fail
    refine (CW.out _ HB1.out).mono ?_
    rintro e w2 ⟨rfl, h2⟩
    have HB2 := hide (below_t5 HB1.out h2)
    clear h2
    go_wp2_with fail
    go_ret
    exact ⟨rfl, HB2.out⟩
  | false =>
    obtain ⟨g1, g2, g3, g4, g5, g6⟩ := HIN.out rfl
    have hk := HK1.out
    have x0 := hk.cell 0
    have x1 := hk.cell 1
    have x2 := hk.cell 2
    have x3 := hk.cell 3
    have x4 := hk.cell 4
    have x5 := hk.cell 5
    have x6 := hk.cell 6
    have x7 := hk.cell 7
    have x8 := hk.cell 8
    have x9 := hk.cell 9
    have x10 := hk.cell 10
    have x11 := hk.cell 11
    have x12 := hk.cell 12
    simp at x0 x1 x2 x3 x4 x5 x6 x7 x8 x9 x10 x11 x12
    have flt := hk.lt
    have CC1 := hide (CC.out g1 g2 g3 g4 w1 HB1.out)
    clear hk CC
    go_wp2_with fail
    refine CC1.out.mono ?_
    rintro e w2 ⟨p, q, g, c, kp, kq, kg', kc', rfl, i1, i2, i3, i4, h2⟩
    simp only [fcs]
    have bX := (Below.refl w2.heap.size w2).alloc (Nat.le_refl _) (.cells #[.int .i64 up, .int .i64 sc, .int .i64 de, .int .i64 gap, .int .i64 b0, .int .i64 b1, .int .i64 b2, .int .i64 b3, .bool lg, .slice (some ⟨p, 0, none⟩) na kp, .slice (some ⟨q, 0, none⟩) nb kq, .slice (some ⟨g, 0, none⟩) ng kg', .slice (some ⟨c, 0, none⟩) nc kc'] 29)
    have kX := Blk.new w2 #[.int .i64 up, .int .i64 sc, .int .i64 de, .int .i64 gap, .int .i64 b0, .int .i64 b1, .int .i64 b2, .int .i64 b3, .bool lg, .slice (some ⟨p, 0, none⟩) na kp, .slice (some ⟨q, 0, none⟩) nb kq, .slice (some ⟨g, 0, none⟩) ng kg', .slice (some ⟨c, 0, none⟩) nc kc'] 29
    have hb := below_t5 (below_t5 HB1.out h2) bX
    have kf := (HK1.out.below h2).below bX
    have i1 := i1.below bX
    have i2 := i2.below bX
    have i3 := i3.below bX
    have i4 := i4.below bX
    go_upto_region 4 with (fail)
    generalize w2.alloc (.cells #[.int .i64 up, .int .i64 sc, .int .i64 de, .int .i64 gap, .int .i64 b0, .int .i64 b1, .int .i64 b2, .int .i64 b3, .bool lg, .slice (some ⟨p, 0, none⟩) na kp, .slice (some ⟨q, 0, none⟩) nb kq, .slice (some ⟨g, 0, none⟩) ng kg', .slice (some ⟨c, 0, none⟩) nc kc'] 29) = V at bX kX hb kf i1 i2 i3 i4 ⊢
    obtain ⟨X, hX⟩ : ∃ X, w2.heap.size = X := ⟨_, rfl⟩
    rw [hX] at kX ⊢
    have CA := hide (C1.out (some ⟨p, 0, none⟩) (some ⟨q, 0, none⟩) (some ⟨g, 0, none⟩) (some ⟨c, 0, none⟩) kp kq kg' kc' g1 g2 g3 g4 g5 g6 V hb i1 i2 i3 i4)
    have CB := hide (fun (u : World) (hu : Below V.heap.size V u) => C2.out g1 g2 g3 g4 g5 g6 u (below_t5 hb hu))
    have CS := hide (fun (u : World) (hu : Below V.heap.size V u) => C3.out (some ⟨p, 0, none⟩) (some ⟨q, 0, none⟩) (some ⟨g, 0, none⟩) (some ⟨c, 0, none⟩) kp kq kg' kc' g1 g2 g3 g4 u (below_t5 hb hu) (i1.below hu) (i2.below hu) (i3.below hu) (i4.below hu))
    have CV := hide (fun (u : World) (hu : Below V.heap.size V u) => CW.out u (below_t5 hb hu))
    have HKX := hide kX
    have HKF := hide kf
    have HBV := hide hb
    clear x0 x1 x2 x3 x4 x5 x6 x7 x8 x9 x10 x11 x12 flt
    have y0 := kX.cell 0
    have y1 := kX.cell 1
    have y2 := kX.cell 2
    have y3 := kX.cell 3
    have y4 := kX.cell 4
    have y5 := kX.cell 5
    have y6 := kX.cell 6
    have y7 := kX.cell 7
    have y8 := kX.cell 8
    have y9 := kX.cell 9
    have y10 := kX.cell 10
    have y11 := kX.cell 11
    have y12 := kX.cell 12
    simp at y0 y1 y2 y3 y4 y5 y6 y7 y8 y9 y10 y11 y12
    have ylt := kX.lt
    clear C1 C2 C3 CW CC1 HK1 HB1 bX kX hb kf i1 i2 i3 i4 h2 hX g1 g2 g3 g4 g5 g6 HIN
    go_wp2_with fail
    refine CA.out.mono ?_
    rintro e w3 ⟨rfl, h3⟩
    have kf := HKF.out.below h3
    clear y0 y1 y2 y3 y4 y5 y6 y7 y8 y9 y10 y11 y12 ylt CA
    have x0 := kf.cell 0
    have x1 := kf.cell 1
    have x2 := kf.cell 2
    have x3 := kf.cell 3
    have x4 := kf.cell 4
    have x5 := kf.cell 5
    have x6 := kf.cell 6
    have x7 := kf.cell 7
    have x8 := kf.cell 8
    have x9 := kf.cell 9
    have x10 := kf.cell 10
    have x11 := kf.cell 11
    have x12 := kf.cell 12
    simp at x0 x1 x2 x3 x4 x5 x6 x7 x8 x9 x10 x11 x12
    have flt := kf.lt
    have H3 := hide h3
    clear kf h3
    go_wp2_with fail
    refine (CB.out _ H3.out).mono ?_
    rintro e w4 ⟨rfl, h4⟩
    have h34 := below_t5 H3.out h4
    have kf := HKF.out.below h34
    have kx := HKX.out.below h34
    clear x0 x1 x2 x3 x4 x5 x6 x7 x8 x9 x10 x11 x12 flt CB
    have x0 := kf.cell 0
    have x1 := kf.cell 1
    have x2 := kf.cell 2
    have x3 := kf.cell 3
    have x4 := kf.cell 4
    have x5 := kf.cell 5
    have x6 := kf.cell 6
    have x7 := kf.cell 7
    have x8 := kf.cell 8
    have x9 := kf.cell 9
    have x10 := kf.cell 10
    have x11 := kf.cell 11
    have x12 := kf.cell 12
    simp at x0 x1 x2 x3 x4 x5 x6 x7 x8 x9 x10 x11 x12
    have y0 := kx.cell 0
    have y1 := kx.cell 1
    have y2 := kx.cell 2
    have y3 := kx.cell 3
    have y4 := kx.cell 4
    have y5 := kx.cell 5
    have y6 := kx.cell 6
    have y7 := kx.cell 7
    have y8 := kx.cell 8
    have y9 := kx.cell 9
    have y10 := kx.cell 10
    have y11 := kx.cell 11
    have y12 := kx.cell 12
    simp at y0 y1 y2 y3 y4 y5 y6 y7 y8 y9 y10 y11 y12
    have flt := kf.lt
    have ylt := kx.lt
    have H4 := hide h34
    clear kf kx h4 h34 H3
    go_wp2_with fail
    refine (CS.out _ H4.out).mono ?_
    rintro e w5 ⟨rfl, h5⟩
    have H5 := hide (below_t5 H4.out h5)
    clear h5 H4 CS x0 x1 x2 x3 x4 x5 x6 x7 x8 x9 x10 x11 x12 y0 y1 y2 y3 y4 y5 y6 y7 y8 y9 y10 y11 y12 flt ylt
    go_wp2_with fail
    refine (CV.out _ H5.out).mono ?_
    rintro e w6 ⟨rfl, h6⟩
    have H6 := hide (below_t5 HBV.out (below_t5 H5.out h6))
    clear h6
    go_wp2_with fail
    go_ret
    exact ⟨rfl, H6.out⟩
end Go.Proofs.YtpdfpbbamnhkfaaGreatDoor.F12
