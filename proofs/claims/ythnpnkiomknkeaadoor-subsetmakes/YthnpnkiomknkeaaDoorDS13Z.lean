/-
  The law SubsetMakes, walked.
-/
import Derived.BigQuiet
import Derived.BigRegion
import Derived.ChangeAlike
import Derived.ChangeArms
import Derived.ChangeSlices
import Derived.Deep.AppendLies
import Derived.Deep.AppendSrc
import Derived.Deep.CutRange
import Derived.Deep.Draws
import Derived.Deep.LoopGhost
import Derived.Deep.QuietTactic
import Derived.Deep.RegionHeld3
import Derived.Deep.RegionLaw
import Derived.Deep.RegionWith
import Derived.Deep.Slices
import Derived.Deep.Strs
import Derived.Deep.Trees
import Derived.Defers
import Derived.Laws.Bits64b
import Derived.Laws.BitsLemmas
import Derived.Laws.BytesArg
import Derived.Laws.Concat
import Derived.Laws.CopyRow
import Derived.Laws.EntriesVeiled
import Derived.Laws.IdiomStrings
import Derived.Laws.OwnMore
import Derived.Laws.Pointers
import Derived.Lib.AppendStr
import Derived.Lib.AppendZeros
import Derived.Lib.BitFns
import Derived.Lib.BufferWrite
import Derived.Lib.MinMax
import Derived.Lib.Mul64
import Derived.Lib.SlBuf
import Derived.Lib.Small
import Derived.Lib.SmallJoins
import Derived.Lib.Strings
import Derived.Lib.Walk
import Derived.Maps.RangeWalk
import Derived.OpenShut
import Derived.Outline
import Derived.OwnWalk
import Derived.ProofKit
import Derived.Recover
import Derived.RegionDies
import Derived.RegionTactic
import Derived.Shelf.Slices.Turned
import Derived.Shelf.Strings.Trim
import Derived.SizedLaws
import Derived.SliceStrings
import Derived.Test.YthnpnkiomknkeaaDoorProg
import Derived.WalkKit
import Derived.WalkMore
import Derived.WalkSmall
import Derived.Test.YthnpnkiomknkeaaDoorC00
import Derived.Test.YthnpnkiomknkeaaDoorC01
import Derived.Test.YthnpnkiomknkeaaDoorC02
import Derived.Test.YthnpnkiomknkeaaDoorC03
import Derived.Test.YthnpnkiomknkeaaDoorC04
import Derived.Test.YthnpnkiomknkeaaDoorC05
import Derived.Test.YthnpnkiomknkeaaDoorC06
import Derived.Test.YthnpnkiomknkeaaDoorC07
import Derived.Test.YthnpnkiomknkeaaDoorC08
import Derived.Test.YthnpnkiomknkeaaDoorC09
import Derived.Test.YthnpnkiomknkeaaDoorC10
import Derived.Test.YthnpnkiomknkeaaDoorC11
import Derived.Test.YthnpnkiomknkeaaDoorC12
import Derived.Test.YthnpnkiomknkeaaDoorC13
import Derived.Test.YthnpnkiomknkeaaDoorC14
import Derived.Test.YthnpnkiomknkeaaDoorC15
import Derived.Test.YthnpnkiomknkeaaDoorC16
import Derived.Test.YthnpnkiomknkeaaDoorC17
import Derived.Test.YthnpnkiomknkeaaDoorC18
import Derived.Test.YthnpnkiomknkeaaDoorC19
import Derived.Test.YthnpnkiomknkeaaDoorC20
import Derived.Test.YthnpnkiomknkeaaDoorC21
import Derived.Test.YthnpnkiomknkeaaDoorC22
import Derived.Test.YthnpnkiomknkeaaDoorC23
import Derived.Test.YthnpnkiomknkeaaDoorC24
import Derived.Test.YthnpnkiomknkeaaDoorC25
import Derived.Test.YthnpnkiomknkeaaDoorC26
import Derived.Test.YthnpnkiomknkeaaDoorC27
import Derived.Test.YthnpnkiomknkeaaDoorC28
import Derived.Test.YthnpnkiomknkeaaDoorC29
import Derived.Test.YthnpnkiomknkeaaDoorD00
import Derived.Test.YthnpnkiomknkeaaDoorD01
import Derived.Test.YthnpnkiomknkeaaDoorD02
import Derived.Test.YthnpnkiomknkeaaDoorD05
import Derived.Test.YthnpnkiomknkeaaDoorD06
import Derived.Test.YthnpnkiomknkeaaDoorD07
namespace Go.Proofs.YthnpnkiomknkeaaDoor.S13
open Go.RowKit Go.Deep Go.Maps Go.Proofs.YthnpnkiomknkeaaDoor.F12
set_option linter.unusedVariables false
set_option linter.unusedSimpArgs false

set_option maxRecDepth 8000 in
set_option maxHeartbeats 16000000 in
theorem makes_walk (m : Mt) (aa ab ga ca la : Option Addr) (ka kb kg kc nl kl : Nat) (gs : List ByteArray) (cs : List C11.Ch) (zs : List Int) (at_ : Int) (w : World) (hF : FIn w m aa ab ga ca gs cs) (hZ : ZRow w la nl kl zs) :
    Calls Tryd.prog 4 #[.agg (fcs m (.slice aa m.ad.length ka) (.slice ab m.be.length kb) (.slice ga gs.length kg) (.slice ca cs.length kc)), .slice la nl kl, .int .i64 at_] w fun e w' => e = .returned (.bool true) ∧ Below w.heap.size w w' := by
  obtain ⟨hz1, hz2, hz3, hz4, _⟩ := hZ
  obtain ⟨na, hna⟩ : ∃ n, m.ad.length = n := ⟨_, rfl⟩
  obtain ⟨nb, hnb⟩ : ∃ n, m.be.length = n := ⟨_, rfl⟩
  obtain ⟨ng, hng⟩ : ∃ n, gs.length = n := ⟨_, rfl⟩
  obtain ⟨nc, hnc⟩ : ∃ n, cs.length = n := ⟨_, rfl⟩
  rw [hna, hnb, hng, hnc]
  have CW := hide wakes13_any
  have CL := hide (fun (u : World) (hu : Below w.heap.size w u) => large_any m aa ab ga ca na nb ng nc ka kb kg kc gs u hng (by have := hF.mg; omega) (fun g hg => Nat.le_trans (hF.sg g hg) (by omega)) (hF.lg.below hu))
  obtain ⟨LB, hLB⟩ : ∃ b, lrgB (lsum gs 0) ng nc na nb = b := ⟨_, rfl⟩
  rw [hLB] at CL
  have HIN := hide (fun h : LB = false => lrg_in (hLB.trans h) hng)
  have CC := hide (fun (g1 : ng ≤ 200) (g2 : nc ≤ 200) (g3 : na ≤ 200) (g4 : nb ≤ 200) (u : World) (hu : Below w.heap.size w u) => copy_any m aa ab ga ca na nb ng nc ka kb kg kc gs cs u hna hnb hng hnc (by omega) (by omega) (by omega) (by omega) (hF.la.below hu) (hF.lb.below hu) (hF.lg.below hu) (hF.lc.below hu))
  have CI := hide (fun (u : World) (hu : Below w.heap.size w u) => ints_any la nl kl zs u hz1 hz2 hz3 (hz4.below hu))
  obtain ⟨us, hus⟩ : ∃ us, zs.take 300 = us := ⟨_, rfl⟩
  have hul : us.length ≤ 300 := by rw [← hus, List.length_take]; omega
  have hut : us.take 300 = us := List.take_of_length_le hul
  obtain ⟨nu, hnu⟩ : ∃ n, us.length = n := ⟨_, rfl⟩
  rw [hnu] at hul
  have CI2 := hide (fun (g : Option Addr) (c : Nat) (u : World) (h2 : nu ≤ c) (h3 : c ≤ 9223372036854775807) (h4 : Lst u g us) => ints_any g nu c us u hnu h2 h3 h4)
  unfold InsR at CI CI2
  rw [hus, hnu] at CI
  rw [hut, hnu] at CI2
  have C1 := hide (fun (p q g c l : Option Addr) (kp kq kg' kc' kl' : Nat) (g1 : ng ≤ 200) (g2 : nc ≤ 200) (g3 : na ≤ 200) (g4 : nb ≤ 200) (g5 : ∀ g ∈ gs, g.size ≤ 30000) (u : World) (i1 : Lst u p m.ad) (i2 : Lst u q m.be) (i3 : G10.SLst u g gs) (i4 : C11.CLst u c cs) (i5 : Lst u l us) => (make_any m p q g c l na nb ng nc kp kq kg' kc' nu kl' gs cs us u hna hnb hng hnc (by omega) (by omega) (by omega) (by omega) (fun x hx => Nat.le_trans (g5 x hx) (by omega)) i1 i2 i3 i4 hnu (by omega) i5).mono fun _ _ h => mv_of (mkG_of h))
  have C2 := hide (fun (l : Option Addr) (kl' : Nat) (g1 : ng ≤ 200) (g2 : nc ≤ 200) (g3 : na ≤ 200) (g4 : nb ≤ 200) (g5 : ∀ g ∈ gs, g.size ≤ 30000) (u : World) (hu : Below w.heap.size w u) (i5 : Lst u l us) => (rmake_any m aa ab ga ca l na nb ng nc ka kb kg kc nu kl' gs cs us u hng hnc (by omega) (by omega) (by omega) (by omega) g1 g2 (fun x hx => Nat.le_trans (g5 x hx) (by omega)) (hF.met hna hnb hu) (hF.lg.below hu) (hF.lc.below hu) hnu (by omega) i5).mono fun _ _ => mv_of)
  have CP := hide (fun (a : Option Addr) (c : Nat) (u : World) (h : Lst u a us) => place_any a nu c us at_ u hnu (by omega) h)
  have CQ := hide (fun (a : Option Addr) (c : Nat) (u : World) (h : Lst u a us) => rplace_any a nu c us at_ u hnu (by omega) h)
  generalize max (Lib.idxOf us at_) 0 = xi at CP CQ
  generalize decide (0 ≤ Lib.idxOf us at_) = bi at CP CQ
  have KSM := hide (fun (a b : Option Addr) (n ca cb : Nat) (xs : List Int) (u : World) (h0 : xs.length = n) (h3 : n ≤ 1048576) (h1 : Lst u a xs) (h2 : Lst u b xs) => G10.ksame_any a b n ca cb xs u h0 h3 h1 h2)
  have HFB := hide (fun (u : World) (hu : Below w.heap.size w u) => And.intro (hF.la.below hu) (And.intro (hF.lb.below hu) (And.intro (hF.lg.below hu) (hF.lc.below hu))))
  have HNU := hide hnu
  have HNN := hide (And.intro hna (And.intro hnb (And.intro hng hnc)))
  have HKF := hide (Blk.new w (fcs m (.slice aa na ka) (.slice ab nb kb) (.slice ga ng kg) (.slice ca nc kc)) 29)
  have HBF := hide ((Below.refl w.heap.size w).alloc (Nat.le_refl _) (.cells (fcs m (.slice aa na ka) (.slice ab nb kb) (.slice ga ng kg) (.slice ca nc kc)) 29))
  obtain ⟨V, hV⟩ : ∃ V, w.alloc (.cells (fcs m (.slice aa na ka) (.slice ab nb kb) (.slice ga ng kg) (.slice ca nc kc)) 29) = V := ⟨_, rfl⟩
  rw [hV] at HKF HBF
  simp only [fcs] at hV
  clear hLB hF hna hnb hng hnc hz1 hz2 hz3 hz4 hus hnu hut
  obtain ⟨x0, x1, x2, x3, x4, x5, x6, x7, x8, x9, x10, x11, x12, y0, y1, y2, y3, y4, y5, y6, y7, y8, y9, y10, y11, y12, flt⟩ := blk13 HKF.out
  go_enter Tryd.func4, Tryd.ntmps4
  go_wp2_with fail
  refine (CL.out _ HBF.out).mono ?_
  rintro e w1 ⟨rfl, h1⟩
  have HB1 := hide (below_t5 HBF.out h1)
  have HK1 := hide (HKF.out.below h1)
  clear h1 HKF HBF CL hV x0 x1 x2 x3 x4 x5 x6 x7 x8 x9 x10 x11 x12 y0 y1 y2 y3 y4 y5 y6 y7 y8 y9 y10 y11 y12 flt
  cases LB with
  | true =>
    go_wp2_with fail
    refine (CW.out _).mono ?_
    rintro e w2 ⟨rfl, h2⟩
    have HB2 := hide (below_t5 HB1.out h2)
    clear h2
    go_wp2_with fail
    go_ret
    exact ⟨rfl, HB2.out⟩
  | false =>
    obtain ⟨g1, g2, g3, g4, g5, g6⟩ := HIN.out rfl
    have HGG := hide (And.intro g1 (And.intro g2 (And.intro g3 (And.intro g4 g5))))
    clear g1 g2 g3 g4 g5 g6 HIN
    go_wp2_with fail
    refine (CI.out _ HB1.out).mono ?_
    rintro e w2 ⟨u1, k1, rfl, hl2, hb2, hk1, hk2⟩
    have HB2 := hide (below_t5 HB1.out hb2)
    have HK2 := hide (HK1.out.below hb2)
    have HU2 := hide hl2
    have HUK := hide (And.intro hk1 hk2)
    clear hb2 hl2 hk1 hk2 HB1 HK1 CI
    obtain ⟨x0, x1, x2, x3, x4, x5, x6, x7, x8, x9, x10, x11, x12, y0, y1, y2, y3, y4, y5, y6, y7, y8, y9, y10, y11, y12, flt⟩ := blk13 HK2.out
    go_wp2_with fail
    refine (CC.out HGG.out.1 HGG.out.2.1 HGG.out.2.2.1 HGG.out.2.2.2.1 _ HB2.out).mono ?_
    rintro e w3 ⟨p, q, g, c, kp, kq, kg', kc', rfl, i1, i2, i3, i4, hb3⟩
    have b4 := (Below.refl w3.heap.size w3).alloc (Nat.le_refl _) (.cells (fcs m (.slice (some ⟨p, 0, none⟩) na kp) (.slice (some ⟨q, 0, none⟩) nb kq) (.slice (some ⟨g, 0, none⟩) ng kg') (.slice (some ⟨c, 0, none⟩) nc kc')) 29)
    have kb4 := Blk.new w3 (fcs m (.slice (some ⟨p, 0, none⟩) na kp) (.slice (some ⟨q, 0, none⟩) nb kq) (.slice (some ⟨g, 0, none⟩) ng kg') (.slice (some ⟨c, 0, none⟩) nc kc')) 29
    obtain ⟨W4, hW4⟩ : ∃ W, w3.alloc (.cells (fcs m (.slice (some ⟨p, 0, none⟩) na kp) (.slice (some ⟨q, 0, none⟩) nb kq) (.slice (some ⟨g, 0, none⟩) ng kg') (.slice (some ⟨c, 0, none⟩) nc kc')) 29) = W := ⟨_, rfl⟩
    rw [hW4] at b4 kb4
    simp only [fcs] at hW4
    have hw34 := below_t5 hb3 b4
    have C3 := hide (C1.out (some ⟨p, 0, none⟩) (some ⟨q, 0, none⟩) (some ⟨g, 0, none⟩) (some ⟨c, 0, none⟩) (some ⟨u1, 0, none⟩) kp kq kg' kc' k1 HGG.out.1 HGG.out.2.1 HGG.out.2.2.1 HGG.out.2.2.2.1 HGG.out.2.2.2.2 W4 (i1.below b4) (i2.below b4) (i3.below b4) (i4.below b4) (HU2.out.below hw34))
    have HB4 := hide (below_t5 HB2.out hw34)
    have HK4 := hide (HK2.out.below hw34)
    have HU4 := hide (HU2.out.below hw34)
    have HI4 := hide (And.intro (i1.below b4) (And.intro (i2.below b4) (And.intro (i3.below b4) (i4.below b4))))
    have HC4 := hide kb4
    obtain ⟨X8, hX8⟩ : ∃ x, w3.heap.size = x := ⟨_, rfl⟩
    rw [hX8] at HC4
    clear hb3 b4 kb4 i1 i2 i3 i4 hw34 HB2 HK2 HU2 C1 CC x0 x1 x2 x3 x4 x5 x6 x7 x8 x9 x10 x11 x12 y0 y1 y2 y3 y4 y5 y6 y7 y8 y9 y10 y11 y12 flt
    obtain ⟨x0, x1, x2, x3, x4, x5, x6, x7, x8, x9, x10, x11, x12, y0, y1, y2, y3, y4, y5, y6, y7, y8, y9, y10, y11, y12, flt⟩ := blk13 HC4.out
    go_wp2_with fail
    refine C3.out.mono ?_
    rintro e w5 ⟨mR, gR, cR, oR, er, a1, q1, a2, q2, a3, q3, a4, q4, a5, q5, rfl, hmv, l1, l2, l3, l4, l5, hb5⟩
    have hls := hmv.len
    obtain ⟨n1, hn1⟩ : ∃ n, mR.ad.length = n := ⟨_, rfl⟩
    obtain ⟨n2, hn2⟩ : ∃ n, mR.be.length = n := ⟨_, rfl⟩
    obtain ⟨n3, hn3⟩ : ∃ n, gR.length = n := ⟨_, rfl⟩
    obtain ⟨n4, hn4⟩ : ∃ n, cR.length = n := ⟨_, rfl⟩
    obtain ⟨n5, hn5⟩ : ∃ n, oR.length = n := ⟨_, rfl⟩
    rw [hn1, hn2, hn3, hn4, hn5] at hls ⊢
    have HNS := hide (And.intro hn1 (And.intro hn2 (And.intro hn3 (And.intro hn4 hn5))))
    have HLS := hide hls
    have HMV := hide hmv
    have b6 := (Below.refl w5.heap.size w5).alloc (Nat.le_refl _) (.cells (fcs mR (.slice a1 n1 q1) (.slice a2 n2 q2) (.slice a3 n3 q3) (.slice a4 n4 q4)) 29)
    have kb6 := Blk.new w5 (fcs mR (.slice a1 n1 q1) (.slice a2 n2 q2) (.slice a3 n3 q3) (.slice a4 n4 q4)) 29
    obtain ⟨W6, hW6⟩ : ∃ W, w5.alloc (.cells (fcs mR (.slice a1 n1 q1) (.slice a2 n2 q2) (.slice a3 n3 q3) (.slice a4 n4 q4)) 29) = W := ⟨_, rfl⟩
    rw [hW6] at b6 kb6
    simp only [fcs] at hW6
    have hw46 := below_t5 hb5 b6
    have HB6 := hide (below_t5 HB4.out hw46)
    have HK6 := hide (HK4.out.below hw46)
    have HU6 := hide (HU4.out.below hw46)
    have HC6 := hide (HC4.out.below hw46)
    have HI6 := hide (And.intro (HI4.out.1.below hw46) (And.intro (HI4.out.2.1.below hw46) (And.intro (HI4.out.2.2.1.below hw46) (HI4.out.2.2.2.below hw46))))
    have HR6 := hide (And.intro (l1.below b6) (And.intro (l2.below b6) (And.intro (l3.below b6) (And.intro (l4.below b6) (l5.below b6)))))
    obtain ⟨X9, hX9⟩ : ∃ x, w5.heap.size = x := ⟨_, rfl⟩
    rw [hX9] at kb6
    have HD6 := hide kb6
    clear hW4 hX8 C3 x0 x1 x2 x3 x4 x5 x6 x7 x8 x9 x10 x11 x12 y0 y1 y2 y3 y4 y5 y6 y7 y8 y9 y10 y11 y12 flt hmv l1 l2 l3 l4 l5 hb5 hls hn1 hn2 hn3 hn4 hn5 b6 kb6 hw46 HB4 HK4 HU4 HC4 HI4
    obtain ⟨x0, x1, x2, x3, x4, x5, x6, x7, x8, x9, x10, x11, x12, y0, y1, y2, y3, y4, y5, y6, y7, y8, y9, y10, y11, y12, flt⟩ := blk13 HK6.out
    go_wp2_with fail
    refine (C2.out (some ⟨u1, 0, none⟩) k1 HGG.out.1 HGG.out.2.1 HGG.out.2.2.1 HGG.out.2.2.2.1 HGG.out.2.2.2.2 W6 HB6.out HU6.out).mono ?_
    rintro e w7 ⟨mR2, gR2, cR2, oR2, er2, b1, r1, b2, r2, b3, r3, b4, r4, b5, r5, rfl, hmv2, m1, m2, m3, m4, m5, hb7⟩
    obtain ⟨rfl, rfl, rfl, rfl, rfl⟩ := HMV.out.uniq hmv2
    rw [HNS.out.1, HNS.out.2.1, HNS.out.2.2.1, HNS.out.2.2.2.1, HNS.out.2.2.2.2]
    have b8 := (Below.refl w7.heap.size w7).alloc (Nat.le_refl _) (.cells (fcs mR (.slice b1 n1 r1) (.slice b2 n2 r2) (.slice b3 n3 r3) (.slice b4 n4 r4)) 29)
    have kb8 := Blk.new w7 (fcs mR (.slice b1 n1 r1) (.slice b2 n2 r2) (.slice b3 n3 r3) (.slice b4 n4 r4)) 29
    obtain ⟨W8, hW8⟩ : ∃ W, w7.alloc (.cells (fcs mR (.slice b1 n1 r1) (.slice b2 n2 r2) (.slice b3 n3 r3) (.slice b4 n4 r4)) 29) = W := ⟨_, rfl⟩
    rw [hW8] at b8 kb8
    simp only [fcs] at hW8
    have hw68 := below_t5 hb7 b8
    have HB8 := hide (below_t5 HB6.out hw68)
    have HK8 := hide (HK6.out.below hw68)
    have HU8 := hide (HU6.out.below hw68)
    have HC8 := hide (HC6.out.below hw68)
    have HD8 := hide (HD6.out.below hw68)
    have HI8 := hide (And.intro (HI6.out.1.below hw68) (And.intro (HI6.out.2.1.below hw68) (And.intro (HI6.out.2.2.1.below hw68) (HI6.out.2.2.2.below hw68))))
    have HR8 := hide (And.intro (HR6.out.1.below hw68) (And.intro (HR6.out.2.1.below hw68) (And.intro (HR6.out.2.2.1.below hw68) (And.intro (HR6.out.2.2.2.1.below hw68) (HR6.out.2.2.2.2.below hw68)))))
    have HS8 := hide (And.intro (m1.below b8) (And.intro (m2.below b8) (And.intro (m3.below b8) (And.intro (m4.below b8) (m5.below b8)))))
    obtain ⟨X12, hX12⟩ : ∃ x, w7.heap.size = x := ⟨_, rfl⟩
    rw [hX12] at kb8
    have HE8 := hide kb8
    clear hW6 hX9 x0 x1 x2 x3 x4 x5 x6 x7 x8 x9 x10 x11 x12 y0 y1 y2 y3 y4 y5 y6 y7 y8 y9 y10 y11 y12 flt hmv2 HMV m1 m2 m3 m4 m5 hb7 b8 kb8 hw68 HB6 HK6 HU6 HC6 HI6 HD6 HR6 C2
    go_wp2_with fail
    refine (CI2.out (some ⟨u1, 0, none⟩) k1 W8 HUK.out.1 HUK.out.2 HU8.out).mono ?_
    rintro e w9 ⟨u9, k9, rfl, hl9, hb9, _, _⟩
    have C9 := hide (CP.out (some ⟨u9, 0, none⟩) k9 w9 hl9)
    have HB9 := hide (below_t5 HB8.out hb9)
    have HU9 := hide (HU8.out.below hb9)
    have H89 := hide hb9
    clear hl9 hb9 hW8 hX12 HB8 HU8 CP CI2
    go_wp2_with fail
    refine C9.out.mono ?_
    rintro e w10 ⟨rfl, hw10⟩
    replace hw10 := hw10.symm
    subst hw10
    have C10 := hide (CQ.out (some ⟨u1, 0, none⟩) k1 w9 HU9.out)
    clear C9 CQ HU9
    go_wp2_with fail
    refine C10.out.mono ?_
    rintro e w11 ⟨rfl, hb11⟩
    have hw811 := below_t5 H89.out hb11
    have HB11 := hide (below_t5 HB9.out hb11)
    have HK11 := hide (HK8.out.below hw811)
    have HC11 := hide (HC8.out.below hw811)
    have HD11 := hide (HD8.out.below hw811)
    have HE11 := hide (HE8.out.below hw811)
    have HI11 := hide (And.intro (HI8.out.1.below hw811) (And.intro (HI8.out.2.1.below hw811) (And.intro (HI8.out.2.2.1.below hw811) (HI8.out.2.2.2.below hw811))))
    have h5a := HR8.out.2.2.2.2.below hw811
    have h5b := HS8.out.2.2.2.2.below hw811
    have S1 := hide (rsame_any mR a1 b1 a2 b2 a3 b3 a4 b4 n1 n2 n3 n4 q1 q2 q3 q4 r1 r2 r3 r4 gR cR w11 HNS.out.1 HNS.out.2.1 HNS.out.2.2.1 HNS.out.2.2.2.1 (by have := HLS.out; have := HGG.out.1; omega) (by have := HLS.out; have := HGG.out.1; omega) (by have := HLS.out; have := HGG.out.1; omega) (by have := HLS.out; omega) (HR8.out.1.below hw811) (HS8.out.1.below hw811) (HR8.out.2.1.below hw811) (HS8.out.2.1.below hw811) (HR8.out.2.2.1.below hw811) (HS8.out.2.2.1.below hw811) (HR8.out.2.2.2.1.below hw811) (HS8.out.2.2.2.1.below hw811))
    have H5A := hide h5a
    have H5B := hide h5b
    clear hb11 hw811 H89 HB9 HK8 HC8 HD8 HE8 HI8 HR8 HS8 C10 h5a h5b
    obtain ⟨x0, x1, x2, x3, x4, x5, x6, x7, x8, x9, x10, x11, x12, y0, y1, y2, y3, y4, y5, y6, y7, y8, y9, y10, y11, y12, flt⟩ := blk13 HD11.out
    obtain ⟨s0, s1, s2, s3, s4, s5, s6, s7, s8, s9, s10, s11, s12, t0, t1, t2, t3, t4, t5, t6, t7, t8, t9, t10, t11, t12, slt⟩ := blk13 HE11.out
    go_wp2_with fail
    refine S1.out.mono ?_
    rintro e w12 ⟨rfl, hb12⟩
    have C12 := hide (KSM.out a5 b5 n5 q5 r5 oR w12 HNS.out.2.2.2.2 (by have := HLS.out; have := HGG.out.1; omega) (H5A.out.below hb12) (H5B.out.below hb12))
    have HB12 := hide (below_t5 HB11.out hb12)
    have HK12 := hide (HK11.out.below hb12)
    have HC12 := hide (HC11.out.below hb12)
    have HI12 := hide (And.intro (HI11.out.1.below hb12) (And.intro (HI11.out.2.1.below hb12) (And.intro (HI11.out.2.2.1.below hb12) (HI11.out.2.2.2.below hb12))))
    have ee1 : (er == er) = true := by simp
    have ee2 : (xi == xi) = true := by simp
    have ee3 : (bi == bi) = true := by simp
    clear hb12 HB11 HK11 HC11 HD11 HE11 HI11 H5A H5B S1 KSM x0 x1 x2 x3 x4 x5 x6 x7 x8 x9 x10 x11 x12 y0 y1 y2 y3 y4 y5 y6 y7 y8 y9 y10 y11 y12 flt s0 s1 s2 s3 s4 s5 s6 s7 s8 s9 s10 s11 s12 t0 t1 t2 t3 t4 t5 t6 t7 t8 t9 t10 t11 t12 slt
    go_wp2_with fail
    refine C12.out.mono ?_
    rintro e w13 ⟨rfl, n13, hw13⟩
    have hb13 : Below w12.heap.size w12 w13 := by rw [hw13]; exact below_drewN (Below.refl _ _) n13
    have HB13 := hide (below_t5 HB12.out hb13)
    have hk13 := HK12.out.below hb13
    have hc13 := HC12.out.below hb13
    have hf := HFB.out w13 HB13.out
    have S2 := hide (rsame_any m (some ⟨p, 0, none⟩) aa (some ⟨q, 0, none⟩) ab (some ⟨g, 0, none⟩) ga (some ⟨c, 0, none⟩) ca na nb ng nc kp kq kg' kc' ka kb kg kc gs cs w13 HNN.out.1 HNN.out.2.1 HNN.out.2.2.1 HNN.out.2.2.2 (by have := HGG.out; omega) (by have := HGG.out; omega) (by have := HGG.out; omega) (by have := HGG.out; omega) (HI12.out.1.below hb13) hf.1 (HI12.out.2.1.below hb13) hf.2.1 (HI12.out.2.2.1.below hb13) hf.2.2.1 (HI12.out.2.2.2.below hb13) hf.2.2.2)
    obtain ⟨x0, x1, x2, x3, x4, x5, x6, x7, x8, x9, x10, x11, x12, y0, y1, y2, y3, y4, y5, y6, y7, y8, y9, y10, y11, y12, flt⟩ := blk13 hk13
    obtain ⟨s0, s1, s2, s3, s4, s5, s6, s7, s8, s9, s10, s11, s12, t0, t1, t2, t3, t4, t5, t6, t7, t8, t9, t10, t11, t12, slt⟩ := blk13 hc13
    clear hw13 hb13 hk13 hc13 hf C12 HB12 HK12 HC12 HI12 HFB
    go_wp2_with fail
    refine S2.out.mono ?_
    rintro e w14 ⟨rfl, hb14⟩
    have HB14 := hide (below_t5 HB13.out hb14)
    clear hb14 S2 HB13 x0 x1 x2 x3 x4 x5 x6 x7 x8 x9 x10 x11 x12 y0 y1 y2 y3 y4 y5 y6 y7 y8 y9 y10 y11 y12 flt s0 s1 s2 s3 s4 s5 s6 s7 s8 s9 s10 s11 s12 t0 t1 t2 t3 t4 t5 t6 t7 t8 t9 t10 t11 t12 slt
    go_wp2_with fail
    refine (CW.out _).mono ?_
    rintro e w15 ⟨rfl, hb15⟩
    have HB15 := hide (below_t5 HB14.out hb15)
    clear hb15
    go_wp2_with fail
    go_ret
    exact ⟨rfl, HB15.out⟩
end Go.Proofs.YthnpnkiomknkeaaDoor.S13
