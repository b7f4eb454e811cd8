/-
  Joined: F12Rd.
-/
import Derived.BigQuiet
import Derived.ChangeAlike
import Derived.Deep.AppendLies
import Derived.Deep.AppendSrc
import Derived.Deep.CutRange
import Derived.Deep.Draws
import Derived.Deep.QuietTactic
import Derived.Deep.RegionHeld3
import Derived.Deep.RegionWith
import Derived.Deep.Trees
import Derived.Laws.Bits64b
import Derived.Laws.BitsLemmas
import Derived.Laws.BytesArg
import Derived.Laws.EntriesVeiled
import Derived.Laws.IdiomStrings
import Derived.Laws.OwnMore
import Derived.Lib.AppendStr
import Derived.Lib.AppendZeros
import Derived.Lib.BitFns
import Derived.Lib.BufferWrite
import Derived.Lib.MinMax
import Derived.Lib.Mul64
import Derived.Lib.SlBuf
import Derived.Lib.Small
import Derived.Lib.Strings
import Derived.Lib.Walk
import Derived.Outline
import Derived.OwnWalk
import Derived.RegionTactic
import Derived.Shelf.Strings.Trim
import Derived.Test.YthnpnkiomknkeaaDoorProg
import Derived.WalkKit
import Derived.WalkSmall
import Derived.Test.YthnpnkiomknkeaaDoorC00
import Derived.Test.YthnpnkiomknkeaaDoorC02
import Derived.Test.YthnpnkiomknkeaaDoorC03
import Derived.Test.YthnpnkiomknkeaaDoorC04
import Derived.Test.YthnpnkiomknkeaaDoorC05
import Derived.Test.YthnpnkiomknkeaaDoorC06
import Derived.Test.YthnpnkiomknkeaaDoorC08
import Derived.Test.YthnpnkiomknkeaaDoorC11
import Derived.Test.YthnpnkiomknkeaaDoorC12
import Derived.Test.YthnpnkiomknkeaaDoorC13
import Derived.Test.YthnpnkiomknkeaaDoorC19
import Derived.Test.YthnpnkiomknkeaaDoorC20
import Derived.Test.YthnpnkiomknkeaaDoorC21
import Derived.Test.YthnpnkiomknkeaaDoorD00
import Derived.Test.YthnpnkiomknkeaaDoorD01
import Derived.Test.YthnpnkiomknkeaaDoorD05
namespace Go.Proofs.YthnpnkiomknkeaaDoor.F12
open Go.RowKit Go.Deep
set_option linter.unusedVariables false
set_option linter.unusedSimpArgs false
set_option maxHeartbeats 1000000 in
theorem schars_any (a b : Option Addr) (ca cb : Nat) (n : Nat) (cs : List C11.Ch) (w : World) (hz : cs.length = n) (hn : n ≤ 1073741824) (hA : C11.CLst w a cs) (hB : C11.CLst w b cs) :
    Calls Tryd.prog 32 #[.slice a n ca, .slice b n cb] w fun e w' => e = .returned (.bool true) ∧ Below w.heap.size w w' := by
  have hn' : (n : Int) ≤ 1073741824 := by omega
  have HA := hide hA
  have HB := hide hB
  have HZ := hide hz
  clear hA hB hz hn
  go_enter Tryd.func32, Tryd.ntmps32
  go_wp2_with fail
  go_loopw [5] (fun vi wr => ∃ (k : Nat), vi = .int .i64 k ∧ Hid (k ≤ n ∧ Below w.heap.size w wr)) (fun vi _ => n - (intOf vi).toNat)
  case atStart => exact ⟨0, rfl, hide ⟨by omega, Below.refl _ _⟩⟩
  case round =>
    obtain ⟨k, rfl, HV⟩ := hrel
    obtain ⟨hk, hb⟩ := HV.out
    have hk0 : (0 : Int) ≤ (k : Int) := by omega
    have HBB := hide hb
    clear HV
    by_cases hlt : k < n
    case neg =>
      have hlt' : ¬ (k : Int) < (n : Int) := by omega
      clear hb
      go_wp2_with fail
      go_ret
      exact ⟨rfl, HBB.out⟩
    have hlt' : (k : Int) < (n : Int) := by omega
    rcases HA.out.below hb with hz | ⟨ba, oa, rfl, hla, hca⟩
    · have := HZ.out; rw [hz] at this; simp at this; omega
    rcases HB.out.below hb with hz | ⟨bb, ob, rfl, hlb, hcb⟩
    · have := HZ.out; rw [hz] at this; simp at this; omega
    obtain ⟨x0, x1, x2⟩ := hca k (by have := HZ.out; omega)
    obtain ⟨y0, y1, y2⟩ := hcb k (by have := HZ.out; omega)
    generalize (cs.getD k C11.c0).f = f at *
    generalize (cs.getD k C11.c0).l = l at *
    generalize (cs.getD k C11.c0).g = g at *
    clear hca hcb hb
    go_wp2_with fail
    go_quiet (fail)
    go_wp2_with fail
    go_roundw
    case rel => exact ⟨k + 1, by go_num, hide ⟨by omega, below_drewN HBB.out _⟩⟩
    case measure => simp [intOf]; omega
set_option maxRecDepth 8000 in
set_option maxHeartbeats 4000000 in
theorem rsame_any (m : Mt) (a1 a2 b1 b2 g1 g2 c1 c2 : Option Addr) (na nb ng nc k1 k2 k3 k4 k5 k6 k7 k8 : Nat) (gs : List ByteArray) (cs : List C11.Ch) (w : World) (hna : m.ad.length = na) (hnb : m.be.length = nb) (hng : gs.length = ng) (hnc : cs.length = nc) (hma : na ≤ 1048576) (hmb : nb ≤ 1048576) (hmg : ng ≤ 1048576) (hmc : nc ≤ 1048576)
    (hA1 : Lst w a1 m.ad) (hA2 : Lst w a2 m.ad) (hB1 : Lst w b1 m.be) (hB2 : Lst w b2 m.be) (hG1 : G10.SLst w g1 gs) (hG2 : G10.SLst w g2 gs) (hC1 : C11.CLst w c1 cs) (hC2 : C11.CLst w c2 cs) :
    Calls Tryd.prog 16 #[.agg (fcs m (.slice a1 na k1) (.slice b1 nb k2) (.slice g1 ng k3) (.slice c1 nc k4)), .agg (fcs m (.slice a2 na k5) (.slice b2 nb k6) (.slice g2 ng k7) (.slice c2 nc k8))] w fun e w' => e = .returned (.bool true) ∧ Below w.heap.size w w' := by
  have CM := hide (fun (u : World) (hu : Below w.heap.size w u) => msame_any m a1 a2 b1 b2 na nb k1 k5 k2 k6 u hna hnb hma hmb (hA1.below hu) (hA2.below hu) (hB1.below hu) (hB2.below hu))
  have CT := hide (fun (u : World) (hu : Below w.heap.size w u) => G10.ktexts_any g1 g2 ng k3 k7 gs u hng hmg (hG1.below hu) (hG2.below hu))
  have CC := hide (fun (u : World) (hu : Below w.heap.size w u) => schars_any c1 c2 k4 k8 nc cs u hnc (by omega) (hC1.below hu) (hC2.below hu))
  have bA := (Below.refl w.heap.size w).alloc (Nat.le_refl _) (.cells (fcs m (.slice a1 na k1) (.slice b1 nb k2) (.slice g1 ng k3) (.slice c1 nc k4)) 29)
  have kA := Blk.new w (fcs m (.slice a1 na k1) (.slice b1 nb k2) (.slice g1 ng k3) (.slice c1 nc k4)) 29
  have zA : (w.alloc (.cells (fcs m (.slice a1 na k1) (.slice b1 nb k2) (.slice g1 ng k3) (.slice c1 nc k4)) 29)).heap.size = w.heap.size + 1 := by simp
  obtain ⟨up, sc, de, gap, b0, b1', b2', b3, lg, ad, be⟩ := m
  simp only [mcs, fcs] at CM bA kA zA ⊢
  clear hna hnb hng hnc hma hmb hmg hmc hA1 hA2 hB1 hB2 hG1 hG2 hC1 hC2
  go_enter Tryd.func16, Tryd.ntmps16
  go_upto_region 1 with (fail)
  rw [← zA]
  generalize w.alloc (.cells #[.int .i64 up, .int .i64 sc, .int .i64 de, .int .i64 gap, .int .i64 b0, .int .i64 b1', .int .i64 b2', .int .i64 b3, .bool lg, .slice a1 na k1, .slice b1 nb k2, .slice g1 ng k3, .slice c1 nc k4] 29) = U at bA kA zA ⊢
  have bB := (Below.refl U.heap.size U).alloc (Nat.le_refl _) (.cells #[.int .i64 up, .int .i64 sc, .int .i64 de, .int .i64 gap, .int .i64 b0, .int .i64 b1', .int .i64 b2', .int .i64 b3, .bool lg, .slice a2 na k5, .slice b2 nb k6, .slice g2 ng k7, .slice c2 nc k8] 29)
  have kB := Blk.new U #[.int .i64 up, .int .i64 sc, .int .i64 de, .int .i64 gap, .int .i64 b0, .int .i64 b1', .int .i64 b2', .int .i64 b3, .bool lg, .slice a2 na k5, .slice b2 nb k6, .slice g2 ng k7, .slice c2 nc k8] 29
  have kA2 := kA.below bB
  have bV := below_t5 bA bB
  generalize U.alloc (.cells #[.int .i64 up, .int .i64 sc, .int .i64 de, .int .i64 gap, .int .i64 b0, .int .i64 b1', .int .i64 b2', .int .i64 b3, .bool lg, .slice a2 na k5, .slice b2 nb k6, .slice g2 ng k7, .slice c2 nc k8] 29) = V at bB kB kA2 bV ⊢
  have HKA := hide kA2
  have HKB := hide kB
  have HBV := hide bV
  have x0 := kA2.cell 0
  have x1 := kA2.cell 1
  have x2 := kA2.cell 2
  have x3 := kA2.cell 3
  have x4 := kA2.cell 4
  have x5 := kA2.cell 5
  have x6 := kA2.cell 6
  have x7 := kA2.cell 7
  have x8 := kA2.cell 8
  have x9 := kA2.cell 9
  have x10 := kA2.cell 10
  have x11 := kA2.cell 11
  have x12 := kA2.cell 12
  simp at x0 x1 x2 x3 x4 x5 x6 x7 x8 x9 x10 x11 x12
  have y0 := kB.cell 0
  have y1 := kB.cell 1
  have y2 := kB.cell 2
  have y3 := kB.cell 3
  have y4 := kB.cell 4
  have y5 := kB.cell 5
  have y6 := kB.cell 6
  have y7 := kB.cell 7
  have y8 := kB.cell 8
  have y9 := kB.cell 9
  have y10 := kB.cell 10
  have y11 := kB.cell 11
  have y12 := kB.cell 12
  simp at y0 y1 y2 y3 y4 y5 y6 y7 y8 y9 y10 y11 y12
  have alt := kA2.lt
  have blt := kB.lt
  clear kA kB kA2 bA bB bV zA
  go_wp2_with fail
  refine (CM.out _ HBV.out).mono ?_
  rintro e w1 ⟨rfl, h1⟩
  have HB1 := hide (below_t5 HBV.out h1)
  have ka := HKA.out.below h1
  have kb := HKB.out.below h1
  clear x0 y0 x1 y1 x2 y2 x3 y3 x4 y4 x5 y5 x6 y6 x7 y7 x8 y8 x9 y9 x10 y10 x11 y11 x12 y12 alt blt
  have x11 := ka.cell 11
  have x12 := ka.cell 12
  simp at x11 x12
  have y11 := kb.cell 11
  have y12 := kb.cell 12
  simp at y11 y12
  have alt := ka.lt
  have blt := kb.lt
  have HKA1 := hide ka
  have HKB1 := hide kb
  clear ka kb h1 HKA HKB HBV CM
  go_wp2_with fail
  refine (CT.out _ HB1.out).mono ?_
  rintro e w2 ⟨rfl, n2, hw2⟩
  have h2 : Below w1.heap.size w1 w2 := by rw [hw2]; exact below_d (Below.refl _ _) (Below.refl _ _) rfl rfl rfl rfl
  have HB2 := hide (below_t5 HB1.out h2)
  have ka := HKA1.out.below h2
  have kb := HKB1.out.below h2
  clear x11 x12 y11 y12 alt blt hw2
  have x12 := ka.cell 12
  simp at x12
  have y12 := kb.cell 12
  simp at y12
  have alt := ka.lt
  have blt := kb.lt
  clear ka kb h2 HKA1 HKB1 HB1 CT
  go_wp2_with fail
  refine (CC.out _ HB2.out).mono ?_
  rintro e w3 ⟨rfl, h3⟩
  have HB3 := hide (below_t5 HB2.out h3)
  clear x12 y12 alt blt h3
  go_wp2_with fail
  go_ret
  exact ⟨rfl, HB3.out⟩
end Go.Proofs.YthnpnkiomknkeaaDoor.F12
