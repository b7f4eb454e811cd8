/-
  Joined: M9Sam.
-/
import Derived.BigQuiet
import Derived.ChangeAlike
import Derived.ChangeArms
import Derived.ChangeKeysEq
import Derived.ChangeSlices
import Derived.Deep.AppendLies
import Derived.Deep.AppendSrc
import Derived.Deep.CutRange
import Derived.Deep.Draws
import Derived.Deep.QuietTactic
import Derived.Deep.RegionHeld3
import Derived.Deep.RegionWith
import Derived.Deep.Slices
import Derived.Deep.Trees
import Derived.Laws.Bits64b
import Derived.Laws.BitsLemmas
import Derived.Laws.BytesArg
import Derived.Laws.EntriesVeiled
import Derived.Laws.IdiomStrings
import Derived.Laws.OwnMore
import Derived.Lib.AppendStr
import Derived.Lib.AppendZeros
import Derived.Lib.BitFns
import Derived.Lib.BufferWrite
import Derived.Lib.Mul64
import Derived.Lib.SlBuf
import Derived.Lib.Small
import Derived.Lib.Strings
import Derived.Lib.Walk
import Derived.OpenShut
import Derived.Outline
import Derived.OwnWalk
import Derived.ProofKit
import Derived.RegionTactic
import Derived.Shelf.Strings.Trim
import Derived.Test.YthnpnkiomknkeaaDoorProg
import Derived.WalkKit
import Derived.WalkSmall
import Derived.Test.YthnpnkiomknkeaaDoorC00
import Derived.Test.YthnpnkiomknkeaaDoorC02
import Derived.Test.YthnpnkiomknkeaaDoorC03
import Derived.Test.YthnpnkiomknkeaaDoorC04
import Derived.Test.YthnpnkiomknkeaaDoorC05
import Derived.Test.YthnpnkiomknkeaaDoorC06
import Derived.Test.YthnpnkiomknkeaaDoorC11
import Derived.Test.YthnpnkiomknkeaaDoorC12
import Derived.Test.YthnpnkiomknkeaaDoorC19
import Derived.Test.YthnpnkiomknkeaaDoorC20
import Derived.Test.YthnpnkiomknkeaaDoorC21
import Derived.Test.YthnpnkiomknkeaaDoorC25
import Derived.Test.YthnpnkiomknkeaaDoorD00
namespace Go.Proofs.YthnpnkiomknkeaaDoor
open Go.RowKit Go.Deep
set_option linter.unusedVariables false
theorem ksame_any (a b : Option Addr) (len ca cb : Nat) (zs : List Int) (w : World) (hl : zs.length = len) (h4 : len ≤ 1048576) (hA : Lst w a zs) (hB : Lst w b zs) :
    Calls Tryd.prog 11 #[.slice a len ca, .slice b len cb] w fun e w' => e = .returned (.bool true) ∧ ∃ n, w' = w.drewN n := by
  have HA := hide hA
  have HB := hide hB
  have Hl := hide hl
  have h5 : (len : Int) ≤ 1048576 := by omega
  have t0 : ((len : Int) != (len : Int)) = false := by simp
  clear hA hB hl
  go_enter Tryd.func11, Tryd.ntmps11
  go_wp2_with fail
  go_loopw [5] (fun vi wr => ∃ (k n : Nat), vi = .int .i64 k ∧ wr = w.drewN n ∧ Hid (k ≤ len)) (fun vi _ => len - (intOf vi).toNat)
  case atStart => exact ⟨0, 0, rfl, rfl, hide (by omega)⟩
  case round =>
    obtain ⟨k, n, rfl, rfl, HK⟩ := hrel
    by_cases hlt : k < len
    · have hlt' : (k : Int) < (len : Int) := by omega
      have hl := Hl.out
      rcases HA.out with hz | ⟨b1, o1, rfl, hb1, hcell1⟩
      · rw [hz] at hl; simp at hl; omega
      rcases HB.out with hz | ⟨b2, o2, rfl, hb2, hcell2⟩
      · rw [hz] at hl; simp at hl; omega
      have hc1 := hcell1 k (by omega)
      have hc2 := hcell2 k (by omega)
      generalize zs.getD k 0 = z at *
      clear hcell1 hcell2 hl
      go_wp2_with fail
      go_quiet (fail)
      go_wp2
      go_roundw
      case rel => exact ⟨k + 1, _, by go_num, rfl, hide (by omega)⟩
      case measure => simp [intOf]; omega
    · have hlt' : ¬ (k : Int) < (len : Int) := by omega
      go_wp2
      go_ret
      exact ⟨rfl, n, rfl⟩
theorem eqi_d (d : Nat) (x y : Int) (w : World) : (Op.equalIn (d + 1) 3 (.int .i64 x) (.int .i64 y)).run Tryd.prog w = .ok (x == y) w := by
  simp [Op.equalIn, run_underlying Tryd.underlying3, go_sem]
theorem info_exi : ∃ i, Tryd.prog.info? 3 = some i := ⟨_, (info_parts5 info_int).choose_spec.1⟩
set_option linter.unusedSimpArgs false in
theorem eqb_d (d : Nat) (a0 a1 a2 a3 : Int) (w : World) : (Op.equalIn (d + 1 + 1) 22 (.agg #[.int .i64 a0, .int .i64 a1, .int .i64 a2, .int .i64 a3]) (.agg #[.int .i64 a0, .int .i64 a1, .int .i64 a2, .int .i64 a3])).run Tryd.prog w = .ok true w := by
  obtain ⟨i, hi⟩ := info_exi
  have hc : Tryd.prog.cellsOf 3 = 1 := by kernel_rfl
  have hp0 : ∀ (b0 b1 b2 b3 : Int) (w : World), (part 3 #[.int .i64 b0, .int .i64 b1, .int .i64 b2, .int .i64 b3] 0).run Tryd.prog w = .ok (.int .i64 b0) w := fun _ _ _ _ _ => by kernel_rfl
  have hp1 : ∀ (b0 b1 b2 b3 : Int) (w : World), (part 3 #[.int .i64 b0, .int .i64 b1, .int .i64 b2, .int .i64 b3] 1).run Tryd.prog w = .ok (.int .i64 b1) w := fun _ _ _ _ _ => by kernel_rfl
  have hp2 : ∀ (b0 b1 b2 b3 : Int) (w : World), (part 3 #[.int .i64 b0, .int .i64 b1, .int .i64 b2, .int .i64 b3] 2).run Tryd.prog w = .ok (.int .i64 b2) w := fun _ _ _ _ _ => by kernel_rfl
  have hp3 : ∀ (b0 b1 b2 b3 : Int) (w : World), (part 3 #[.int .i64 b0, .int .i64 b1, .int .i64 b2, .int .i64 b3] 3).run Tryd.prog w = .ok (.int .i64 b3) w := fun _ _ _ _ _ => by kernel_rfl
  rw [run_equalIn_array (P := Tryd.prog) (d := d + 1) (hu := Tryd.underlying22) (hi := hi), hc]
  simp [List.range, List.range.loop, Op.eqItems, hp0, hp1, hp2, hp3, eqi_d]
theorem eqb (a0 a1 a2 a3 : Int) (w : World) : (Op.equalIn 10000 22 (.agg #[.int .i64 a0, .int .i64 a1, .int .i64 a2, .int .i64 a3]) (.agg #[.int .i64 a0, .int .i64 a1, .int .i64 a2, .int .i64 a3])).run Tryd.prog w = .ok true w := eqb_d 9998 a0 a1 a2 a3 w
set_option maxRecDepth 8000 in
set_option maxHeartbeats 4000000 in
theorem msame_any (m : Mt) (a1 a2 b1 b2 : Option Addr) (na nb ca1 ca2 cb1 cb2 : Nat) (w : World) (hna : m.ad.length = na) (hnb : m.be.length = nb) (hma : na ≤ 1048576) (hmb : nb ≤ 1048576) (h1 : Lst w a1 m.ad) (h2 : Lst w a2 m.ad) (h3 : Lst w b1 m.be) (h4 : Lst w b2 m.be) :
    Calls Tryd.prog 30 #[.agg (mcs m (.slice a1 na ca1) (.slice b1 nb cb1)), .agg (mcs m (.slice a2 na ca2) (.slice b2 nb cb2))] w fun e w' => e = .returned (.bool true) ∧ Below w.heap.size w w' := by
  have CA := hide (fun (u : World) (hu : Below w.heap.size w u) => ksame_any a1 a2 na ca1 ca2 m.ad u hna hma (h1.below hu) (h2.below hu))
  have CB := hide (fun (u : World) (hu : Below w.heap.size w u) => ksame_any b1 b2 nb cb1 cb2 m.be u hnb hmb (h3.below hu) (h4.below hu))
  obtain ⟨up, sc, de, ga, x0, x1, x2, x3, lg, ad, be⟩ := m
  clear hna hnb hma hmb h1 h2 h3 h4
  simp only [mcs] at ⊢
  have EB := eqb x0 x1 x2 x3
  go_enter Tryd.func30, Tryd.ntmps30
  go_wp2_with fail
  have hb2 := ((Below.refl w.heap.size w).alloc (Nat.le_refl _) (.cells #[.int .i64 up, .int .i64 sc, .int .i64 de, .int .i64 ga, .int .i64 x0, .int .i64 x1, .int .i64 x2, .int .i64 x3, .bool lg, .slice a1 na ca1, .slice b1 nb cb1] 25)).alloc (by simp) (.cells #[.int .i64 up, .int .i64 sc, .int .i64 de, .int .i64 ga, .int .i64 x0, .int .i64 x1, .int .i64 x2, .int .i64 x3, .bool lg, .slice a2 na ca2, .slice b2 nb cb2] 25)
  have HB2 := hide hb2
  refine (CA.out _ hb2).mono ?_
  rintro e w1 ⟨rfl, n1, rfl⟩
  clear hb2
  go_wp2_with fail
  refine (CB.out _ (below_drewN HB2.out n1)).mono ?_
  rintro e w1 ⟨rfl, n2, rfl⟩
  go_wp2_with fail
  go_ret
  exact ⟨rfl, below_drewN HB2.out _⟩
end Go.Proofs.YthnpnkiomknkeaaDoor
