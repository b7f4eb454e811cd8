/-
  Joined: M9Opn, M9Sam.
-/
import Derived.ChangeAlike
import Derived.ChangeArms
import Derived.ChangeKeysEq
import Derived.ChangeSlices
import Derived.Deep.Slices
import Derived.OpenShut
import Derived.ProofKit
import Derived.RegionTactic
import Derived.Test.YtpdfpbbamnhkfaaGreatDoorV34
namespace Go.Proofs.YtpdfpbbamnhkfaaGreatDoor
open Go.ChangeShapes Go.WideShapes Go.RowKit Go.Deep
theorem cells_int : Tryz.prog.cellsOf 3 = 1 := by kernel_rfl
theorem cells_bool : Tryz.prog.cellsOf 4 = 1 := by kernel_rfl
theorem cells_ints : Tryz.prog.cellsOf 23 = 1 := by kernel_rfl
theorem cells_box : Tryz.prog.cellsOf 22 = 4 := by kernel_rfl
theorem cells_met : Tryz.prog.cellsOf 25 = 11 := by kernel_rfl
theorem len8 {α : Type} {l : List α} (h : l.length = 8) : ∃ a b c d e f g i, l = [a, b, c, d, e, f, g, i] := by
  match l, h with
  | [a, b, c, d, e, f, g, i], _ => exact ⟨a, b, c, d, e, f, g, i, rfl⟩
theorem len11 {α : Type} {l : List α} (h : l.length = 11) : ∃ a b c d e f g i j k m, l = [a, b, c, d, e, f, g, i, j, k, m] := by
  match l, h with
  | [a, b, c, d, e, f, g, i, j, k, m], _ => exact ⟨a, b, c, d, e, f, g, i, j, k, m, rfl⟩
theorem cell_lt9 {w : World} {b o : Nat} {v : Value} (h : w.cell? ⟨b, o, none⟩ = some v) : b < w.heap.size := by
  by_cases hb : b < w.heap.size
  · exact hb
  · unfold World.cell? at h
    rw [Array.getElem?_eq_none (by show w.heap.size ≤ b; omega)] at h
    simp at h
structure MIn (w : World) (m : Mt) (aa : Option Addr) (na : Nat) (ab : Option Addr) (nb : Nat) : Prop where
  up : i64 m.up
  hna : m.ad.length = na
  hnb : m.be.length = nb
  ma : na ≤ 9223372036854775807
  mb : nb ≤ 9223372036854775807
  la : Lst w aa m.ad
  lb : Lst w ab m.be
  xa : ∀ x ∈ m.ad, i64 x
  xb : ∀ x ∈ m.be, i64 x
section
variable {H : Type} {enc : TypeId × Value → H} {W : World} {base : Nat} {sp : Nat → Bool} {held : Bool}
theorem ints_cell {n : Nat} {c : Value} {y : DataW H × List MemPlace} (hf : DataW.trod enc Tryz.prog W base sp held n 23 [c] = some y) : ∃ a cap zs, c = .slice a zs.length cap ∧ Lst W a zs ∧ zs.length ≤ 9223372036854775807 ∧ ∀ x ∈ zs, i64 x := by
  rcases open_ints Tryz.underlying23 Tryz.underlying3 (by kernel_rfl) hf with ⟨hcs, _⟩ | ⟨x, len', cap', zs, hcs, _, hl, hm, hzl, _, hc, hw⟩
  · simp at hcs
    exact ⟨none, 0, [], hcs, Or.inl rfl, by simp, by simp⟩
  · simp at hcs
    have hlz : len' ≤ zs.length := by rw [hzl]; split <;> omega
    have htl : (zs.take len').length = len' := by rw [List.length_take]; omega
    refine ⟨some x, cap', zs.take len', by rw [htl]; exact hcs, ?_, by rw [htl]; unfold maxLen at hm; omega, fun n hn => bounds_i64 (hw n (List.mem_of_mem_take hn))⟩
    by_cases hz : zs.length = 0
    · rw [List.eq_nil_of_length_eq_zero hz]; exact Or.inl (by simp)
    · obtain ⟨b, off, rfl, hc'⟩ := ints_at hc (by omega)
      have : Lst W (some ⟨b, off, none⟩) zs := Or.inr ⟨b, off, rfl, cell_lt9 (hc' 0 (by omega)), hc'⟩
      exact this.take len'
theorem int_cell9 {n : Nat} {c : Value} {y : DataW H × List MemPlace} (h : DataW.trod enc Tryz.prog W base sp held n 3 [c] = some y) : ∃ a, c = .int .i64 a ∧ i64 a := by
  obtain ⟨a, e, _, wa⟩ := DataW.trod_int Tryz.underlying3 h
  simp only [List.cons.injEq, and_true] at e
  exact ⟨a, e, bounds_i64 wa⟩
variable {r : Reach} {b0 : Nat} {v : Value} {d : DataW H} {pl : List MemPlace}
end
end Go.Proofs.YtpdfpbbamnhkfaaGreatDoor
namespace Go.Proofs.YtpdfpbbamnhkfaaGreatDoor
open Go.RowKit Go.Deep
set_option linter.unusedVariables false
theorem ksame_any (a b : Option Addr) (len ca cb : Nat) (zs : List Int) (w : World) (hl : zs.length = len) (h4 : len ≤ 1048576) (hA : Lst w a zs) (hB : Lst w b zs) :
    Calls Tryz.prog 24 #[.slice a len ca, .slice b len cb] w fun e w' => e = .returned (.bool true) ∧ ∃ n, w' = w.drewN n := by
  have HA := hide hA
  have HB := hide hB
  have Hl := hide hl
  have h5 : (len : Int) ≤ 1048576 := by omega
  have t0 : ((len : Int) != (len : Int)) = false := by simp
  clear hA hB hl
  go_enter Tryz.func24, Tryz.ntmps24
  go_wp2_with fail
  go_loopw [5] (fun vi wr => ∃ (k n : Nat), vi = .int .i64 k ∧ wr = w.drewN n ∧ Hid (k ≤ len)) (fun vi _ => len - (intOf vi).toNat)
  case atStart => exact ⟨0, 0, rfl, rfl, hide (by omega)⟩
  case round =>
    obtain ⟨k, n, rfl, rfl, HK⟩ := hrel
    by_cases hlt : k < len
    · have hlt' : (k : Int) < (len : Int) := by omega
      have hl := Hl.out
      rcases HA.out with hz | ⟨b1, o1, rfl, hb1, hcell1⟩
      · rw [hz] at hl; simp at hl; omega
      rcases HB.out with hz | ⟨b2, o2, rfl, hb2, hcell2⟩
      · rw [hz] at hl; simp at hl; omega
      have hc1 := hcell1 k (by omega)
      have hc2 := hcell2 k (by omega)
      generalize zs.getD k 0 = z at *
      clear hcell1 hcell2 hl
      go_wp2_with fail
      go_quiet (fail)
      go_wp2
      go_roundw
      case rel => exact ⟨k + 1, _, by go_num, rfl, hide (by omega)⟩
      case measure => simp [intOf]; omega
    · have hlt' : ¬ (k : Int) < (len : Int) := by omega
      go_wp2
      go_ret
      exact ⟨rfl, n, rfl⟩
theorem eqi_d (d : Nat) (x y : Int) (w : World) : (Op.equalIn (d + 1) 3 (.int .i64 x) (.int .i64 y)).run Tryz.prog w = .ok (x == y) w := by
  simp [Op.equalIn, run_underlying Tryz.underlying3, go_sem]
theorem info_exi : ∃ i, Tryz.prog.info? 3 = some i := ⟨_, (info_parts5 info_int).choose_spec.1⟩
set_option linter.unusedSimpArgs false in
theorem eqb_d (d : Nat) (a0 a1 a2 a3 : Int) (w : World) : (Op.equalIn (d + 1 + 1) 22 (.agg #[.int .i64 a0, .int .i64 a1, .int .i64 a2, .int .i64 a3]) (.agg #[.int .i64 a0, .int .i64 a1, .int .i64 a2, .int .i64 a3])).run Tryz.prog w = .ok true w := by
  obtain ⟨i, hi⟩ := info_exi
  have hc : Tryz.prog.cellsOf 3 = 1 := by kernel_rfl
  have hp0 : ∀ (b0 b1 b2 b3 : Int) (w : World), (part 3 #[.int .i64 b0, .int .i64 b1, .int .i64 b2, .int .i64 b3] 0).run Tryz.prog w = .ok (.int .i64 b0) w := fun _ _ _ _ _ => by kernel_rfl
  have hp1 : ∀ (b0 b1 b2 b3 : Int) (w : World), (part 3 #[.int .i64 b0, .int .i64 b1, .int .i64 b2, .int .i64 b3] 1).run Tryz.prog w = .ok (.int .i64 b1) w := fun _ _ _ _ _ => by kernel_rfl
  have hp2 : ∀ (b0 b1 b2 b3 : Int) (w : World), (part 3 #[.int .i64 b0, .int .i64 b1, .int .i64 b2, .int .i64 b3] 2).run Tryz.prog w = .ok (.int .i64 b2) w := fun _ _ _ _ _ => by kernel_rfl
  have hp3 : ∀ (b0 b1 b2 b3 : Int) (w : World), (part 3 #[.int .i64 b0, .int .i64 b1, .int .i64 b2, .int .i64 b3] 3).run Tryz.prog w = .ok (.int .i64 b3) w := fun _ _ _ _ _ => by kernel_rfl
  rw [run_equalIn_array (P := Tryz.prog) (d := d + 1) (hu := Tryz.underlying22) (hi := hi), hc]
  simp [List.range, List.range.loop, Op.eqItems, hp0, hp1, hp2, hp3, eqi_d]
theorem eqb (a0 a1 a2 a3 : Int) (w : World) : (Op.equalIn 10000 22 (.agg #[.int .i64 a0, .int .i64 a1, .int .i64 a2, .int .i64 a3]) (.agg #[.int .i64 a0, .int .i64 a1, .int .i64 a2, .int .i64 a3])).run Tryz.prog w = .ok true w := eqb_d 9998 a0 a1 a2 a3 w
set_option maxRecDepth 8000 in
set_option maxHeartbeats 4000000 in
theorem msame_any (m : Mt) (a1 a2 b1 b2 : Option Addr) (na nb ca1 ca2 cb1 cb2 : Nat) (w : World) (hna : m.ad.length = na) (hnb : m.be.length = nb) (hma : na ≤ 1048576) (hmb : nb ≤ 1048576) (h1 : Lst w a1 m.ad) (h2 : Lst w a2 m.ad) (h3 : Lst w b1 m.be) (h4 : Lst w b2 m.be) :
    Calls Tryz.prog 37 #[.agg (mcs m (.slice a1 na ca1) (.slice b1 nb cb1)), .agg (mcs m (.slice a2 na ca2) (.slice b2 nb cb2))] w fun e w' => e = .returned (.bool true) ∧ Below w.heap.size w w' := by
  have CA := hide (fun (u : World) (hu : Below w.heap.size w u) => ksame_any a1 a2 na ca1 ca2 m.ad u hna hma (h1.below hu) (h2.below hu))
  have CB := hide (fun (u : World) (hu : Below w.heap.size w u) => ksame_any b1 b2 nb cb1 cb2 m.be u hnb hmb (h3.below hu) (h4.below hu))
  obtain ⟨up, sc, de, ga, x0, x1, x2, x3, lg, ad, be⟩ := m
  clear hna hnb hma hmb h1 h2 h3 h4
  simp only [mcs] at ⊢
  have EB := eqb x0 x1 x2 x3
  go_enter Tryz.func37, Tryz.ntmps37
  go_wp2_with fail
  have hb2 := ((Below.refl w.heap.size w).alloc (Nat.le_refl _) (.cells #[.int .i64 up, .int .i64 sc, .int .i64 de, .int .i64 ga, .int .i64 x0, .int .i64 x1, .int .i64 x2, .int .i64 x3, .bool lg, .slice a1 na ca1, .slice b1 nb cb1] 25)).alloc (by simp) (.cells #[.int .i64 up, .int .i64 sc, .int .i64 de, .int .i64 ga, .int .i64 x0, .int .i64 x1, .int .i64 x2, .int .i64 x3, .bool lg, .slice a2 na ca2, .slice b2 nb cb2] 25)
  have HB2 := hide hb2
  refine (CA.out _ hb2).mono ?_
  rintro e w1 ⟨rfl, n1, rfl⟩
  clear hb2
  go_wp2_with fail
  refine (CB.out _ (below_drewN HB2.out n1)).mono ?_
  rintro e w1 ⟨rfl, n2, rfl⟩
  go_wp2_with fail
  go_ret
  exact ⟨rfl, below_drewN HB2.out _⟩
end Go.Proofs.YtpdfpbbamnhkfaaGreatDoor
