/-
  Joined: M9Opn, M9Sam, M9RB, M9RG, M9RBd, M9RBt.
-/
import Derived.ChangeAlike
import Derived.ChangeArms
import Derived.ChangeKeysEq
import Derived.ChangeSlices
import Derived.Deep.Slices
import Derived.Laws.Concat
import Derived.Lib.MinMax
import Derived.OpenShut
import Derived.ProofKit
import Derived.RegionTactic
import Derived.Test.YtpdfpbbamnhkfaaGreatDoorZ33
namespace Go.Proofs.YtpdfpbbamnhkfaaGreatDoor
open Go.ChangeShapes Go.WideShapes Go.RowKit Go.Deep
theorem cells_int : Tryz.prog.cellsOf 3 = 1 := by kernel_rfl
theorem cells_bool : Tryz.prog.cellsOf 4 = 1 := by kernel_rfl
theorem cells_ints : Tryz.prog.cellsOf 23 = 1 := by kernel_rfl
theorem cells_box : Tryz.prog.cellsOf 22 = 4 := by kernel_rfl
theorem cells_met : Tryz.prog.cellsOf 25 = 11 := by kernel_rfl
theorem len8 {α : Type} {l : List α} (h : l.length = 8) : ∃ a b c d e f g i, l = [a, b, c, d, e, f, g, i] := by
  match l, h with
  | [a, b, c, d, e, f, g, i], _ => exact ⟨a, b, c, d, e, f, g, i, rfl⟩
theorem len11 {α : Type} {l : List α} (h : l.length = 11) : ∃ a b c d e f g i j k m, l = [a, b, c, d, e, f, g, i, j, k, m] := by
  match l, h with
  | [a, b, c, d, e, f, g, i, j, k, m], _ => exact ⟨a, b, c, d, e, f, g, i, j, k, m, rfl⟩
theorem cell_lt9 {w : World} {b o : Nat} {v : Value} (h : w.cell? ⟨b, o, none⟩ = some v) : b < w.heap.size := by
  by_cases hb : b < w.heap.size
  · exact hb
  · unfold World.cell? at h
    rw [Array.getElem?_eq_none (by show w.heap.size ≤ b; omega)] at h
    simp at h
structure MIn (w : World) (m : Mt) (aa : Option Addr) (na : Nat) (ab : Option Addr) (nb : Nat) : Prop where
  up : i64 m.up
  hna : m.ad.length = na
  hnb : m.be.length = nb
  ma : na ≤ 9223372036854775807
  mb : nb ≤ 9223372036854775807
  la : Lst w aa m.ad
  lb : Lst w ab m.be
  xa : ∀ x ∈ m.ad, i64 x
  xb : ∀ x ∈ m.be, i64 x
section
variable {H : Type} {enc : TypeId × Value → H} {W : World} {base : Nat} {sp : Nat → Bool} {held : Bool}
theorem ints_cell {n : Nat} {c : Value} {y : DataW H × List MemPlace} (hf : DataW.trod enc Tryz.prog W base sp held n 23 [c] = some y) : ∃ a cap zs, c = .slice a zs.length cap ∧ Lst W a zs ∧ zs.length ≤ 9223372036854775807 ∧ ∀ x ∈ zs, i64 x := by
  rcases open_ints Tryz.underlying23 Tryz.underlying3 (by kernel_rfl) hf with ⟨hcs, _⟩ | ⟨x, len', cap', zs, hcs, _, hl, hm, hzl, _, hc, hw⟩
  · simp at hcs
    exact ⟨none, 0, [], hcs, Or.inl rfl, by simp, by simp⟩
  · simp at hcs
    have hlz : len' ≤ zs.length := by rw [hzl]; split <;> omega
    have htl : (zs.take len').length = len' := by rw [List.length_take]; omega
    refine ⟨some x, cap', zs.take len', by rw [htl]; exact hcs, ?_, by rw [htl]; unfold maxLen at hm; omega, fun n hn => bounds_i64 (hw n (List.mem_of_mem_take hn))⟩
    by_cases hz : zs.length = 0
    · rw [List.eq_nil_of_length_eq_zero hz]; exact Or.inl (by simp)
    · obtain ⟨b, off, rfl, hc'⟩ := ints_at hc (by omega)
      have : Lst W (some ⟨b, off, none⟩) zs := Or.inr ⟨b, off, rfl, cell_lt9 (hc' 0 (by omega)), hc'⟩
      exact this.take len'
theorem int_cell9 {n : Nat} {c : Value} {y : DataW H × List MemPlace} (h : DataW.trod enc Tryz.prog W base sp held n 3 [c] = some y) : ∃ a, c = .int .i64 a ∧ i64 a := by
  obtain ⟨a, e, _, wa⟩ := DataW.trod_int Tryz.underlying3 h
  simp only [List.cons.injEq, and_true] at e
  exact ⟨a, e, bounds_i64 wa⟩
variable {r : Reach} {b0 : Nat} {v : Value} {d : DataW H} {pl : List MemPlace}
end
end Go.Proofs.YtpdfpbbamnhkfaaGreatDoor
namespace Go.Proofs.YtpdfpbbamnhkfaaGreatDoor
open Go.RowKit Go.Deep
set_option linter.unusedVariables false
theorem ksame_any (a b : Option Addr) (len ca cb : Nat) (zs : List Int) (w : World) (hl : zs.length = len) (h4 : len ≤ 1048576) (hA : Lst w a zs) (hB : Lst w b zs) :
    Calls Tryz.prog 24 #[.slice a len ca, .slice b len cb] w fun e w' => e = .returned (.bool true) ∧ ∃ n, w' = w.drewN n := by
  have HA := hide hA
  have HB := hide hB
  have Hl := hide hl
  have h5 : (len : Int) ≤ 1048576 := by omega
  have t0 : ((len : Int) != (len : Int)) = false := by simp
  clear hA hB hl
  go_enter Tryz.func24, Tryz.ntmps24
  go_wp2_with fail
  go_loopw [5] (fun vi wr => ∃ (k n : Nat), vi = .int .i64 k ∧ wr = w.drewN n ∧ Hid (k ≤ len)) (fun vi _ => len - (intOf vi).toNat)
  case atStart => exact ⟨0, 0, rfl, rfl, hide (by omega)⟩
  case round =>
    obtain ⟨k, n, rfl, rfl, HK⟩ := hrel
    by_cases hlt : k < len
    · have hlt' : (k : Int) < (len : Int) := by omega
      have hl := Hl.out
      rcases HA.out with hz | ⟨b1, o1, rfl, hb1, hcell1⟩
      · rw [hz] at hl; simp at hl; omega
      rcases HB.out with hz | ⟨b2, o2, rfl, hb2, hcell2⟩
      · rw [hz] at hl; simp at hl; omega
      have hc1 := hcell1 k (by omega)
      have hc2 := hcell2 k (by omega)
      generalize zs.getD k 0 = z at *
      clear hcell1 hcell2 hl
      go_wp2_with fail
      go_quiet (fail)
      go_wp2
      go_roundw
      case rel => exact ⟨k + 1, _, by go_num, rfl, hide (by omega)⟩
      case measure => simp [intOf]; omega
    · have hlt' : ¬ (k : Int) < (len : Int) := by omega
      go_wp2
      go_ret
      exact ⟨rfl, n, rfl⟩
theorem eqi_d (d : Nat) (x y : Int) (w : World) : (Op.equalIn (d + 1) 3 (.int .i64 x) (.int .i64 y)).run Tryz.prog w = .ok (x == y) w := by
  simp [Op.equalIn, run_underlying Tryz.underlying3, go_sem]
theorem info_exi : ∃ i, Tryz.prog.info? 3 = some i := ⟨_, (info_parts5 info_int).choose_spec.1⟩
set_option linter.unusedSimpArgs false in
theorem eqb_d (d : Nat) (a0 a1 a2 a3 : Int) (w : World) : (Op.equalIn (d + 1 + 1) 22 (.agg #[.int .i64 a0, .int .i64 a1, .int .i64 a2, .int .i64 a3]) (.agg #[.int .i64 a0, .int .i64 a1, .int .i64 a2, .int .i64 a3])).run Tryz.prog w = .ok true w := by
  obtain ⟨i, hi⟩ := info_exi
  have hc : Tryz.prog.cellsOf 3 = 1 := by kernel_rfl
  have hp0 : ∀ (b0 b1 b2 b3 : Int) (w : World), (part 3 #[.int .i64 b0, .int .i64 b1, .int .i64 b2, .int .i64 b3] 0).run Tryz.prog w = .ok (.int .i64 b0) w := fun _ _ _ _ _ => by kernel_rfl
  have hp1 : ∀ (b0 b1 b2 b3 : Int) (w : World), (part 3 #[.int .i64 b0, .int .i64 b1, .int .i64 b2, .int .i64 b3] 1).run Tryz.prog w = .ok (.int .i64 b1) w := fun _ _ _ _ _ => by kernel_rfl
  have hp2 : ∀ (b0 b1 b2 b3 : Int) (w : World), (part 3 #[.int .i64 b0, .int .i64 b1, .int .i64 b2, .int .i64 b3] 2).run Tryz.prog w = .ok (.int .i64 b2) w := fun _ _ _ _ _ => by kernel_rfl
  have hp3 : ∀ (b0 b1 b2 b3 : Int) (w : World), (part 3 #[.int .i64 b0, .int .i64 b1, .int .i64 b2, .int .i64 b3] 3).run Tryz.prog w = .ok (.int .i64 b3) w := fun _ _ _ _ _ => by kernel_rfl
  rw [run_equalIn_array (P := Tryz.prog) (d := d + 1) (hu := Tryz.underlying22) (hi := hi), hc]
  simp [List.range, List.range.loop, Op.eqItems, hp0, hp1, hp2, hp3, eqi_d]
theorem eqb (a0 a1 a2 a3 : Int) (w : World) : (Op.equalIn 10000 22 (.agg #[.int .i64 a0, .int .i64 a1, .int .i64 a2, .int .i64 a3]) (.agg #[.int .i64 a0, .int .i64 a1, .int .i64 a2, .int .i64 a3])).run Tryz.prog w = .ok true w := eqb_d 9998 a0 a1 a2 a3 w
set_option maxRecDepth 8000 in
set_option maxHeartbeats 4000000 in
theorem msame_any (m : Mt) (a1 a2 b1 b2 : Option Addr) (na nb ca1 ca2 cb1 cb2 : Nat) (w : World) (hna : m.ad.length = na) (hnb : m.be.length = nb) (hma : na ≤ 1048576) (hmb : nb ≤ 1048576) (h1 : Lst w a1 m.ad) (h2 : Lst w a2 m.ad) (h3 : Lst w b1 m.be) (h4 : Lst w b2 m.be) :
    Calls Tryz.prog 37 #[.agg (mcs m (.slice a1 na ca1) (.slice b1 nb cb1)), .agg (mcs m (.slice a2 na ca2) (.slice b2 nb cb2))] w fun e w' => e = .returned (.bool true) ∧ Below w.heap.size w w' := by
  have CA := hide (fun (u : World) (hu : Below w.heap.size w u) => ksame_any a1 a2 na ca1 ca2 m.ad u hna hma (h1.below hu) (h2.below hu))
  have CB := hide (fun (u : World) (hu : Below w.heap.size w u) => ksame_any b1 b2 nb cb1 cb2 m.be u hnb hmb (h3.below hu) (h4.below hu))
  obtain ⟨up, sc, de, ga, x0, x1, x2, x3, lg, ad, be⟩ := m
  clear hna hnb hma hmb h1 h2 h3 h4
  simp only [mcs] at ⊢
  have EB := eqb x0 x1 x2 x3
  go_enter Tryz.func37, Tryz.ntmps37
  go_wp2_with fail
  have hb2 := ((Below.refl w.heap.size w).alloc (Nat.le_refl _) (.cells #[.int .i64 up, .int .i64 sc, .int .i64 de, .int .i64 ga, .int .i64 x0, .int .i64 x1, .int .i64 x2, .int .i64 x3, .bool lg, .slice a1 na ca1, .slice b1 nb cb1] 25)).alloc (by simp) (.cells #[.int .i64 up, .int .i64 sc, .int .i64 de, .int .i64 ga, .int .i64 x0, .int .i64 x1, .int .i64 x2, .int .i64 x3, .bool lg, .slice a2 na ca2, .slice b2 nb cb2] 25)
  have HB2 := hide hb2
  refine (CA.out _ hb2).mono ?_
  rintro e w1 ⟨rfl, n1, rfl⟩
  clear hb2
  go_wp2_with fail
  refine (CB.out _ (below_drewN HB2.out n1)).mono ?_
  rintro e w1 ⟨rfl, n2, rfl⟩
  go_wp2_with fail
  go_ret
  exact ⟨rfl, below_drewN HB2.out _⟩
end Go.Proofs.YtpdfpbbamnhkfaaGreatDoor
namespace Go.Proofs.YtpdfpbbamnhkfaaGreatDoor
open Go.RowKit Go.Deep
set_option linter.unusedVariables false
theorem short_any (x : Int) (w : World) : Calls Tryz.prog 62 #[.int .i64 x] w fun e w' => e = .returned (.bool (wiB (-32768) 32767 [x])) ∧ w' = w := by
  rw [wiB_one]
  by_cases h1 : -32768 ≤ x
  · by_cases h2 : x ≤ 32767
    · rw [show decide (-32768 ≤ x) = true by simp; omega, show decide (x ≤ 32767) = true by simp; omega]
      go_enter Tryz.func62, Tryz.ntmps62
      go_wp2_with fail
      go_ret
      exact ⟨rfl, rfl⟩
    · rw [show decide (-32768 ≤ x) = true by simp; omega, show decide (x ≤ 32767) = false by simp; omega]
      go_enter Tryz.func62, Tryz.ntmps62
      go_wp2_with fail
      go_ret
      exact ⟨rfl, rfl⟩
  · rw [show decide (-32768 ≤ x) = false by simp; omega]
    go_enter Tryz.func62, Tryz.ntmps62
    go_wp2_with fail
    go_ret
    exact ⟨rfl, rfl⟩
theorem make_u8 (n : Nat) (hn : n ≤ 100000) (x : World) : (Instr.makeSlice 128 (.int .i64 (n : Int)) (.int .i64 (n : Int))).run Tryz.prog x = .ok (.slice (some ⟨x.heap.size, 0, none⟩) n n) (x.alloc (.cells (bcs (zers n)) 5)) := by
  obtain ⟨i0, hi, hz0, hz1, hz2⟩ := info_parts5 info_u8
  have h := run_make (P := Tryz.prog) x 128 5 i0 (.int .u8 0) Tryz.underlying128 hi hz0 .i64 .i64 n n (by omega) (Int.le_refl _) (by rw [hz2]; omega) (by omega)
  rw [hz1] at h
  simp only [Int.toNat_natCast, Nat.mul_one] at h
  have e : madeCells (Value.int .u8 0).cells n = bcs (zers n) := by
    apply Array.ext (by simp [madeCells, bcs, zers])
    intro j h1 h2
    simp [madeCells, Value.cells, Nat.mod_one, bcs, zers, bcell]
  rw [e] at h
  exact h
theorem blk_text {w : World} {g L : Nat} {ys : List UInt8} (h : Blk w g (bcs ys) 5) (hL : ys.length = L) :
    (convert 128 9 (.slice (some ⟨g, 0, none⟩) L L)).run Tryz.prog w = .ok (.string ⟨ys.toArray⟩) w := by
  subst hL
  refine run_convert_bytes_back (P := Tryz.prog) w 128 9 5 ⟨g, 0, none⟩ ys.length ys Tryz.underlying128 Tryz.underlying5 Tryz.underlying9 ?_
  intro k hk
  rw [Go.WideShapes.add_plain, Nat.zero_add, h.cell k, bcs_at ys k hk]
  rfl
set_option maxRecDepth 4000 in
theorem zeros_any (n : Nat) (z : Int) (w : World) (hz : z = (n : Int)) (hn : n ≤ 1000) : Calls Tryz.prog 103 #[.int .i64 z] w fun e w' => e = .returned (.string ⟨(zers n).toArray⟩) ∧ Below w.heap.size w w' := by
  subst hz
  have MK := make_u8 n (by omega)
  have kb := Blk.new w (bcs (zers n)) 5
  have CV := blk_text kb (zers_len n)
  have HB := hide ((Below.refl w.heap.size w).alloc (Nat.le_refl _) (.cells (bcs (zers n)) 5))
  have hn' : (n : Int) ≤ 1000 := by omega
  generalize bcs (zers n) = Z at MK kb CV HB
  generalize zers n = Y at CV ⊢
  clear kb hn
  go_enter Tryz.func103, Tryz.ntmps103
  go_wp2_with fail
  go_ret
  exact ⟨rfl, HB.out⟩
theorem two_any (x : Int) (w : World) (h0 : -4611686018427387904 ≤ x) (h1 : x ≤ 4611686018427387904) : Calls Tryz.prog 104 #[.int .i64 x] w fun e w' => e = .returned (.string ⟨#[hiB x, loB x]⟩) ∧ Below w.heap.size w w' := by
  have C : Hid (∀ w, Calls Tryz.prog 109 #[.int .i64 x] w fun e w' => e = .returned (.string ⟨#[hiB x, loB x]⟩) ∧ Below w.heap.size w w') := hide fun w => by
    have kb := Blk.new w (bcs [hiB x, loB x]) 5
    have CV := blk_text kb rfl
    have HB := hide ((Below.refl w.heap.size w).alloc (Nat.le_refl _) (.cells (bcs [hiB x, loB x]) 5))
    rw [show bcs [hiB x, loB x] = #[.int .u8 (x / 256 % 256), .int .u8 (x % 256)] by rw [← hiB_cell, ← loB_cell]; rfl] at CV HB
    simp only [List.length_cons, List.length_nil] at CV
    generalize (⟨[hiB x, loB x].toArray⟩ : ByteArray) = T at CV ⊢
    clear kb
    go_enter Tryz.func109, Tryz.ntmps109
    go_wp2_with fail
    go_ret
    exact ⟨rfl, HB.out⟩
  go_enter Tryz.func104, Tryz.ntmps104
  go_wp2_with (go_at_call 109; refine (C.out _).mono ?_; rintro e w1 ⟨rfl, h⟩)
  go_ret
  exact ⟨rfl, h⟩
end Go.Proofs.YtpdfpbbamnhkfaaGreatDoor
namespace Go.Proofs.YtpdfpbbamnhkfaaGreatDoor
open Go.RowKit Go.Deep
set_option linter.unusedVariables false
set_option linter.unusedSimpArgs false
theorem wiB_f1 {lo hi x : Int} (h : x < lo ∨ hi < x) : wiB lo hi [x] = false := by
  rw [wiB_one]
  rcases h with h | h
  · rw [show decide (lo ≤ x) = false by simp; omega]; rfl
  · rw [show decide (x ≤ hi) = false by simp; omega, Bool.and_false]
theorem wiB_t1 {lo hi x : Int} (h : lo ≤ x) (h2 : x ≤ hi) : wiB lo hi [x] = true := by
  rw [wiB_one, show decide (lo ≤ x) = true by simp; omega, show decide (x ≤ hi) = true by simp; omega]; rfl
theorem wiB_c (lo hi x : Int) (r : List Int) : wiB lo hi (x :: r) = (wiB lo hi [x] && wiB lo hi r) := by
  simp [wiB]
set_option maxRecDepth 8000 in
set_option maxHeartbeats 8000000 in
theorem rgood_any (m : Mt) (aa ab : Option Addr) (na ca nb cb : Nat) (w : World) (hM : MIn w m aa na ab nb) (hma : na ≤ 1000000) (hmb : nb ≤ 1000000) :
    Calls Tryz.prog 26 #[.agg (mcs m (.slice aa na ca) (.slice ab nb cb))] w fun e w' => e = .returned (.bool (goodB m)) ∧ Below w.heap.size w w' := by
  have CSH := hide short_any
  obtain ⟨up, sc, de, ga, b0, b1, b2, b3, lg, ad, be⟩ := m
  have HB := hide ((Below.refl w.heap.size w).alloc (Nat.le_refl _) (.cells #[.int .i64 up, .int .i64 sc, .int .i64 de, .int .i64 ga, .int .i64 b0, .int .i64 b1, .int .i64 b2, .int .i64 b3, .bool lg, .slice aa na ca, .slice ab nb cb] 25))
  have KV := hide (Blk.new w #[.int .i64 up, .int .i64 sc, .int .i64 de, .int .i64 ga, .int .i64 b0, .int .i64 b1, .int .i64 b2, .int .i64 b3, .bool lg, .slice aa na ca, .slice ab nb cb] 25)
  have HG : Hid (goodB ⟨up, sc, de, ga, b0, b1, b2, b3, lg, ad, be⟩ = (wiB 16 16384 [up] && ((wiB (-32768) 32767 [sc] && (wiB (-32768) 32767 [de] && wiB (-32768) 32767 [ga])) && ((wiB (-32768) 32767 [b0] && (wiB (-32768) 32767 [b1] && (wiB (-32768) 32767 [b2] && wiB (-32768) 32767 [b3]))) && (wiB 1 4096 [(na : Int)] && (((nb : Int) == (na : Int)) && (wiB 0 65535 ad && wiB (-32768) 32767 be))))))) := hide (by
    have h1 := hM.hna
    have h2 := hM.hnb
    simp only at h1 h2
    unfold goodB
    simp only [h1, h2]
    rw [wiB_c _ _ sc, wiB_c _ _ de, wiB_c _ _ b0, wiB_c _ _ b1, wiB_c _ _ b2])
  have HM := hide hM
  have hma' : (na : Int) ≤ 1000000 := by omega
  have hmb' : (nb : Int) ≤ 1000000 := by omega
  clear hM hma hmb
  simp only [mcs] at ⊢
  generalize goodB ⟨up, sc, de, ga, b0, b1, b2, b3, lg, ad, be⟩ = GB at HG ⊢
  by_cases u1 : up < 16
  · have f := wiB_f1 (lo := 16) (hi := 16384) (x := up) (Or.inl u1)
    rw [f] at HG
    have e0 := HG.out
    simp only [Bool.false_and, Bool.and_false, Bool.true_and] at e0
    subst e0
    clear HG
    go_enter Tryz.func26, Tryz.ntmps26
    go_wp2_with (go_at_call 62; refine (CSH.out _ _).mono ?_; rintro e w1 ⟨rfl, rfl⟩)
    go_ret
    exact ⟨rfl, HB.out⟩
  by_cases u2 : 16384 < up
  · have f := wiB_f1 (lo := 16) (hi := 16384) (x := up) (Or.inr u2)
    rw [f] at HG
    have e0 := HG.out
    simp only [Bool.false_and, Bool.and_false, Bool.true_and] at e0
    subst e0
    clear HG
    go_enter Tryz.func26, Tryz.ntmps26
    go_wp2_with (go_at_call 62; refine (CSH.out _ _).mono ?_; rintro e w1 ⟨rfl, rfl⟩)
    go_ret
    exact ⟨rfl, HB.out⟩
  have t1 := wiB_t1 (lo := 16) (hi := 16384) (x := up) (by omega) (by omega)
  rw [t1] at HG
  clear t1
  cases qsc : wiB (-32768) 32767 [sc]
  · rw [qsc] at HG
    have e0 := HG.out
    simp only [Bool.false_and, Bool.and_false, Bool.true_and] at e0
    subst e0
    clear HG
    go_enter Tryz.func26, Tryz.ntmps26
    go_wp2_with (go_at_call 62; refine (CSH.out _ _).mono ?_; rintro e w1 ⟨rfl, rfl⟩)
    go_ret
    exact ⟨rfl, HB.out⟩
  rw [qsc] at HG
  cases qde : wiB (-32768) 32767 [de]
  · rw [qde] at HG
    have e0 := HG.out
    simp only [Bool.false_and, Bool.and_false, Bool.true_and] at e0
    subst e0
    clear HG
    go_enter Tryz.func26, Tryz.ntmps26
    go_wp2_with (go_at_call 62; refine (CSH.out _ _).mono ?_; rintro e w1 ⟨rfl, rfl⟩)
    go_ret
    exact ⟨rfl, HB.out⟩
  rw [qde] at HG
  cases qga : wiB (-32768) 32767 [ga]
  · rw [qga] at HG
    have e0 := HG.out
    simp only [Bool.false_and, Bool.and_false, Bool.true_and] at e0
    subst e0
    clear HG
    go_enter Tryz.func26, Tryz.ntmps26
    go_wp2_with (go_at_call 62; refine (CSH.out _ _).mono ?_; rintro e w1 ⟨rfl, rfl⟩)
    go_ret
    exact ⟨rfl, HB.out⟩
  rw [qga] at HG
  by_cases n1 : na < 1
  · have n1' : (na : Int) < 1 := by omega
    have f := wiB_f1 (lo := 1) (hi := 4096) (x := (na : Int)) (Or.inl n1')
    rw [f] at HG
    have e0 := HG.out
    simp only [Bool.false_and, Bool.and_false, Bool.true_and] at e0
    subst e0
    clear HG
    go_enter Tryz.func26, Tryz.ntmps26
    go_wp2_with (go_at_call 62; refine (CSH.out _ _).mono ?_; rintro e w1 ⟨rfl, rfl⟩)
    go_ret
    exact ⟨rfl, HB.out⟩
  have n1' : ¬ (na : Int) < 1 := by omega
  by_cases n2 : 4096 < na
  · have n2' : (4096 : Int) < (na : Int) := by omega
    have f := wiB_f1 (lo := 1) (hi := 4096) (x := (na : Int)) (Or.inr n2')
    rw [f] at HG
    clear n2
    have e0 := HG.out
    simp only [Bool.false_and, Bool.and_false, Bool.true_and] at e0
    subst e0
    clear HG
    go_enter Tryz.func26, Tryz.ntmps26
    go_wp2_with (go_at_call 62; refine (CSH.out _ _).mono ?_; rintro e w1 ⟨rfl, rfl⟩)
    go_ret
    exact ⟨rfl, HB.out⟩
  have n2' : ¬ (4096 : Int) < (na : Int) := by omega
  have t1 := wiB_t1 (lo := 1) (hi := 4096) (x := (na : Int)) (by omega) (by omega)
  rw [t1] at HG
  have HN := hide (And.intro n1 n2)
  clear t1 n1 n2
  by_cases n3 : nb = na
  case neg =>
    have n3' : ((nb : Int) == (na : Int)) = false := by simp; omega
    have n3b : (nb == na) = false := by simp [n3]
    have n3c : ¬ (nb : Int) = (na : Int) := by omega
    have n3d : ((nb : Int) != (na : Int)) = true := by simp; omega
    have n3e : (nb != na) = true := by simp [n3]
    rw [n3'] at HG
    have e0 := HG.out
    simp only [Bool.false_and, Bool.and_false, Bool.true_and] at e0
    subst e0
    clear HG
    go_enter Tryz.func26, Tryz.ntmps26
    go_wp2_with (go_at_call 62; refine (CSH.out _ _).mono ?_; rintro e w1 ⟨rfl, rfl⟩)
    go_ret
    exact ⟨rfl, HB.out⟩
  subst n3
  rw [show ((nb : Int) == (nb : Int)) = true by simp] at HG
  go_enter Tryz.func26, Tryz.ntmps26
  go_wp2_with (go_at_call 62; refine (CSH.out _ _).mono ?_; rintro e w1 ⟨rfl, rfl⟩)
  generalize w.alloc (.cells #[.int .i64 up, .int .i64 sc, .int .i64 de, .int .i64 ga, .int .i64 b0, .int .i64 b1, .int .i64 b2, .int .i64 b3, .bool lg, .slice aa nb ca, .slice ab nb cb] 25) = V at HB KV ⊢
  obtain ⟨x, hx⟩ : ∃ x, w.heap.size = x := ⟨_, rfl⟩
  have KV2 : Hid (Blk V x #[.int .i64 up, .int .i64 sc, .int .i64 de, .int .i64 ga, .int .i64 b0, .int .i64 b1, .int .i64 b2, .int .i64 b3, .bool lg, .slice aa nb ca, .slice ab nb cb] 25) := hx ▸ KV
  rw [hx]
  have KC := hide (fun (u : World) (hu : Below V.heap.size V u) => KV2.out.below hu)
  have HV := hide (Below.refl V.heap.size V)
  have kk := KC.out _ HV.out
  clear KV KV2 hx
  have c0 := kk.cell 0
  have c1 := kk.cell 1
  have c2 := kk.cell 2
  have c3 := kk.cell 3
  have c4 := kk.cell 4
  have c5 := kk.cell 5
  have c6 := kk.cell 6
  have c7 := kk.cell 7
  have c8 := kk.cell 8
  have c9 := kk.cell 9
  have c10 := kk.cell 10
  simp at c0 c1 c2 c3 c4 c5 c6 c7 c8 c9 c10
  have xlt := kk.lt
  clear kk
  clear KC HV
  refine wp_loop_rounds 5 ?_
  rw [rounds_succ]
  go_wp2_with fail
  refine (CSH.out _ _).mono ?_
  rintro e w1 ⟨rfl, hw⟩
  replace hw := hw.symm
  subst hw
  cases qb0 : wiB (-32768) 32767 [b0]
  · rw [qb0] at HG
    have e0 := HG.out
    simp only [Bool.false_and, Bool.and_false, Bool.true_and] at e0
    subst e0
    clear HG
    go_wp2_with fail
    go_ret
    exact ⟨rfl, HB.out⟩
  rw [qb0] at HG
  go_wp2_with fail
  rw [rounds_succ]
  go_wp2_with fail
  refine (CSH.out _ _).mono ?_
  rintro e w1 ⟨rfl, hw⟩
  replace hw := hw.symm
  subst hw
  cases qb1 : wiB (-32768) 32767 [b1]
  · rw [qb1] at HG
    have e0 := HG.out
    simp only [Bool.false_and, Bool.and_false, Bool.true_and] at e0
    subst e0
    clear HG
    go_wp2_with fail
    go_ret
    exact ⟨rfl, HB.out⟩
  rw [qb1] at HG
  go_wp2_with fail
  rw [rounds_succ]
  go_wp2_with fail
  refine (CSH.out _ _).mono ?_
  rintro e w1 ⟨rfl, hw⟩
  replace hw := hw.symm
  subst hw
  cases qb2 : wiB (-32768) 32767 [b2]
  · rw [qb2] at HG
    have e0 := HG.out
    simp only [Bool.false_and, Bool.and_false, Bool.true_and] at e0
    subst e0
    clear HG
    go_wp2_with fail
    go_ret
    exact ⟨rfl, HB.out⟩
  rw [qb2] at HG
  go_wp2_with fail
  rw [rounds_succ]
  go_wp2_with fail
  refine (CSH.out _ _).mono ?_
  rintro e w1 ⟨rfl, hw⟩
  replace hw := hw.symm
  subst hw
  cases qb3 : wiB (-32768) 32767 [b3]
  · rw [qb3] at HG
    have e0 := HG.out
    simp only [Bool.false_and, Bool.and_false, Bool.true_and] at e0
    subst e0
    clear HG
    go_wp2_with fail
    go_ret
    exact ⟨rfl, HB.out⟩
  rw [qb3] at HG
  go_wp2_with fail
  rw [rounds_succ]
  go_wp2_with fail
  go_loop [5] (fun vi => ∃ (i : Nat), vi = .int .i64 i ∧ Hid (i ≤ nb ∧ ∀ j, j < i → (0 ≤ ad.getD j 0 ∧ ad.getD j 0 ≤ 65535) ∧ (-32768 ≤ be.getD j 0 ∧ be.getD j 0 ≤ 32767))) (fun vi => nb - (intOf vi).toNat)
  case atStart => exact ⟨0, rfl, hide ⟨by omega, fun j hj => by omega⟩⟩
  case round =>
    obtain ⟨i, rfl, HI⟩ := hrel
    obtain ⟨hi, hj⟩ := HI.out
    have HJ := hide hj
    have hi0 : (0 : Int) ≤ (i : Int) := by omega
    clear HI hj
    by_cases hlt : i < nb
    case neg =>
      have hlt' : ¬ (i : Int) < (nb : Int) := by omega
      have e1 : wiB 0 65535 ad = true := wiB_of fun j hj => (HJ.out j (by have h := HM.out.hna; simp only at h; omega)).1
      have e2 : wiB (-32768) 32767 be = true := wiB_of fun j hj => (HJ.out j (by have h := HM.out.hnb; simp only at h; omega)).2
      rw [e1, e2] at HG
      have e0 := HG.out
      simp only [Bool.false_and, Bool.and_false, Bool.true_and] at e0
      subst e0
      clear HG e1 e2 HJ
      go_wp2_with fail
      go_ret
      exact ⟨rfl, HB.out⟩
    have hlt' : (i : Int) < (nb : Int) := by omega
    have hl1 := HM.out.hna
    have hl2 := HM.out.hnb
    simp only at hl1 hl2
    rcases HM.out.la.below HB.out with hz | ⟨p, po, rfl, hp, hcp⟩
    · simp only at hz; rw [hz] at hl1; simp at hl1; omega
    rcases HM.out.lb.below HB.out with hz | ⟨q, qo, rfl, hq, hcq⟩
    · simp only at hz; rw [hz] at hl2; simp at hl2; omega
    have a1 := hcp i (by simp only; omega)
    have a2 := hcq i (by simp only; omega)
    simp only at a1 a2
    have NA := hide (fun h => wiB_not (lo := 0) (hi := 65535) (zs := ad) (k := i) (by omega) h)
    have NB := hide (fun h => wiB_not (lo := -32768) (hi := 32767) (zs := be) (k := i) (by omega) h)
    have NX : Hid (∀ y z, y = ad.getD i 0 → z = be.getD i 0 → (0 ≤ y ∧ y ≤ 65535) → (-32768 ≤ z ∧ z ≤ 32767) → ∀ j, j < i + 1 → (0 ≤ ad.getD j 0 ∧ ad.getD j 0 ≤ 65535) ∧ (-32768 ≤ be.getD j 0 ∧ be.getD j 0 ≤ 32767)) := hide fun y z hy hz h1 h2 j hj => by
      rcases Nat.lt_or_ge j i with h' | h'
      · exact HJ.out j h'
      · obtain rfl : j = i := by omega
        rw [← hy, ← hz]; exact ⟨h1, h2⟩
    generalize ad.getD i 0 = y at a1 NA NX
    generalize be.getD i 0 = z at a2 NB NX
    clear hcp hcq hl1 hl2 HJ
    by_cases y1 : y < 0
    · rw [NA.out (by omega)] at HG
      have e0 := HG.out
      simp only [Bool.false_and, Bool.and_false, Bool.true_and] at e0
      subst e0
      clear HG
      go_wp2_with fail
      go_ret
      exact ⟨rfl, HB.out⟩
    by_cases y2 : 65535 < y
    · rw [NA.out (by omega)] at HG
      have e0 := HG.out
      simp only [Bool.false_and, Bool.and_false, Bool.true_and] at e0
      subst e0
      clear HG
      go_wp2_with fail
      go_ret
      exact ⟨rfl, HB.out⟩
    cases z1 : wiB (-32768) 32767 [z]
    · rw [NB.out (by rw [wiB_one] at z1; simp at z1; omega)] at HG
      have e0 := HG.out
      simp only [Bool.false_and, Bool.and_false, Bool.true_and] at e0
      subst e0
      clear HG
      go_wp2_with fail
      refine (CSH.out _ _).mono ?_
      rintro e w1 ⟨rfl, rfl⟩
      go_wp2_with fail
      go_ret
      exact ⟨rfl, HB.out⟩
    · have z2 : -32768 ≤ z ∧ z ≤ 32767 := by rw [wiB_one] at z1; simpa using z1
      go_wp2_with fail
      refine (CSH.out _ _).mono ?_
      rintro e w1 ⟨rfl, hw⟩
      replace hw := hw.symm
      subst hw
      go_wp2_with fail
      go_round
      case rel => exact ⟨i + 1, by go_num, hide ⟨by omega, NX.out y z rfl rfl (by omega) z2⟩⟩
      case measure => simp [intOf]; omega
end Go.Proofs.YtpdfpbbamnhkfaaGreatDoor
namespace Go.Proofs.YtpdfpbbamnhkfaaGreatDoor
open Go.RowKit Go.Deep
set_option linter.unusedVariables false
theorem cat9 (a b : ByteArray) (n m : Nat) (ha : a.size = n) (hb : b.size = m) (h : n + m ≤ 100000) : ∃ P : ByteArray, (∀ w, (Op.stringOp .add a b).run Tryz.prog w = .ok (.string P) w) ∧ P.data.toList = a.data.toList ++ b.data.toList ∧ P.size = n + m :=
  ⟨a ++ b, fun w => run_string_add_sum w a b (by omega), by rw [ByteArray.data_append, Array.toList_append], by rw [ByteArray.size_append, ha, hb]⟩
theorem zr_let (n : Nat) (hn : n ≤ 1000) : ∃ Z : ByteArray, (∀ w, Calls Tryz.prog 103 #[.int .i64 (n : Int)] w fun e w' => e = .returned (.string Z) ∧ Below w.heap.size w w') ∧ Z.data.toList = zers n ∧ Z.size = n :=
  ⟨⟨(zers n).toArray⟩, fun w => zeros_any n n w rfl hn, rfl, by simp [ByteArray.size, zers]⟩
theorem tw_let (x : Int) (h0 : -4611686018427387904 ≤ x) (h1 : x ≤ 4611686018427387904) : ∃ T : ByteArray, (∀ w, Calls Tryz.prog 104 #[.int .i64 x] w fun e w' => e = .returned (.string T) ∧ Below w.heap.size w w') ∧ T.data.toList = [hiB x, loB x] ∧ T.size = 2 :=
  ⟨⟨#[hiB x, loB x]⟩, fun w => two_any x w h0 h1, rfl, rfl⟩
theorem bs_eq {P : ByteArray} {l : List UInt8} (h : P.data.toList = l) : P = ⟨l.toArray⟩ := by
  cases P with | mk d => cases d with | mk t => simp at h; rw [h]
theorem max0 {ad : List Int} (h : ∀ y ∈ ad, 0 ≤ y) (hn : 1 ≤ ad.length) : ad.foldl max 0 = maxV ad := by
  cases ad with
  | nil => simp at hn
  | cons x r =>
    have := h x (by simp)
    show r.foldl max (max 0 x) = r.foldl max x
    rw [show max 0 x = x by omega]
theorem flat_succ (ad be : List Int) (k : Nat) : flatB (ilv ad be (k + 1)) = (flatB (ilv ad be k) ++ [hiB (ad.getD k 0), loB (ad.getD k 0)]) ++ [hiB (be.getD k 0), loB (be.getD k 0)] := by
  rw [ilv_succ]
  unfold flatB
  rw [List.flatMap_append]
  simp
theorem fold_succ (ad : List Int) (k : Nat) (h : k < ad.length) : (ad.take (k + 1)).foldl max 0 = max ((ad.take k).foldl max 0) (ad.getD k 0) := by
  rw [List.take_succ_eq_append_getElem h, List.foldl_append, List.getD_eq_getElem?_getD, List.getElem?_eq_getElem h]
  rfl
abbrev ver8 : ByteArray := ⟨#[0, 1, 0, 0, 0, 1, 0, 0]⟩
end Go.Proofs.YtpdfpbbamnhkfaaGreatDoor
namespace Go.Proofs.YtpdfpbbamnhkfaaGreatDoor
open Go.RowKit Go.Deep
set_option linter.unusedVariables false
set_option maxRecDepth 8000 in
set_option maxHeartbeats 8000000 in
theorem rbld_t (m : Mt) (aa ab : Option Addr) (na ca cb : Nat) (w : World) (hM : MIn w m aa na ab na) (hg : goodB m = true) (hlg : m.lg = true) :
    Calls Tryz.prog 51 #[.agg (mcs m (.slice aa na ca) (.slice ab na cb))] w fun e w' => ∃ g, e = .returned (.tuple #[.slice (some ⟨g, 0, none⟩) 4 4, .int .i64 0]) ∧ Blk w' g (tabC m na) 94 ∧ w.heap.size ≤ g ∧ Below w.heap.size w w' := by
  obtain ⟨g1, g2, g3, g4, g5, g6, g7⟩ := good_in hg
  have hna := hM.hna
  have hna1 : na ≤ 4096 := by omega
  have CG := hide (fun (v : World) (h : Below w.heap.size w v) => rgood_any m aa ab na ca na cb v ⟨hM.up, hM.hna, hM.hnb, hM.ma, hM.mb, hM.la.below h, hM.lb.below h, hM.xa, hM.xb⟩ (by omega) (by omega))
  rw [hg] at CG
  have s1 := g2 m.sc (by simp)
  have s2 := g2 m.de (by simp)
  have s3 := g2 m.ga (by simp)
  have s4 := g3 m.b0 (by simp)
  have s5 := g3 m.b1 (by simp)
  have s6 := g3 m.b2 (by simp)
  have s7 := g3 m.b3 (by simp)
  have s8 := max_in g6 (by omega)
  have HTC := hide (show tabC m na = #[.string headS, .string ⟨(hdT m).toArray⟩, .string hheaS, .string ⟨(hhT m na).toArray⟩, .string hmtxS, .string ⟨(hmT m.ad m.be na).toArray⟩, .string maxpS, .string ⟨(mxT na).toArray⟩] from rfl)
  have hD1 := hdT_eq m
  have hD2 := hhT_eq m na
  have hD4 := mxT_eq na
  have hD3 := hmT_eq m.ad m.be na
  rw [hlg] at hD1
  generalize hdT m = D1 at HTC hD1
  generalize hhT m na = D2 at HTC hD2
  generalize hmT m.ad m.be na = D3 at HTC hD3
  generalize mxT na = D4 at HTC hD4
  generalize tabC m na = TC at HTC ⊢
  obtain ⟨up, sc, de, ga, b0, b1, b2, b3, lg, ad, be⟩ := m
  simp only at g1 g4 g5 g6 g7 s1 s2 s3 s4 s5 s6 s7 s8 hD1 hD2 hD3 hna hlg
  subst hlg
  obtain ⟨M, hMx⟩ : ∃ M, maxV ad = M := ⟨_, rfl⟩
  rw [hMx] at s8 hD2
  obtain ⟨Z4, cZ4, lZ4, yZ4⟩ := zr_let 4 (by omega)
  obtain ⟨Z2, cZ2, lZ2, yZ2⟩ := zr_let 2 (by omega)
  obtain ⟨Z16, cZ16, lZ16, yZ16⟩ := zr_let 16 (by omega)
  obtain ⟨Z22, cZ22, lZ22, yZ22⟩ := zr_let 22 (by omega)
  obtain ⟨Z8, cZ8, lZ8, yZ8⟩ := zr_let 8 (by omega)
  obtain ⟨TU, cTU, lTU, yTU⟩ := tw_let up (by omega) (by omega)
  obtain ⟨T0, cT0, lT0, yT0⟩ := tw_let b0 (by omega) (by omega)
  obtain ⟨T1, cT1, lT1, yT1⟩ := tw_let b1 (by omega) (by omega)
  obtain ⟨T2, cT2, lT2, yT2⟩ := tw_let b2 (by omega) (by omega)
  obtain ⟨T3, cT3, lT3, yT3⟩ := tw_let b3 (by omega) (by omega)
  obtain ⟨TW, cTW, lTW, yTW⟩ := tw_let 2 (by omega) (by omega)
  obtain ⟨TL, cTL, lTL, yTL⟩ := tw_let 1 (by omega) (by omega)
  obtain ⟨TS, cTS, lTS, yTS⟩ := tw_let sc (by omega) (by omega)
  obtain ⟨TD, cTD, lTD, yTD⟩ := tw_let de (by omega) (by omega)
  obtain ⟨TG, cTG, lTG, yTG⟩ := tw_let ga (by omega) (by omega)
  obtain ⟨TM, cTM, lTM, yTM⟩ := tw_let M (by omega) (by omega)
  obtain ⟨TN, cTN, lTN, yTN⟩ := tw_let (na : Int) (by omega) (by omega)
  have CZ4 := hide cZ4
  have CZ2 := hide cZ2
  have CZ16 := hide cZ16
  have CZ22 := hide cZ22
  have CZ8 := hide cZ8
  have CTU := hide cTU
  have CT0 := hide cT0
  have CT1 := hide cT1
  have CT2 := hide cT2
  have CT3 := hide cT3
  have CTW := hide cTW
  have CTL := hide cTL
  have CTS := hide cTS
  have CTD := hide cTD
  have CTG := hide cTG
  have CTM := hide cTM
  have CTN := hide cTN
  obtain ⟨P1, rP1, eP1, zP1⟩ := cat9 ver8 Z4 8 4 (by first | decide | assumption) (by first | decide | assumption) (by omega)
  obtain ⟨P2, rP2, eP2, zP2⟩ := cat9 P1 magicS 12 4 (by first | decide | assumption) (by first | decide | assumption) (by omega)
  obtain ⟨P3, rP3, eP3, zP3⟩ := cat9 P2 Z2 16 2 (by first | decide | assumption) (by first | decide | assumption) (by omega)
  obtain ⟨P4, rP4, eP4, zP4⟩ := cat9 P3 TU 18 2 (by first | decide | assumption) (by first | decide | assumption) (by omega)
  obtain ⟨P5, rP5, eP5, zP5⟩ := cat9 P4 Z16 20 16 (by first | decide | assumption) (by first | decide | assumption) (by omega)
  obtain ⟨P6, rP6, eP6, zP6⟩ := cat9 P5 T0 36 2 (by first | decide | assumption) (by first | decide | assumption) (by omega)
  obtain ⟨P7, rP7, eP7, zP7⟩ := cat9 P6 T1 38 2 (by first | decide | assumption) (by first | decide | assumption) (by omega)
  obtain ⟨P8, rP8, eP8, zP8⟩ := cat9 P7 T2 40 2 (by first | decide | assumption) (by first | decide | assumption) (by omega)
  obtain ⟨P9, rP9, eP9, zP9⟩ := cat9 P8 T3 42 2 (by first | decide | assumption) (by first | decide | assumption) (by omega)
  obtain ⟨P10, rP10, eP10, zP10⟩ := cat9 P9 Z4 44 4 (by first | decide | assumption) (by first | decide | assumption) (by omega)
  obtain ⟨P11, rP11, eP11, zP11⟩ := cat9 P10 TW 48 2 (by first | decide | assumption) (by first | decide | assumption) (by omega)
  obtain ⟨P12, rP12, eP12, zP12⟩ := cat9 P11 TL 50 2 (by first | decide | assumption) (by first | decide | assumption) (by omega)
  obtain ⟨P13, rP13, eP13, zP13⟩ := cat9 P12 Z2 52 2 (by first | decide | assumption) (by first | decide | assumption) (by omega)
  obtain ⟨Q1, rQ1, eQ1, zQ1⟩ := cat9 verS TS 4 2 (by first | decide | assumption) (by first | decide | assumption) (by omega)
  obtain ⟨Q2, rQ2, eQ2, zQ2⟩ := cat9 Q1 TD 6 2 (by first | decide | assumption) (by first | decide | assumption) (by omega)
  obtain ⟨Q3, rQ3, eQ3, zQ3⟩ := cat9 Q2 TG 8 2 (by first | decide | assumption) (by first | decide | assumption) (by omega)
  obtain ⟨Q4, rQ4, eQ4, zQ4⟩ := cat9 Q3 TM 10 2 (by first | decide | assumption) (by first | decide | assumption) (by omega)
  obtain ⟨Q5, rQ5, eQ5, zQ5⟩ := cat9 Q4 Z22 12 22 (by first | decide | assumption) (by first | decide | assumption) (by omega)
  obtain ⟨Q6, rQ6, eQ6, zQ6⟩ := cat9 Q5 TN 34 2 (by first | decide | assumption) (by first | decide | assumption) (by omega)
  obtain ⟨R1, rR1, eR1, zR1⟩ := cat9 verS TN 4 2 (by first | decide | assumption) (by first | decide | assumption) (by omega)
  obtain ⟨R2, rR2, eR2, zR2⟩ := cat9 R1 Z8 6 8 (by first | decide | assumption) (by first | decide | assumption) (by omega)
  obtain ⟨R3, rR3, eR3, zR3⟩ := cat9 R2 TW 14 2 (by first | decide | assumption) (by first | decide | assumption) (by omega)
  obtain ⟨R4, rR4, eR4, zR4⟩ := cat9 R3 Z16 16 16 (by first | decide | assumption) (by first | decide | assumption) (by omega)
  have E1 : Hid (P13 = ⟨D1.toArray⟩) := hide (bs_eq (by rw [eP13, eP12, eP11, eP10, eP9, eP8, eP7, eP6, eP5, eP4, eP3, eP2, eP1, lZ4, lZ2, lTU, lZ16, lT0, lT1, lT2, lT3, lTW, lTL, hD1]; rfl))
  have E2 : Hid (Q6 = ⟨D2.toArray⟩) := hide (bs_eq (by rw [eQ6, eQ5, eQ4, eQ3, eQ2, eQ1, lTS, lTD, lTG, lTM, lZ22, lTN, hD2]; rfl))
  have E4 : Hid (R4 = ⟨D4.toArray⟩) := hide (bs_eq (by rw [eR4, eR3, eR2, eR1, lTN, lZ8, lTW, lZ16, hD4]; rfl))
  have HD3 := hide hD3
  have LT := hide two_any
  clear eP1 zP1 eP2 zP2 eP3 zP3 eP4 zP4 eP5 zP5 eP6 zP6 eP7 zP7 eP8 zP8 eP9 zP9 eP10 zP10 eP11 zP11 eP12 zP12 eP13 zP13 eQ1 zQ1 eQ2 zQ2 eQ3 zQ3 eQ4 zQ4 eQ5 zQ5 eQ6 zQ6 eR1 zR1 eR2 zR2 eR3 zR3 eR4 zR4 cZ4 lZ4 yZ4 cZ2 lZ2 yZ2 cZ16 lZ16 yZ16 cZ22 lZ22 yZ22 cZ8 lZ8 yZ8 cTU lTU yTU cT0 lT0 yT0 cT1 lT1 yT1 cT2 lT2 yT2 cT3 lT3 yT3 cTW lTW yTW cTL lTL yTL cTS lTS yTS cTD lTD yTD cTG lTG yTG cTM lTM yTM cTN lTN yTN hD1 hD2 hD3 hD4
  have HMM := hide hMx
  have HX := hide (And.intro g6 (And.intro g7 (And.intro g4 g5)))
  have HM := hide hM
  have hn5 : (na : Int) ≤ 5000 := by omega
  have HB := hide ((Below.refl w.heap.size w).alloc (Nat.le_refl _) (.cells #[.int .i64 up, .int .i64 sc, .int .i64 de, .int .i64 ga, .int .i64 b0, .int .i64 b1, .int .i64 b2, .int .i64 b3, .bool true, .slice aa na ca, .slice ab na cb] 25))
  have KV := hide (Blk.new w #[.int .i64 up, .int .i64 sc, .int .i64 de, .int .i64 ga, .int .i64 b0, .int .i64 b1, .int .i64 b2, .int .i64 b3, .bool true, .slice aa na ca, .slice ab na cb] 25)
  clear hg hMx g1 g2 g3 g4 g5 g6 g7 s1 s2 s3 s4 s5 s6 s7 s8 hM hna hna1
  simp only [mcs] at CG HX HM ⊢
  go_enter Tryz.func51, Tryz.ntmps51
  go_wp2_with fail
  generalize w.alloc (.cells #[.int .i64 up, .int .i64 sc, .int .i64 de, .int .i64 ga, .int .i64 b0, .int .i64 b1, .int .i64 b2, .int .i64 b3, .bool true, .slice aa na ca, .slice ab na cb] 25) = V at HB KV ⊢
  obtain ⟨x, hx⟩ : ∃ x, w.heap.size = x := ⟨_, rfl⟩
  have KV2 : Hid (Blk V x #[.int .i64 up, .int .i64 sc, .int .i64 de, .int .i64 ga, .int .i64 b0, .int .i64 b1, .int .i64 b2, .int .i64 b3, .bool true, .slice aa na ca, .slice ab na cb] 25) := hx ▸ KV
  rw [hx]
  have KC := hide (fun (u : World) (hu : Below V.heap.size V u) => KV2.out.below hu)
  have HV := hide (Below.refl V.heap.size V)
  clear KV KV2 hx
  refine (CG.out _ HB.out).mono ?_
  rintro e w1 ⟨rfl, hb⟩
  replace HV := hide (below_t5 HV.out hb)
  have kk := KC.out _ HV.out
  have c8 := kk.cell 8
  have xlt := kk.lt
  simp at c8
  have KSS := hide (show ∀ z, Below V.heap.size V z → (fun z : World => z.cell? ⟨x, 0, none⟩ = some (.int .i64 up) ∧ z.cell? ⟨x, 1, none⟩ = some (.int .i64 sc) ∧ z.cell? ⟨x, 2, none⟩ = some (.int .i64 de) ∧ z.cell? ⟨x, 3, none⟩ = some (.int .i64 ga) ∧ z.cell? ⟨x, 4, none⟩ = some (.int .i64 b0) ∧ z.cell? ⟨x, 5, none⟩ = some (.int .i64 b1) ∧ z.cell? ⟨x, 6, none⟩ = some (.int .i64 b2) ∧ z.cell? ⟨x, 7, none⟩ = some (.int .i64 b3) ∧ z.cell? ⟨x, 9, none⟩ = some (.slice aa na ca)) z from fun z hz => by
    have k0 := KC.out z hz
    exact ⟨k0.cell 0, k0.cell 1, k0.cell 2, k0.cell 3, k0.cell 4, k0.cell 5, k0.cell 6, k0.cell 7, k0.cell 9⟩)
  clear hb kk CG
  have HW := hide (Below.refl w1.heap.size w1)
  go_wp2_with fail
  go_region_held3 (fun z => z.cell? ⟨x, 0, none⟩ = some (.int .i64 up) ∧ z.cell? ⟨x, 1, none⟩ = some (.int .i64 sc) ∧ z.cell? ⟨x, 2, none⟩ = some (.int .i64 de) ∧ z.cell? ⟨x, 3, none⟩ = some (.int .i64 ga) ∧ z.cell? ⟨x, 4, none⟩ = some (.int .i64 b0) ∧ z.cell? ⟨x, 5, none⟩ = some (.int .i64 b1) ∧ z.cell? ⟨x, 6, none⟩ = some (.int .i64 b2) ∧ z.cell? ⟨x, 7, none⟩ = some (.int .i64 b3) ∧ z.cell? ⟨x, 9, none⟩ = some (.slice aa na ca)) (first | exact KSS.out _ (below_d HV.out (Below.refl _ _) rfl rfl rfl rfl)) ((first | (go_at_call 103; refine (CZ4.out _).mono ?_; rintro e w1 ⟨rfl, hb⟩; replace HV := hide (below_d HV.out hb rfl rfl rfl rfl); replace HW := hide (below_d HW.out hb rfl rfl rfl rfl); clear hb) | (go_at_call 103; refine (CZ2.out _).mono ?_; rintro e w1 ⟨rfl, hb⟩; replace HV := hide (below_d HV.out hb rfl rfl rfl rfl); replace HW := hide (below_d HW.out hb rfl rfl rfl rfl); clear hb) | (go_at_call 103; refine (CZ16.out _).mono ?_; rintro e w1 ⟨rfl, hb⟩; replace HV := hide (below_d HV.out hb rfl rfl rfl rfl); replace HW := hide (below_d HW.out hb rfl rfl rfl rfl); clear hb) | (go_at_call 104; refine (CTU.out _).mono ?_; rintro e w1 ⟨rfl, hb⟩; replace HV := hide (below_d HV.out hb rfl rfl rfl rfl); replace HW := hide (below_d HW.out hb rfl rfl rfl rfl); clear hb) | (go_at_call 104; refine (CT0.out _).mono ?_; rintro e w1 ⟨rfl, hb⟩; replace HV := hide (below_d HV.out hb rfl rfl rfl rfl); replace HW := hide (below_d HW.out hb rfl rfl rfl rfl); clear hb) | (go_at_call 104; refine (CT1.out _).mono ?_; rintro e w1 ⟨rfl, hb⟩; replace HV := hide (below_d HV.out hb rfl rfl rfl rfl); replace HW := hide (below_d HW.out hb rfl rfl rfl rfl); clear hb) | (go_at_call 104; refine (CT2.out _).mono ?_; rintro e w1 ⟨rfl, hb⟩; replace HV := hide (below_d HV.out hb rfl rfl rfl rfl); replace HW := hide (below_d HW.out hb rfl rfl rfl rfl); clear hb) | (go_at_call 104; refine (CT3.out _).mono ?_; rintro e w1 ⟨rfl, hb⟩; replace HV := hide (below_d HV.out hb rfl rfl rfl rfl); replace HW := hide (below_d HW.out hb rfl rfl rfl rfl); clear hb) | (go_at_call 104; refine (CTW.out _).mono ?_; rintro e w1 ⟨rfl, hb⟩; replace HV := hide (below_d HV.out hb rfl rfl rfl rfl); replace HW := hide (below_d HW.out hb rfl rfl rfl rfl); clear hb) | (go_at_call 104; refine (CTL.out _).mono ?_; rintro e w1 ⟨rfl, hb⟩; replace HV := hide (below_d HV.out hb rfl rfl rfl rfl); replace HW := hide (below_d HW.out hb rfl rfl rfl rfl); clear hb)))
  all_goals
    clear c8 xlt HW
    go_wp2_with fail
    go_loopw [6, 7, 8] (fun vm vb vi wr => ∃ (k : Nat) (X : Int), vi = .int .i64 k ∧ vm = .int .i64 X ∧ Hid (k ≤ na ∧ X = (ad.take k).foldl max 0 ∧ BRow wr V.heap.size vb (flatB (ilv ad be k)) ∧ Below V.heap.size V wr)) (fun _ _ vi _ => na - (intOf vi).toNat)
    case atStart => exact ⟨0, 0, rfl, rfl, hide ⟨by omega, rfl, BRow.nil _ _, HV.out⟩⟩
    case round =>
      clear HV
      obtain ⟨k, X, rfl, rfl, HVV⟩ := hrel
      obtain ⟨hk, hX, hbr, hv⟩ := HVV.out
      have hk0 : (0 : Int) ≤ (k : Int) := by omega
      have HV := hide hv
      have kk := KC.out _ hv
      have c9 := kk.cell 9
      have c10 := kk.cell 10
      have xlt := kk.lt
      simp at c9 c10
      clear HVV kk
      by_cases hlt : k < na
      case pos =>
        have hlt' : (k : Int) < (na : Int) := by omega
        have hl1 := HM.out.hna
        have hl2 := HM.out.hnb
        simp only at hl1 hl2
        have A := ad.getD k 0
        rcases HM.out.la with hz | ⟨p, po, rfl, hp, hcp⟩
        · simp only at hz; rw [hz] at hl1; simp at hl1; omega
        rcases HM.out.lb with hz | ⟨q, qo, rfl, hq, hcq⟩
        · simp only at hz; rw [hz] at hl2; simp at hl2; omega
        have hwr := below_t5 HB.out hv
        have KP := hide (fun (u : World) (hu : Below V.heap.size V u) => ((below_t5 HB.out hu).cell (p := ⟨p, po + k, none⟩) hp).trans (hcp k (by simp only; omega)))
        have KQ := hide (fun (u : World) (hu : Below V.heap.size V u) => ((below_t5 HB.out hu).cell (p := ⟨q, qo + k, none⟩) hq).trans (hcq k (by simp only; omega)))
        have hxx := HX.out.1 (ad.getD k 0) (by rw [List.getD_eq_getElem?_getD, List.getElem?_eq_getElem (by omega)]; exact List.getElem_mem _)
        have hyy := HX.out.2.1 (be.getD k 0) (by rw [List.getD_eq_getElem?_getD, List.getElem?_eq_getElem (by omega)]; exact List.getElem_mem _)
        have hbl : (flatB (ilv ad be k)).length ≤ 100000 := by rw [flatB_len, ilv_len]; omega
        have EF := hide (flat_succ ad be k)
        have EM := hide (fold_succ ad k (by omega))
        rw [← hX] at EM
        have hXb : Hid (True) := hide trivial
        simp only at KP KQ
        generalize ad.getD k 0 = Y1 at KP hxx EF EM
        generalize be.getD k 0 = Y2 at KQ hyy EF
        obtain ⟨T1, cT1, lT1, yT1⟩ := tw_let Y1 (by omega) (by omega)
        obtain ⟨T2, cT2, lT2, yT2⟩ := tw_let Y2 (by omega) (by omega)
        have a1 := KP.out _ hv
        have HBR := hide hbr
        have CT1 := hide cT1
        have CT2 := hide cT2
        clear hX hbr hv hl1 hl2 hcp hcq hwr cT1 cT2 hxx hyy A hp hq
        go_wp2_with fail
        refine (CT1.out _).mono ?_
        rintro e w2 ⟨rfl, hb⟩
        obtain ⟨v2, w3, hr, hbr3, hkb⟩ := app_s3 T1 (HBR.out.later hb) (Nat.le_trans HV.out.size hb.size) (by omega)
        have hv2 := below_t5 HV.out hb
        have hv3 := hv2.trans hkb.below
        have kk := KC.out _ hv3
        have c9 := kk.cell 9
        have c10 := kk.cell 10
        have xlt := kk.lt
        simp at c9 c10
        have a2 := KQ.out _ hv3
        have HR := hide hr
        have HBR3 := hide hbr3
        have HV3 := hide hv3
        clear kk hr hbr3 hkb hv2 hv3 hb
        go_wp2_with (at_builtin; refine Lib.wpList_append_run _ rfl _ _ _ _ rfl _ _ rfl rfl _ _ HR.out ?_)
        refine (CT2.out _).mono ?_
        rintro e w4 ⟨rfl, hb⟩
        obtain ⟨v4, w5, hr, hbr5, hkb⟩ := app_s3 T2 (HBR3.out.later hb) (Nat.le_trans HV3.out.size hb.size) (by rw [List.length_append, lT1]; simp; omega)
        have hv5 := (below_t5 HV3.out hb).trans hkb.below
        have HR := hide hr
        have HBR5 := hide hbr5
        have HV5 := hide hv5
        rw [lT1, lT2, ← EF.out] at HBR5
        clear hr hbr5 hkb hv5 hb
        go_wp2_with (at_builtin; refine Lib.wpList_append_run _ rfl _ _ _ _ rfl _ _ rfl rfl _ _ HR.out ?_)
        go_roundw
        case rel => exact ⟨k + 1, _, by go_num, rfl, hide ⟨by omega, EM.out.symm, HBR5.out, HV5.out⟩⟩
        case measure => simp [intOf]; omega
      have hlt' : ¬ (k : Int) < (na : Int) := by omega
      have hkn : na = k := by omega
      subst hkn
      have hXM : X = M := by
        have h1 := HM.out.hna
        simp only at h1
        rw [hX, List.take_of_length_le (by omega), max0 (fun y hy => (HX.out.1 y hy).1) (by have := HX.out.2.2.1; omega), HMM.out]
      subst hXM
      have HW := hide (Below.refl wr.heap.size wr)
      have HBR := hide hbr
      clear hX hbr hv hlt
      go_wp2_with fail
      go_region_held3 (fun z => z.cell? ⟨x, 0, none⟩ = some (.int .i64 up) ∧ z.cell? ⟨x, 1, none⟩ = some (.int .i64 sc) ∧ z.cell? ⟨x, 2, none⟩ = some (.int .i64 de) ∧ z.cell? ⟨x, 3, none⟩ = some (.int .i64 ga) ∧ z.cell? ⟨x, 4, none⟩ = some (.int .i64 b0) ∧ z.cell? ⟨x, 5, none⟩ = some (.int .i64 b1) ∧ z.cell? ⟨x, 6, none⟩ = some (.int .i64 b2) ∧ z.cell? ⟨x, 7, none⟩ = some (.int .i64 b3) ∧ z.cell? ⟨x, 9, none⟩ = some (.slice aa na ca)) (first | exact KSS.out _ (below_d HV.out (Below.refl _ _) rfl rfl rfl rfl)) ((first | (go_at_call 103; refine (CZ22.out _).mono ?_; rintro e w1 ⟨rfl, hb⟩; replace HV := hide (below_d HV.out hb rfl rfl rfl rfl); replace HW := hide (below_d HW.out hb rfl rfl rfl rfl); clear hb) | (go_at_call 104; refine (CTS.out _).mono ?_; rintro e w1 ⟨rfl, hb⟩; replace HV := hide (below_d HV.out hb rfl rfl rfl rfl); replace HW := hide (below_d HW.out hb rfl rfl rfl rfl); clear hb) | (go_at_call 104; refine (CTD.out _).mono ?_; rintro e w1 ⟨rfl, hb⟩; replace HV := hide (below_d HV.out hb rfl rfl rfl rfl); replace HW := hide (below_d HW.out hb rfl rfl rfl rfl); clear hb) | (go_at_call 104; refine (CTG.out _).mono ?_; rintro e w1 ⟨rfl, hb⟩; replace HV := hide (below_d HV.out hb rfl rfl rfl rfl); replace HW := hide (below_d HW.out hb rfl rfl rfl rfl); clear hb) | (go_at_call 104; refine (CTM.out _).mono ?_; rintro e w1 ⟨rfl, hb⟩; replace HV := hide (below_d HV.out hb rfl rfl rfl rfl); replace HW := hide (below_d HW.out hb rfl rfl rfl rfl); clear hb) | (go_at_call 104; refine (CTN.out _).mono ?_; rintro e w1 ⟨rfl, hb⟩; replace HV := hide (below_d HV.out hb rfl rfl rfl rfl); replace HW := hide (below_d HW.out hb rfl rfl rfl rfl); clear hb)))
      all_goals
        have kk := KC.out _ HV.out
        have c9 := kk.cell 9
        have xlt := kk.lt
        simp at c9
        clear kk
        go_wp2_with fail
        refine (CTN.out _).mono ?_
        rintro e u0' ⟨rfl, hb⟩
        replace HV := hide (below_t5 HV.out hb)
        replace HW := hide (below_t5 HW.out hb)
        clear hb
        go_wp2_with fail
        refine (CZ8.out _).mono ?_
        rintro e u1' ⟨rfl, hb⟩
        replace HV := hide (below_t5 HV.out hb)
        replace HW := hide (below_t5 HW.out hb)
        clear hb
        go_wp2_with fail
        refine (CTW.out _).mono ?_
        rintro e u2' ⟨rfl, hb⟩
        replace HV := hide (below_t5 HV.out hb)
        replace HW := hide (below_t5 HW.out hb)
        clear hb
        go_wp2_with fail
        refine (CZ16.out _).mono ?_
        rintro e u3' ⟨rfl, hb⟩
        replace HV := hide (below_t5 HV.out hb)
        replace HW := hide (below_t5 HW.out hb)
        clear hb
        have hcv := (HBR.out.later HW.out).text
        rw [← HD3.out] at hcv
        have hal := HV.out.alloc HV.out.size (.cells TC 94)
        have kt := Blk.new u3' TC 94
        rw [HTC.out] at hal kt
        rw [← E1.out, ← E2.out, ← E4.out] at hal kt
        have HAL := hide (below_t5 HB.out hal)
        have HKT := hide kt
        have HSZ : Hid (w.heap.size ≤ u3'.heap.size) := hide (Nat.le_trans HB.out.size HV.out.size)
        clear hal kt c9 xlt
        go_wp2_with fail
        go_ret2
        exact ⟨u3'.heap.size, rfl, by rw [HTC.out, ← E1.out, ← E2.out, ← E4.out]; exact HKT.out, HSZ.out, HAL.out⟩
end Go.Proofs.YtpdfpbbamnhkfaaGreatDoor
