/-
  Joined: M9Opn, M9RB, M9RG.
-/
import Derived.ChangeAlike
import Derived.ChangeArms
import Derived.ChangeKeysEq
import Derived.ChangeSlices
import Derived.Deep.Slices
import Derived.Laws.Concat
import Derived.OpenShut
import Derived.ProofKit
import Derived.RegionTactic
import Derived.Test.YthnpnkiomknkeaaDoorC21
namespace Go.Proofs.YthnpnkiomknkeaaDoor
open Go.ChangeShapes Go.WideShapes Go.RowKit Go.Deep
theorem cells_int : Tryd.prog.cellsOf 3 = 1 := by kernel_rfl
theorem cells_bool : Tryd.prog.cellsOf 4 = 1 := by kernel_rfl
theorem cells_ints : Tryd.prog.cellsOf 23 = 1 := by kernel_rfl
theorem cells_box : Tryd.prog.cellsOf 22 = 4 := by kernel_rfl
theorem cells_met : Tryd.prog.cellsOf 25 = 11 := by kernel_rfl
theorem len8 {α : Type} {l : List α} (h : l.length = 8) : ∃ a b c d e f g i, l = [a, b, c, d, e, f, g, i] := by
  match l, h with
  | [a, b, c, d, e, f, g, i], _ => exact ⟨a, b, c, d, e, f, g, i, rfl⟩
theorem len11 {α : Type} {l : List α} (h : l.length = 11) : ∃ a b c d e f g i j k m, l = [a, b, c, d, e, f, g, i, j, k, m] := by
  match l, h with
  | [a, b, c, d, e, f, g, i, j, k, m], _ => exact ⟨a, b, c, d, e, f, g, i, j, k, m, rfl⟩
theorem cell_lt9 {w : World} {b o : Nat} {v : Value} (h : w.cell? ⟨b, o, none⟩ = some v) : b < w.heap.size := by
  by_cases hb : b < w.heap.size
  · exact hb
  · unfold World.cell? at h
    rw [Array.getElem?_eq_none (by show w.heap.size ≤ b; omega)] at h
    simp at h
structure MIn (w : World) (m : Mt) (aa : Option Addr) (na : Nat) (ab : Option Addr) (nb : Nat) : Prop where
  up : i64 m.up
  hna : m.ad.length = na
  hnb : m.be.length = nb
  ma : na ≤ 9223372036854775807
  mb : nb ≤ 9223372036854775807
  la : Lst w aa m.ad
  lb : Lst w ab m.be
  xa : ∀ x ∈ m.ad, i64 x
  xb : ∀ x ∈ m.be, i64 x
section
variable {H : Type} {enc : TypeId × Value → H} {W : World} {base : Nat} {sp : Nat → Bool} {held : Bool}
theorem ints_cell {n : Nat} {c : Value} {y : DataW H × List MemPlace} (hf : DataW.trod enc Tryd.prog W base sp held n 23 [c] = some y) : ∃ a cap zs, c = .slice a zs.length cap ∧ Lst W a zs ∧ zs.length ≤ 9223372036854775807 ∧ ∀ x ∈ zs, i64 x := by
  rcases open_ints Tryd.underlying23 Tryd.underlying3 (by kernel_rfl) hf with ⟨hcs, _⟩ | ⟨x, len', cap', zs, hcs, _, hl, hm, hzl, _, hc, hw⟩
  · simp at hcs
    exact ⟨none, 0, [], hcs, Or.inl rfl, by simp, by simp⟩
  · simp at hcs
    have hlz : len' ≤ zs.length := by rw [hzl]; split <;> omega
    have htl : (zs.take len').length = len' := by rw [List.length_take]; omega
    refine ⟨some x, cap', zs.take len', by rw [htl]; exact hcs, ?_, by rw [htl]; unfold maxLen at hm; omega, fun n hn => bounds_i64 (hw n (List.mem_of_mem_take hn))⟩
    by_cases hz : zs.length = 0
    · rw [List.eq_nil_of_length_eq_zero hz]; exact Or.inl (by simp)
    · obtain ⟨b, off, rfl, hc'⟩ := ints_at hc (by omega)
      have : Lst W (some ⟨b, off, none⟩) zs := Or.inr ⟨b, off, rfl, cell_lt9 (hc' 0 (by omega)), hc'⟩
      exact this.take len'
theorem int_cell9 {n : Nat} {c : Value} {y : DataW H × List MemPlace} (h : DataW.trod enc Tryd.prog W base sp held n 3 [c] = some y) : ∃ a, c = .int .i64 a ∧ i64 a := by
  obtain ⟨a, e, _, wa⟩ := DataW.trod_int Tryd.underlying3 h
  simp only [List.cons.injEq, and_true] at e
  exact ⟨a, e, bounds_i64 wa⟩
variable {r : Reach} {b0 : Nat} {v : Value} {d : DataW H} {pl : List MemPlace}
end
end Go.Proofs.YthnpnkiomknkeaaDoor
namespace Go.Proofs.YthnpnkiomknkeaaDoor
open Go.RowKit Go.Deep
set_option linter.unusedVariables false
theorem short_any (x : Int) (w : World) : Calls Tryd.prog 55 #[.int .i64 x] w fun e w' => e = .returned (.bool (wiB (-32768) 32767 [x])) ∧ w' = w := by
  rw [wiB_one]
  by_cases h1 : -32768 ≤ x
  · by_cases h2 : x ≤ 32767
    · rw [show decide (-32768 ≤ x) = true by simp; omega, show decide (x ≤ 32767) = true by simp; omega]
      go_enter Tryd.func55, Tryd.ntmps55
      go_wp2_with fail
      go_ret
      exact ⟨rfl, rfl⟩
    · rw [show decide (-32768 ≤ x) = true by simp; omega, show decide (x ≤ 32767) = false by simp; omega]
      go_enter Tryd.func55, Tryd.ntmps55
      go_wp2_with fail
      go_ret
      exact ⟨rfl, rfl⟩
  · rw [show decide (-32768 ≤ x) = false by simp; omega]
    go_enter Tryd.func55, Tryd.ntmps55
    go_wp2_with fail
    go_ret
    exact ⟨rfl, rfl⟩
end Go.Proofs.YthnpnkiomknkeaaDoor
namespace Go.Proofs.YthnpnkiomknkeaaDoor
open Go.RowKit Go.Deep
set_option linter.unusedVariables false
set_option linter.unusedSimpArgs false
theorem wiB_f1 {lo hi x : Int} (h : x < lo ∨ hi < x) : wiB lo hi [x] = false := by
  rw [wiB_one]
  rcases h with h | h
  · rw [show decide (lo ≤ x) = false by simp; omega]; rfl
  · rw [show decide (x ≤ hi) = false by simp; omega, Bool.and_false]
theorem wiB_t1 {lo hi x : Int} (h : lo ≤ x) (h2 : x ≤ hi) : wiB lo hi [x] = true := by
  rw [wiB_one, show decide (lo ≤ x) = true by simp; omega, show decide (x ≤ hi) = true by simp; omega]; rfl
theorem wiB_c (lo hi x : Int) (r : List Int) : wiB lo hi (x :: r) = (wiB lo hi [x] && wiB lo hi r) := by
  simp [wiB]
set_option maxRecDepth 8000 in
set_option maxHeartbeats 8000000 in
theorem rgood_any (m : Mt) (aa ab : Option Addr) (na ca nb cb : Nat) (w : World) (hM : MIn w m aa na ab nb) (hma : na ≤ 1000000) (hmb : nb ≤ 1000000) :
    Calls Tryd.prog 39 #[.agg (mcs m (.slice aa na ca) (.slice ab nb cb))] w fun e w' => e = .returned (.bool (goodB m)) ∧ Below w.heap.size w w' := by
  have CSH := hide short_any
  obtain ⟨up, sc, de, ga, b0, b1, b2, b3, lg, ad, be⟩ := m
  have HB := hide ((Below.refl w.heap.size w).alloc (Nat.le_refl _) (.cells #[.int .i64 up, .int .i64 sc, .int .i64 de, .int .i64 ga, .int .i64 b0, .int .i64 b1, .int .i64 b2, .int .i64 b3, .bool lg, .slice aa na ca, .slice ab nb cb] 25))
  have KV := hide (Blk.new w #[.int .i64 up, .int .i64 sc, .int .i64 de, .int .i64 ga, .int .i64 b0, .int .i64 b1, .int .i64 b2, .int .i64 b3, .bool lg, .slice aa na ca, .slice ab nb cb] 25)
  have HG : Hid (goodB ⟨up, sc, de, ga, b0, b1, b2, b3, lg, ad, be⟩ = (wiB 16 16384 [up] && ((wiB (-32768) 32767 [sc] && (wiB (-32768) 32767 [de] && wiB (-32768) 32767 [ga])) && ((wiB (-32768) 32767 [b0] && (wiB (-32768) 32767 [b1] && (wiB (-32768) 32767 [b2] && wiB (-32768) 32767 [b3]))) && (wiB 1 4096 [(na : Int)] && (((nb : Int) == (na : Int)) && (wiB 0 65535 ad && wiB (-32768) 32767 be))))))) := hide (by
    have h1 := hM.hna
    have h2 := hM.hnb
    simp only at h1 h2
    unfold goodB
    simp only [h1, h2]
    rw [wiB_c _ _ sc, wiB_c _ _ de, wiB_c _ _ b0, wiB_c _ _ b1, wiB_c _ _ b2])
  have HM := hide hM
  have hma' : (na : Int) ≤ 1000000 := by omega
  have hmb' : (nb : Int) ≤ 1000000 := by omega
  clear hM hma hmb
  simp only [mcs] at ⊢
  generalize goodB ⟨up, sc, de, ga, b0, b1, b2, b3, lg, ad, be⟩ = GB at HG ⊢
  by_cases u1 : up < 16
  · have f := wiB_f1 (lo := 16) (hi := 16384) (x := up) (Or.inl u1)
    rw [f] at HG
    have e0 := HG.out
    simp only [Bool.false_and, Bool.and_false, Bool.true_and] at e0
    subst e0
    clear HG
    go_enter Tryd.func39, Tryd.ntmps39
    go_wp2_with (go_at_call 55; refine (CSH.out _ _).mono ?_; rintro e w1 ⟨rfl, rfl⟩)
    go_ret
    exact ⟨rfl, HB.out⟩
  by_cases u2 : 16384 < up
  · have f := wiB_f1 (lo := 16) (hi := 16384) (x := up) (Or.inr u2)
    rw [f] at HG
    have e0 := HG.out
    simp only [Bool.false_and, Bool.and_false, Bool.true_and] at e0
    subst e0
    clear HG
    go_enter Tryd.func39, Tryd.ntmps39
    go_wp2_with (go_at_call 55; refine (CSH.out _ _).mono ?_; rintro e w1 ⟨rfl, rfl⟩)
    go_ret
    exact ⟨rfl, HB.out⟩
  have t1 := wiB_t1 (lo := 16) (hi := 16384) (x := up) (by omega) (by omega)
  rw [t1] at HG
  clear t1
  cases qsc : wiB (-32768) 32767 [sc]
  · rw [qsc] at HG
    have e0 := HG.out
    simp only [Bool.false_and, Bool.and_false, Bool.true_and] at e0
    subst e0
    clear HG
    go_enter Tryd.func39, Tryd.ntmps39
    go_wp2_with (go_at_call 55; refine (CSH.out _ _).mono ?_; rintro e w1 ⟨rfl, rfl⟩)
    go_ret
    exact ⟨rfl, HB.out⟩
  rw [qsc] at HG
  cases qde : wiB (-32768) 32767 [de]
  · rw [qde] at HG
    have e0 := HG.out
    simp only [Bool.false_and, Bool.and_false, Bool.true_and] at e0
    subst e0
    clear HG
    go_enter Tryd.func39, Tryd.ntmps39
    go_wp2_with (go_at_call 55; refine (CSH.out _ _).mono ?_; rintro e w1 ⟨rfl, rfl⟩)
    go_ret
    exact ⟨rfl, HB.out⟩
  rw [qde] at HG
  cases qga : wiB (-32768) 32767 [ga]
  · rw [qga] at HG
    have e0 := HG.out
    simp only [Bool.false_and, Bool.and_false, Bool.true_and] at e0
    subst e0
    clear HG
    go_enter Tryd.func39, Tryd.ntmps39
    go_wp2_with (go_at_call 55; refine (CSH.out _ _).mono ?_; rintro e w1 ⟨rfl, rfl⟩)
    go_ret
    exact ⟨rfl, HB.out⟩
  rw [qga] at HG
  by_cases n1 : na < 1
  · have n1' : (na : Int) < 1 := by omega
    have f := wiB_f1 (lo := 1) (hi := 4096) (x := (na : Int)) (Or.inl n1')
    rw [f] at HG
    have e0 := HG.out
    simp only [Bool.false_and, Bool.and_false, Bool.true_and] at e0
    subst e0
    clear HG
    go_enter Tryd.func39, Tryd.ntmps39
    go_wp2_with (go_at_call 55; refine (CSH.out _ _).mono ?_; rintro e w1 ⟨rfl, rfl⟩)
    go_ret
    exact ⟨rfl, HB.out⟩
  have n1' : ¬ (na : Int) < 1 := by omega
  by_cases n2 : 4096 < na
  · have n2' : (4096 : Int) < (na : Int) := by omega
    have f := wiB_f1 (lo := 1) (hi := 4096) (x := (na : Int)) (Or.inr n2')
    rw [f] at HG
    clear n2
    have e0 := HG.out
    simp only [Bool.false_and, Bool.and_false, Bool.true_and] at e0
    subst e0
    clear HG
    go_enter Tryd.func39, Tryd.ntmps39
    go_wp2_with (go_at_call 55; refine (CSH.out _ _).mono ?_; rintro e w1 ⟨rfl, rfl⟩)
    go_ret
    exact ⟨rfl, HB.out⟩
  have n2' : ¬ (4096 : Int) < (na : Int) := by omega
  have t1 := wiB_t1 (lo := 1) (hi := 4096) (x := (na : Int)) (by omega) (by omega)
  rw [t1] at HG
  have HN := hide (And.intro n1 n2)
  clear t1 n1 n2
  by_cases n3 : nb = na
  case neg =>
    have n3' : ((nb : Int) == (na : Int)) = false := by simp; omega
    have n3b : (nb == na) = false := by simp [n3]
    have n3c : ¬ (nb : Int) = (na : Int) := by omega
    have n3d : ((nb : Int) != (na : Int)) = true := by simp; omega
    have n3e : (nb != na) = true := by simp [n3]
    rw [n3'] at HG
    have e0 := HG.out
    simp only [Bool.false_and, Bool.and_false, Bool.true_and] at e0
    subst e0
    clear HG
    go_enter Tryd.func39, Tryd.ntmps39
    go_wp2_with (go_at_call 55; refine (CSH.out _ _).mono ?_; rintro e w1 ⟨rfl, rfl⟩)
    go_ret
    exact ⟨rfl, HB.out⟩
  subst n3
  rw [show ((nb : Int) == (nb : Int)) = true by simp] at HG
  go_enter Tryd.func39, Tryd.ntmps39
  go_wp2_with (go_at_call 55; refine (CSH.out _ _).mono ?_; rintro e w1 ⟨rfl, rfl⟩)
  generalize w.alloc (.cells #[.int .i64 up, .int .i64 sc, .int .i64 de, .int .i64 ga, .int .i64 b0, .int .i64 b1, .int .i64 b2, .int .i64 b3, .bool lg, .slice aa nb ca, .slice ab nb cb] 25) = V at HB KV ⊢
  obtain ⟨x, hx⟩ : ∃ x, w.heap.size = x := ⟨_, rfl⟩
  have KV2 : Hid (Blk V x #[.int .i64 up, .int .i64 sc, .int .i64 de, .int .i64 ga, .int .i64 b0, .int .i64 b1, .int .i64 b2, .int .i64 b3, .bool lg, .slice aa nb ca, .slice ab nb cb] 25) := hx ▸ KV
  rw [hx]
  have KC := hide (fun (u : World) (hu : Below V.heap.size V u) => KV2.out.below hu)
  have HV := hide (Below.refl V.heap.size V)
  have kk := KC.out _ HV.out
  clear KV KV2 hx
  have c0 := kk.cell 0
  have c1 := kk.cell 1
  have c2 := kk.cell 2
  have c3 := kk.cell 3
  have c4 := kk.cell 4
  have c5 := kk.cell 5
  have c6 := kk.cell 6
  have c7 := kk.cell 7
  have c8 := kk.cell 8
  have c9 := kk.cell 9
  have c10 := kk.cell 10
  simp at c0 c1 c2 c3 c4 c5 c6 c7 c8 c9 c10
  have xlt := kk.lt
  clear kk
  clear KC HV
  refine wp_loop_rounds 5 ?_
  rw [rounds_succ]
  go_wp2_with fail
  refine (CSH.out _ _).mono ?_
  rintro e w1 ⟨rfl, hw⟩
  replace hw := hw.symm
  subst hw
  cases qb0 : wiB (-32768) 32767 [b0]
  · rw [qb0] at HG
    have e0 := HG.out
    simp only [Bool.false_and, Bool.and_false, Bool.true_and] at e0
    subst e0
    clear HG
    go_wp2_with fail
    go_ret
    exact ⟨rfl, HB.out⟩
  rw [qb0] at HG
  go_wp2_with fail
  rw [rounds_succ]
  go_wp2_with fail
  refine (CSH.out _ _).mono ?_
  rintro e w1 ⟨rfl, hw⟩
  replace hw := hw.symm
  subst hw
  cases qb1 : wiB (-32768) 32767 [b1]
  · rw [qb1] at HG
    have e0 := HG.out
    simp only [Bool.false_and, Bool.and_false, Bool.true_and] at e0
    subst e0
    clear HG
    go_wp2_with fail
    go_ret
    exact ⟨rfl, HB.out⟩
  rw [qb1] at HG
  go_wp2_with fail
  rw [rounds_succ]
  go_wp2_with fail
  refine (CSH.out _ _).mono ?_
  rintro e w1 ⟨rfl, hw⟩
  replace hw := hw.symm
  subst hw
  cases qb2 : wiB (-32768) 32767 [b2]
  · rw [qb2] at HG
    have e0 := HG.out
    simp only [Bool.false_and, Bool.and_false, Bool.true_and] at e0
    subst e0
    clear HG
    go_wp2_with fail
    go_ret
    exact ⟨rfl, HB.out⟩
  rw [qb2] at HG
  go_wp2_with fail
  rw [rounds_succ]
  go_wp2_with fail
  refine (CSH.out _ _).mono ?_
  rintro e w1 ⟨rfl, hw⟩
  replace hw := hw.symm
  subst hw
  cases qb3 : wiB (-32768) 32767 [b3]
  · rw [qb3] at HG
    have e0 := HG.out
    simp only [Bool.false_and, Bool.and_false, Bool.true_and] at e0
    subst e0
    clear HG
    go_wp2_with fail
    go_ret
    exact ⟨rfl, HB.out⟩
  rw [qb3] at HG
  go_wp2_with fail
  rw [rounds_succ]
  go_wp2_with fail
  go_loop [5] (fun vi => ∃ (i : Nat), vi = .int .i64 i ∧ Hid (i ≤ nb ∧ ∀ j, j < i → (0 ≤ ad.getD j 0 ∧ ad.getD j 0 ≤ 65535) ∧ (-32768 ≤ be.getD j 0 ∧ be.getD j 0 ≤ 32767))) (fun vi => nb - (intOf vi).toNat)
  case atStart => exact ⟨0, rfl, hide ⟨by omega, fun j hj => by omega⟩⟩
  case round =>
    obtain ⟨i, rfl, HI⟩ := hrel
    obtain ⟨hi, hj⟩ := HI.out
    have HJ := hide hj
    have hi0 : (0 : Int) ≤ (i : Int) := by omega
    clear HI hj
    by_cases hlt : i < nb
    case neg =>
      have hlt' : ¬ (i : Int) < (nb : Int) := by omega
      have e1 : wiB 0 65535 ad = true := wiB_of fun j hj => (HJ.out j (by have h := HM.out.hna; simp only at h; omega)).1
      have e2 : wiB (-32768) 32767 be = true := wiB_of fun j hj => (HJ.out j (by have h := HM.out.hnb; simp only at h; omega)).2
      rw [e1, e2] at HG
      have e0 := HG.out
      simp only [Bool.false_and, Bool.and_false, Bool.true_and] at e0
      subst e0
      clear HG e1 e2 HJ
      go_wp2_with fail
      go_ret
      exact ⟨rfl, HB.out⟩
    have hlt' : (i : Int) < (nb : Int) := by omega
    have hl1 := HM.out.hna
    have hl2 := HM.out.hnb
    simp only at hl1 hl2
    rcases HM.out.la.below HB.out with hz | ⟨p, po, rfl, hp, hcp⟩
    · simp only at hz; rw [hz] at hl1; simp at hl1; omega
    rcases HM.out.lb.below HB.out with hz | ⟨q, qo, rfl, hq, hcq⟩
    · simp only at hz; rw [hz] at hl2; simp at hl2; omega
    have a1 := hcp i (by simp only; omega)
    have a2 := hcq i (by simp only; omega)
    simp only at a1 a2
    have NA := hide (fun h => wiB_not (lo := 0) (hi := 65535) (zs := ad) (k := i) (by omega) h)
    have NB := hide (fun h => wiB_not (lo := -32768) (hi := 32767) (zs := be) (k := i) (by omega) h)
    have NX : Hid (∀ y z, y = ad.getD i 0 → z = be.getD i 0 → (0 ≤ y ∧ y ≤ 65535) → (-32768 ≤ z ∧ z ≤ 32767) → ∀ j, j < i + 1 → (0 ≤ ad.getD j 0 ∧ ad.getD j 0 ≤ 65535) ∧ (-32768 ≤ be.getD j 0 ∧ be.getD j 0 ≤ 32767)) := hide fun y z hy hz h1 h2 j hj => by
      rcases Nat.lt_or_ge j i with h' | h'
      · exact HJ.out j h'
      · obtain rfl : j = i := by omega
        rw [← hy, ← hz]; exact ⟨h1, h2⟩
    generalize ad.getD i 0 = y at a1 NA NX
    generalize be.getD i 0 = z at a2 NB NX
    clear hcp hcq hl1 hl2 HJ
    by_cases y1 : y < 0
    · rw [NA.out (by omega)] at HG
      have e0 := HG.out
      simp only [Bool.false_and, Bool.and_false, Bool.true_and] at e0
      subst e0
      clear HG
      go_wp2_with fail
      go_ret
      exact ⟨rfl, HB.out⟩
    by_cases y2 : 65535 < y
    · rw [NA.out (by omega)] at HG
      have e0 := HG.out
      simp only [Bool.false_and, Bool.and_false, Bool.true_and] at e0
      subst e0
      clear HG
      go_wp2_with fail
      go_ret
      exact ⟨rfl, HB.out⟩
    cases z1 : wiB (-32768) 32767 [z]
    · rw [NB.out (by rw [wiB_one] at z1; simp at z1; omega)] at HG
      have e0 := HG.out
      simp only [Bool.false_and, Bool.and_false, Bool.true_and] at e0
      subst e0
      clear HG
      go_wp2_with fail
      refine (CSH.out _ _).mono ?_
      rintro e w1 ⟨rfl, rfl⟩
      go_wp2_with fail
      go_ret
      exact ⟨rfl, HB.out⟩
    · have z2 : -32768 ≤ z ∧ z ≤ 32767 := by rw [wiB_one] at z1; simpa using z1
      go_wp2_with fail
      refine (CSH.out _ _).mono ?_
      rintro e w1 ⟨rfl, hw⟩
      replace hw := hw.symm
      subst hw
      go_wp2_with fail
      go_round
      case rel => exact ⟨i + 1, by go_num, hide ⟨by omega, NX.out y z rfl rfl (by omega) z2⟩⟩
      case measure => simp [intOf]; omega
end Go.Proofs.YthnpnkiomknkeaaDoor
