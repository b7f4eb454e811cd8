/-
  What the landed alike and the reference's One answer of any two marks.
-/
import Derived.Test.YthhhepbflggojaaDoorE15B
namespace Go.Proofs.YthhhepbflggojaaDoor.E15
open Go.RowKit Go.Deep
set_option linter.unusedVariables false
set_option linter.unusedSimpArgs false
set_option maxRecDepth 8000

set_option maxHeartbeats 1000000 in
theorem rone_0 (ck cf cs cx cy cr0 cr1 cr2 cr3 dk df ds dx dy dr0 dr1 dr2 dr3 : Int) (a b : Option Addr) (n m ca cb : Nat) (w : World) (h : (ck == dk) = false) :
    Calls Tryd.prog 20 #[.agg #[.int .i64 ck, .int .i64 cf, .int .i64 cs, .int .i64 cx, .int .i64 cy, .slice a n ca, .int .i64 cr0, .int .i64 cr1, .int .i64 cr2, .int .i64 cr3], .agg #[.int .i64 dk, .int .i64 df, .int .i64 ds, .int .i64 dx, .int .i64 dy, .slice b m cb, .int .i64 dr0, .int .i64 dr1, .int .i64 dr2, .int .i64 dr3]] w fun e w' => e = .returned (.bool false) ∧ Below w.heap.size w w' := by
  have HB := hide (((Below.refl w.heap.size w).alloc (Nat.le_refl _) (.cells #[.int .i64 ck, .int .i64 cf, .int .i64 cs, .int .i64 cx, .int .i64 cy, .slice a n ca, .int .i64 cr0, .int .i64 cr1, .int .i64 cr2, .int .i64 cr3] 38)).alloc (by simp) (.cells #[.int .i64 dk, .int .i64 df, .int .i64 ds, .int .i64 dx, .int .i64 dy, .slice b m cb, .int .i64 dr0, .int .i64 dr1, .int .i64 dr2, .int .i64 dr3] 38))
  go_enter Tryd.func20, Tryd.ntmps20
  go_wp2_with fail
  go_ret
  exact ⟨rfl, HB.out⟩
set_option maxHeartbeats 1000000 in
theorem rone_1 (ck cf cs cx cy cr0 cr1 cr2 cr3 df ds dx dy dr0 dr1 dr2 dr3 : Int) (a b : Option Addr) (n m ca cb : Nat) (w : World) (h : (cf == df) = false) :
    Calls Tryd.prog 20 #[.agg #[.int .i64 ck, .int .i64 cf, .int .i64 cs, .int .i64 cx, .int .i64 cy, .slice a n ca, .int .i64 cr0, .int .i64 cr1, .int .i64 cr2, .int .i64 cr3], .agg #[.int .i64 ck, .int .i64 df, .int .i64 ds, .int .i64 dx, .int .i64 dy, .slice b m cb, .int .i64 dr0, .int .i64 dr1, .int .i64 dr2, .int .i64 dr3]] w fun e w' => e = .returned (.bool false) ∧ Below w.heap.size w w' := by
  have HB := hide (((Below.refl w.heap.size w).alloc (Nat.le_refl _) (.cells #[.int .i64 ck, .int .i64 cf, .int .i64 cs, .int .i64 cx, .int .i64 cy, .slice a n ca, .int .i64 cr0, .int .i64 cr1, .int .i64 cr2, .int .i64 cr3] 38)).alloc (by simp) (.cells #[.int .i64 ck, .int .i64 df, .int .i64 ds, .int .i64 dx, .int .i64 dy, .slice b m cb, .int .i64 dr0, .int .i64 dr1, .int .i64 dr2, .int .i64 dr3] 38))
  go_enter Tryd.func20, Tryd.ntmps20
  go_wp2_with fail
  go_ret
  exact ⟨rfl, HB.out⟩
set_option maxHeartbeats 1000000 in
theorem rone_2 (ck cf cs cx cy cr0 cr1 cr2 cr3 ds dx dy dr0 dr1 dr2 dr3 : Int) (a b : Option Addr) (n m ca cb : Nat) (w : World) (h : (cs == ds) = false) :
    Calls Tryd.prog 20 #[.agg #[.int .i64 ck, .int .i64 cf, .int .i64 cs, .int .i64 cx, .int .i64 cy, .slice a n ca, .int .i64 cr0, .int .i64 cr1, .int .i64 cr2, .int .i64 cr3], .agg #[.int .i64 ck, .int .i64 cf, .int .i64 ds, .int .i64 dx, .int .i64 dy, .slice b m cb, .int .i64 dr0, .int .i64 dr1, .int .i64 dr2, .int .i64 dr3]] w fun e w' => e = .returned (.bool false) ∧ Below w.heap.size w w' := by
  have HB := hide (((Below.refl w.heap.size w).alloc (Nat.le_refl _) (.cells #[.int .i64 ck, .int .i64 cf, .int .i64 cs, .int .i64 cx, .int .i64 cy, .slice a n ca, .int .i64 cr0, .int .i64 cr1, .int .i64 cr2, .int .i64 cr3] 38)).alloc (by simp) (.cells #[.int .i64 ck, .int .i64 cf, .int .i64 ds, .int .i64 dx, .int .i64 dy, .slice b m cb, .int .i64 dr0, .int .i64 dr1, .int .i64 dr2, .int .i64 dr3] 38))
  go_enter Tryd.func20, Tryd.ntmps20
  go_wp2_with fail
  go_ret
  exact ⟨rfl, HB.out⟩
set_option maxHeartbeats 1000000 in
theorem rone_3 (ck cf cs cx cy cr0 cr1 cr2 cr3 dx dy dr0 dr1 dr2 dr3 : Int) (a b : Option Addr) (n m ca cb : Nat) (w : World) (h : (cx == dx) = false) :
    Calls Tryd.prog 20 #[.agg #[.int .i64 ck, .int .i64 cf, .int .i64 cs, .int .i64 cx, .int .i64 cy, .slice a n ca, .int .i64 cr0, .int .i64 cr1, .int .i64 cr2, .int .i64 cr3], .agg #[.int .i64 ck, .int .i64 cf, .int .i64 cs, .int .i64 dx, .int .i64 dy, .slice b m cb, .int .i64 dr0, .int .i64 dr1, .int .i64 dr2, .int .i64 dr3]] w fun e w' => e = .returned (.bool false) ∧ Below w.heap.size w w' := by
  have HB := hide (((Below.refl w.heap.size w).alloc (Nat.le_refl _) (.cells #[.int .i64 ck, .int .i64 cf, .int .i64 cs, .int .i64 cx, .int .i64 cy, .slice a n ca, .int .i64 cr0, .int .i64 cr1, .int .i64 cr2, .int .i64 cr3] 38)).alloc (by simp) (.cells #[.int .i64 ck, .int .i64 cf, .int .i64 cs, .int .i64 dx, .int .i64 dy, .slice b m cb, .int .i64 dr0, .int .i64 dr1, .int .i64 dr2, .int .i64 dr3] 38))
  go_enter Tryd.func20, Tryd.ntmps20
  go_wp2_with fail
  go_ret
  exact ⟨rfl, HB.out⟩
set_option maxHeartbeats 1000000 in
theorem rone_4 (ck cf cs cx cy cr0 cr1 cr2 cr3 dy dr0 dr1 dr2 dr3 : Int) (a b : Option Addr) (n m ca cb : Nat) (w : World) (h : (cy == dy) = false) :
    Calls Tryd.prog 20 #[.agg #[.int .i64 ck, .int .i64 cf, .int .i64 cs, .int .i64 cx, .int .i64 cy, .slice a n ca, .int .i64 cr0, .int .i64 cr1, .int .i64 cr2, .int .i64 cr3], .agg #[.int .i64 ck, .int .i64 cf, .int .i64 cs, .int .i64 cx, .int .i64 dy, .slice b m cb, .int .i64 dr0, .int .i64 dr1, .int .i64 dr2, .int .i64 dr3]] w fun e w' => e = .returned (.bool false) ∧ Below w.heap.size w w' := by
  have HB := hide (((Below.refl w.heap.size w).alloc (Nat.le_refl _) (.cells #[.int .i64 ck, .int .i64 cf, .int .i64 cs, .int .i64 cx, .int .i64 cy, .slice a n ca, .int .i64 cr0, .int .i64 cr1, .int .i64 cr2, .int .i64 cr3] 38)).alloc (by simp) (.cells #[.int .i64 ck, .int .i64 cf, .int .i64 cs, .int .i64 cx, .int .i64 dy, .slice b m cb, .int .i64 dr0, .int .i64 dr1, .int .i64 dr2, .int .i64 dr3] 38))
  go_enter Tryd.func20, Tryd.ntmps20
  go_wp2_with fail
  go_ret
  exact ⟨rfl, HB.out⟩
set_option maxHeartbeats 1000000 in
theorem rone_5 (ck cf cs cx cy cr0 cr1 cr2 cr3 dr0 dr1 dr2 dr3 : Int) (a b : Option Addr) (n m ca cb : Nat) (w : World) (h : (cr0 == dr0) = false) :
    Calls Tryd.prog 20 #[.agg #[.int .i64 ck, .int .i64 cf, .int .i64 cs, .int .i64 cx, .int .i64 cy, .slice a n ca, .int .i64 cr0, .int .i64 cr1, .int .i64 cr2, .int .i64 cr3], .agg #[.int .i64 ck, .int .i64 cf, .int .i64 cs, .int .i64 cx, .int .i64 cy, .slice b m cb, .int .i64 dr0, .int .i64 dr1, .int .i64 dr2, .int .i64 dr3]] w fun e w' => e = .returned (.bool false) ∧ Below w.heap.size w w' := by
  have HB := hide (((Below.refl w.heap.size w).alloc (Nat.le_refl _) (.cells #[.int .i64 ck, .int .i64 cf, .int .i64 cs, .int .i64 cx, .int .i64 cy, .slice a n ca, .int .i64 cr0, .int .i64 cr1, .int .i64 cr2, .int .i64 cr3] 38)).alloc (by simp) (.cells #[.int .i64 ck, .int .i64 cf, .int .i64 cs, .int .i64 cx, .int .i64 cy, .slice b m cb, .int .i64 dr0, .int .i64 dr1, .int .i64 dr2, .int .i64 dr3] 38))
  go_enter Tryd.func20, Tryd.ntmps20
  go_wp2_with fail
  go_ret
  exact ⟨rfl, HB.out⟩
set_option maxHeartbeats 1000000 in
theorem rone_6 (ck cf cs cx cy cr0 cr1 cr2 cr3 dr1 dr2 dr3 : Int) (a b : Option Addr) (n m ca cb : Nat) (w : World) (h : (cr1 == dr1) = false) :
    Calls Tryd.prog 20 #[.agg #[.int .i64 ck, .int .i64 cf, .int .i64 cs, .int .i64 cx, .int .i64 cy, .slice a n ca, .int .i64 cr0, .int .i64 cr1, .int .i64 cr2, .int .i64 cr3], .agg #[.int .i64 ck, .int .i64 cf, .int .i64 cs, .int .i64 cx, .int .i64 cy, .slice b m cb, .int .i64 cr0, .int .i64 dr1, .int .i64 dr2, .int .i64 dr3]] w fun e w' => e = .returned (.bool false) ∧ Below w.heap.size w w' := by
  have HB := hide (((Below.refl w.heap.size w).alloc (Nat.le_refl _) (.cells #[.int .i64 ck, .int .i64 cf, .int .i64 cs, .int .i64 cx, .int .i64 cy, .slice a n ca, .int .i64 cr0, .int .i64 cr1, .int .i64 cr2, .int .i64 cr3] 38)).alloc (by simp) (.cells #[.int .i64 ck, .int .i64 cf, .int .i64 cs, .int .i64 cx, .int .i64 cy, .slice b m cb, .int .i64 cr0, .int .i64 dr1, .int .i64 dr2, .int .i64 dr3] 38))
  go_enter Tryd.func20, Tryd.ntmps20
  go_wp2_with fail
  go_ret
  exact ⟨rfl, HB.out⟩
set_option maxHeartbeats 1000000 in
theorem rone_7 (ck cf cs cx cy cr0 cr1 cr2 cr3 dr2 dr3 : Int) (a b : Option Addr) (n m ca cb : Nat) (w : World) (h : (cr2 == dr2) = false) :
    Calls Tryd.prog 20 #[.agg #[.int .i64 ck, .int .i64 cf, .int .i64 cs, .int .i64 cx, .int .i64 cy, .slice a n ca, .int .i64 cr0, .int .i64 cr1, .int .i64 cr2, .int .i64 cr3], .agg #[.int .i64 ck, .int .i64 cf, .int .i64 cs, .int .i64 cx, .int .i64 cy, .slice b m cb, .int .i64 cr0, .int .i64 cr1, .int .i64 dr2, .int .i64 dr3]] w fun e w' => e = .returned (.bool false) ∧ Below w.heap.size w w' := by
  have HB := hide (((Below.refl w.heap.size w).alloc (Nat.le_refl _) (.cells #[.int .i64 ck, .int .i64 cf, .int .i64 cs, .int .i64 cx, .int .i64 cy, .slice a n ca, .int .i64 cr0, .int .i64 cr1, .int .i64 cr2, .int .i64 cr3] 38)).alloc (by simp) (.cells #[.int .i64 ck, .int .i64 cf, .int .i64 cs, .int .i64 cx, .int .i64 cy, .slice b m cb, .int .i64 cr0, .int .i64 cr1, .int .i64 dr2, .int .i64 dr3] 38))
  go_enter Tryd.func20, Tryd.ntmps20
  go_wp2_with fail
  go_ret
  exact ⟨rfl, HB.out⟩
set_option maxHeartbeats 1000000 in
theorem rone_8 (ck cf cs cx cy cr0 cr1 cr2 cr3 dr3 : Int) (a b : Option Addr) (n m ca cb : Nat) (w : World) (h : (cr3 == dr3) = false) :
    Calls Tryd.prog 20 #[.agg #[.int .i64 ck, .int .i64 cf, .int .i64 cs, .int .i64 cx, .int .i64 cy, .slice a n ca, .int .i64 cr0, .int .i64 cr1, .int .i64 cr2, .int .i64 cr3], .agg #[.int .i64 ck, .int .i64 cf, .int .i64 cs, .int .i64 cx, .int .i64 cy, .slice b m cb, .int .i64 cr0, .int .i64 cr1, .int .i64 cr2, .int .i64 dr3]] w fun e w' => e = .returned (.bool false) ∧ Below w.heap.size w w' := by
  have HB := hide (((Below.refl w.heap.size w).alloc (Nat.le_refl _) (.cells #[.int .i64 ck, .int .i64 cf, .int .i64 cs, .int .i64 cx, .int .i64 cy, .slice a n ca, .int .i64 cr0, .int .i64 cr1, .int .i64 cr2, .int .i64 cr3] 38)).alloc (by simp) (.cells #[.int .i64 ck, .int .i64 cf, .int .i64 cs, .int .i64 cx, .int .i64 cy, .slice b m cb, .int .i64 cr0, .int .i64 cr1, .int .i64 cr2, .int .i64 dr3] 38))
  go_enter Tryd.func20, Tryd.ntmps20
  go_wp2_with fail
  go_ret
  exact ⟨rfl, HB.out⟩
set_option maxHeartbeats 1000000 in
theorem rone_9 (ck cf cs cx cy cr0 cr1 cr2 cr3 : Int) (a b : Option Addr) (n m ca cb : Nat) (xs ys : List Int) (R : Bool) (w : World) (hn : xs.length = n) (hm : ys.length = m) (h1 : n ≤ 1048576) (h2 : m ≤ 1048576) (hA : Lst w a xs) (hB : Lst w b ys) (hR : decide (xs = ys) = R) :
    Calls Tryd.prog 20 #[.agg #[.int .i64 ck, .int .i64 cf, .int .i64 cs, .int .i64 cx, .int .i64 cy, .slice a n ca, .int .i64 cr0, .int .i64 cr1, .int .i64 cr2, .int .i64 cr3], .agg #[.int .i64 ck, .int .i64 cf, .int .i64 cs, .int .i64 cx, .int .i64 cy, .slice b m cb, .int .i64 cr0, .int .i64 cr1, .int .i64 cr2, .int .i64 cr3]] w fun e w' => e = .returned (.bool R) ∧ Below w.heap.size w w' := by
  have hb := ((Below.refl w.heap.size w).alloc (Nat.le_refl _) (.cells #[.int .i64 ck, .int .i64 cf, .int .i64 cs, .int .i64 cx, .int .i64 cy, .slice a n ca, .int .i64 cr0, .int .i64 cr1, .int .i64 cr2, .int .i64 cr3] 38)).alloc (by simp) (.cells #[.int .i64 ck, .int .i64 cf, .int .i64 cs, .int .i64 cx, .int .i64 cy, .slice b m cb, .int .i64 cr0, .int .i64 cr1, .int .i64 cr2, .int .i64 cr3] 38)
  have HB := hide hb
  have C := hide (ksm_any a b n m ca cb xs ys R _ hn hm h1 h2 (hA.below hb) (hB.below hb) hR)
  clear hb hA hB hR hn hm h1 h2
  go_enter Tryd.func20, Tryd.ntmps20
  go_wp2_with fail
  refine C.out.mono ?_
  rintro e w2 ⟨rfl, q, rfl⟩
  go_wp2_with fail
  go_ret
  exact ⟨rfl, by have h := HB.out; exact ⟨h.os, h.tape, h.output, h.size, h.block⟩⟩
theorem rone_any (p r : Mk) (a b : Option Addr) (n m ca cb : Nat) (w : World) (hn : p.gs.length = n) (hm : r.gs.length = m) (h1 : n ≤ 1048576) (h2 : m ≤ 1048576) (hA : Lst w a p.gs) (hB : Lst w b r.gs) :
    Calls Tryd.prog 20 #[.agg (mcs p (.slice a n ca)), .agg (mcs r (.slice b m cb))] w fun e w' => e = .returned (.bool (alB p r)) ∧ Below w.heap.size w w' := by
  obtain ⟨ck, cf, cs, cx, cy, xs, cr0, cr1, cr2, cr3⟩ := p
  obtain ⟨dk, df, ds, dx, dy, ys, dr0, dr1, dr2, dr3⟩ := r
  simp only [mcs, alB] at *
  cases e0 : ck == dk
  · simp only [Bool.false_and]
    exact rone_0 ck cf cs cx cy cr0 cr1 cr2 cr3 dk df ds dx dy dr0 dr1 dr2 dr3 a b n m ca cb w e0
  obtain rfl : ck = dk := by simpa using e0
  simp only [Bool.true_and]
  cases e1 : cf == df
  · simp only [Bool.false_and]
    exact rone_1 ck cf cs cx cy cr0 cr1 cr2 cr3 df ds dx dy dr0 dr1 dr2 dr3 a b n m ca cb w e1
  obtain rfl : cf = df := by simpa using e1
  simp only [Bool.true_and]
  cases e2 : cs == ds
  · simp only [Bool.false_and]
    exact rone_2 ck cf cs cx cy cr0 cr1 cr2 cr3 ds dx dy dr0 dr1 dr2 dr3 a b n m ca cb w e2
  obtain rfl : cs = ds := by simpa using e2
  simp only [Bool.true_and]
  cases e3 : cx == dx
  · simp only [Bool.false_and]
    exact rone_3 ck cf cs cx cy cr0 cr1 cr2 cr3 dx dy dr0 dr1 dr2 dr3 a b n m ca cb w e3
  obtain rfl : cx = dx := by simpa using e3
  simp only [Bool.true_and]
  cases e4 : cy == dy
  · simp only [Bool.false_and]
    exact rone_4 ck cf cs cx cy cr0 cr1 cr2 cr3 dy dr0 dr1 dr2 dr3 a b n m ca cb w e4
  obtain rfl : cy = dy := by simpa using e4
  simp only [Bool.true_and]
  cases e5 : cr0 == dr0
  · simp only [Bool.false_and]
    exact rone_5 ck cf cs cx cy cr0 cr1 cr2 cr3 dr0 dr1 dr2 dr3 a b n m ca cb w e5
  obtain rfl : cr0 = dr0 := by simpa using e5
  simp only [Bool.true_and]
  cases e6 : cr1 == dr1
  · simp only [Bool.false_and]
    exact rone_6 ck cf cs cx cy cr0 cr1 cr2 cr3 dr1 dr2 dr3 a b n m ca cb w e6
  obtain rfl : cr1 = dr1 := by simpa using e6
  simp only [Bool.true_and]
  cases e7 : cr2 == dr2
  · simp only [Bool.false_and]
    exact rone_7 ck cf cs cx cy cr0 cr1 cr2 cr3 dr2 dr3 a b n m ca cb w e7
  obtain rfl : cr2 = dr2 := by simpa using e7
  simp only [Bool.true_and]
  cases e8 : cr3 == dr3
  · simp only [Bool.false_and]
    exact rone_8 ck cf cs cx cy cr0 cr1 cr2 cr3 dr3 a b n m ca cb w e8
  obtain rfl : cr3 = dr3 := by simpa using e8
  simp only [Bool.true_and]
  exact rone_9 ck cf cs cx cy cr0 cr1 cr2 cr3 a b n m ca cb xs ys _ w hn hm h1 h2 hA hB rfl
end Go.Proofs.YthhhepbflggojaaDoor.E15
