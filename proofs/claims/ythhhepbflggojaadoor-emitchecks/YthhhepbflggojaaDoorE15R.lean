/-
  What the reference's Boxed and one answer.
-/
import Derived.Test.YthhhepbflggojaaDoorE15Br
import Derived.Test.YthhhepbflggojaaDoorInL
import Derived.Test.YthhhepbflggojaaDoorInR
import Derived.Test.YthhhepbflggojaaDoorR3May
import Derived.Test.YthhhepbflggojaaDoorR3RMay
namespace Go.Proofs.YthhhepbflggojaaDoor.E15
open Go.RowKit Go.Deep
set_option linter.unusedVariables false
set_option linter.unusedSimpArgs false
set_option maxRecDepth 8000

theorem bx_no (r0 r1 r2 r3 : Int) (h : R3.mayB r0 r1 r2 r3 = false) : bxB r0 r1 r2 r3 = false := by
  unfold bxB; rw [h]; simp
theorem bx_yes (r0 r1 r2 r3 : Int) (h : R3.mayB r0 r1 r2 r3 = true) : bxB r0 r1 r2 r3 = (inB (r2 - r0) && inB (r3 - r1)) := by
  obtain ⟨a, b, c, d, _, _⟩ := R3.mayB_iff.1 h
  unfold bxB subB; rw [h, a, b, c, d]; simp
set_option maxHeartbeats 1000000 in
theorem rboxed_any (r0 r1 r2 r3 : Int) (w : World) : Calls Tryd.prog 32 #[.agg #[.int .i64 r0, .int .i64 r1, .int .i64 r2, .int .i64 r3]] w fun e w' => e = .returned (.bool (bxB r0 r1 r2 r3)) ∧ Below w.heap.size w w' := by
  have hb := (Below.refl w.heap.size w).alloc (Nat.le_refl _) (.cells #[.int .i64 r0, .int .i64 r1, .int .i64 r2, .int .i64 r3] 36)
  have k1 := Blk.new w #[.int .i64 r0, .int .i64 r1, .int .i64 r2, .int .i64 r3] 36
  have HB := hide hb
  have HK := hide k1
  have C3 := hide (R3.rmay_any r0 r1 r2 r3)
  clear hb k1
  cases hM : R3.mayB r0 r1 r2 r3
  · rw [bx_no _ _ _ _ hM]
    rw [hM] at C3
    go_enter Tryd.func32, Tryd.ntmps32
    go_wp2_with fail
    refine (C3.out _).mono ?_
    rintro e w3 ⟨rfl, h3⟩
    have HB3 := hide (below_t5 HB.out h3)
    clear h3
    go_wp2_with fail
    go_ret
    exact ⟨rfl, HB3.out⟩
  rw [bx_yes _ _ _ _ hM]
  rw [hM] at C3
  obtain ⟨⟨l0, u0⟩, ⟨l1, u1⟩, ⟨l2, u2⟩, ⟨l3, u3⟩, _, _⟩ := R3.mayB_bd hM
  have e20 : wrap64 (r2 - r0) = r2 - r0 := by unfold wrap64; omega
  have e31 : wrap64 (r3 - r1) = r3 - r1 := by unfold wrap64; omega
  clear hM
  cases hA : inB (r2 - r0)
  · go_enter Tryd.func32, Tryd.ntmps32
    go_wp2_with fail
    refine (C3.out _).mono ?_
    rintro e w3 ⟨rfl, h3⟩
    have HB3 := hide (below_t5 HB.out h3)
    have k3 := HK.out.below h3
    have q0 := k3.cell 0
    have q1 := k3.cell 1
    have q2 := k3.cell 2
    have q3 := k3.cell 3
    have xlt := k3.lt
    simp at q0 q1 q2 q3
    clear h3 k3
    go_wp2_with (go_at_call 31; refine (rin_any _ _).mono ?_; rintro e w2 ⟨rfl, rfl⟩)
    go_ret
    exact ⟨rfl, HB3.out⟩
  go_enter Tryd.func32, Tryd.ntmps32
  go_wp2_with fail
  refine (C3.out _).mono ?_
  rintro e w3 ⟨rfl, h3⟩
  have HB3 := hide (below_t5 HB.out h3)
  have k3 := HK.out.below h3
  have q0 := k3.cell 0
  have q1 := k3.cell 1
  have q2 := k3.cell 2
  have q3 := k3.cell 3
  have xlt := k3.lt
  simp at q0 q1 q2 q3
  clear h3 k3
  go_wp2_with (go_at_call 31; refine (rin_any _ _).mono ?_; rintro e w2 ⟨rfl, rfl⟩)
  go_ret
  exact ⟨by simp, HB3.out⟩
set_option maxHeartbeats 1000000 in
theorem ro1_0 (f s x y r0 r1 r2 r3 : Int) (a : Option Addr) (n c : Nat) (w : World) (t0 : decide (f < 0) = true) :
    Calls Tryd.prog 17 #[.agg #[.int .i64 1, .int .i64 f, .int .i64 s, .int .i64 x, .int .i64 y, .slice a n c, .int .i64 r0, .int .i64 r1, .int .i64 r2, .int .i64 r3]] w fun e w' => e = .returned (.bool false) ∧ Below w.heap.size w w' := by
  have HB := hide ((Below.refl w.heap.size w).alloc (Nat.le_refl _) (.cells #[.int .i64 1, .int .i64 f, .int .i64 s, .int .i64 x, .int .i64 y, .slice a n c, .int .i64 r0, .int .i64 r1, .int .i64 r2, .int .i64 r3] 38))
  have t0x : f < 0 := by simpa using t0
  go_enter Tryd.func17, Tryd.ntmps17
  go_wp2_with fail
  go_ret
  exact ⟨rfl, HB.out⟩
set_option maxHeartbeats 1000000 in
theorem ro1_1 (f s x y r0 r1 r2 r3 : Int) (a : Option Addr) (n c : Nat) (w : World) (t0 : decide (f < 0) = false) (t1 : decide (99 < f) = true) :
    Calls Tryd.prog 17 #[.agg #[.int .i64 1, .int .i64 f, .int .i64 s, .int .i64 x, .int .i64 y, .slice a n c, .int .i64 r0, .int .i64 r1, .int .i64 r2, .int .i64 r3]] w fun e w' => e = .returned (.bool false) ∧ Below w.heap.size w w' := by
  have HB := hide ((Below.refl w.heap.size w).alloc (Nat.le_refl _) (.cells #[.int .i64 1, .int .i64 f, .int .i64 s, .int .i64 x, .int .i64 y, .slice a n c, .int .i64 r0, .int .i64 r1, .int .i64 r2, .int .i64 r3] 38))
  have t0x : ¬ f < 0 := by simpa using t0
  have t1x : 99 < f := by simpa using t1
  go_enter Tryd.func17, Tryd.ntmps17
  go_wp2_with fail
  go_ret
  exact ⟨rfl, HB.out⟩
set_option maxHeartbeats 1000000 in
theorem ro1_2 (f s x y r0 r1 r2 r3 : Int) (a : Option Addr) (n c : Nat) (w : World) (t0 : decide (f < 0) = false) (t1 : decide (99 < f) = false) (t2 : decide (s < 1) = true) :
    Calls Tryd.prog 17 #[.agg #[.int .i64 1, .int .i64 f, .int .i64 s, .int .i64 x, .int .i64 y, .slice a n c, .int .i64 r0, .int .i64 r1, .int .i64 r2, .int .i64 r3]] w fun e w' => e = .returned (.bool false) ∧ Below w.heap.size w w' := by
  have HB := hide ((Below.refl w.heap.size w).alloc (Nat.le_refl _) (.cells #[.int .i64 1, .int .i64 f, .int .i64 s, .int .i64 x, .int .i64 y, .slice a n c, .int .i64 r0, .int .i64 r1, .int .i64 r2, .int .i64 r3] 38))
  have t0x : ¬ f < 0 := by simpa using t0
  have t1x : ¬ 99 < f := by simpa using t1
  have t2x : s < 1 := by simpa using t2
  go_enter Tryd.func17, Tryd.ntmps17
  go_wp2_with fail
  go_ret
  exact ⟨rfl, HB.out⟩
set_option maxHeartbeats 1000000 in
theorem ro1_3 (f s x y r0 r1 r2 r3 : Int) (a : Option Addr) (n c : Nat) (w : World) (t0 : decide (f < 0) = false) (t1 : decide (99 < f) = false) (t2 : decide (s < 1) = false) (t3 : inB s = false) :
    Calls Tryd.prog 17 #[.agg #[.int .i64 1, .int .i64 f, .int .i64 s, .int .i64 x, .int .i64 y, .slice a n c, .int .i64 r0, .int .i64 r1, .int .i64 r2, .int .i64 r3]] w fun e w' => e = .returned (.bool false) ∧ Below w.heap.size w w' := by
  have HB := hide ((Below.refl w.heap.size w).alloc (Nat.le_refl _) (.cells #[.int .i64 1, .int .i64 f, .int .i64 s, .int .i64 x, .int .i64 y, .slice a n c, .int .i64 r0, .int .i64 r1, .int .i64 r2, .int .i64 r3] 38))
  have t0x : ¬ f < 0 := by simpa using t0
  have t1x : ¬ 99 < f := by simpa using t1
  have t2x : ¬ s < 1 := by simpa using t2
  go_enter Tryd.func17, Tryd.ntmps17
  go_wp2_with (go_at_call 31; refine (rin_any _ _).mono ?_; rintro e w2 ⟨rfl, rfl⟩)
  go_ret
  exact ⟨rfl, HB.out⟩
set_option maxHeartbeats 1000000 in
theorem ro1_4 (f s x y r0 r1 r2 r3 : Int) (a : Option Addr) (n c : Nat) (w : World) (t0 : decide (f < 0) = false) (t1 : decide (99 < f) = false) (t2 : decide (s < 1) = false) (t3 : inB s = true) (t4 : inB x = false) :
    Calls Tryd.prog 17 #[.agg #[.int .i64 1, .int .i64 f, .int .i64 s, .int .i64 x, .int .i64 y, .slice a n c, .int .i64 r0, .int .i64 r1, .int .i64 r2, .int .i64 r3]] w fun e w' => e = .returned (.bool false) ∧ Below w.heap.size w w' := by
  have HB := hide ((Below.refl w.heap.size w).alloc (Nat.le_refl _) (.cells #[.int .i64 1, .int .i64 f, .int .i64 s, .int .i64 x, .int .i64 y, .slice a n c, .int .i64 r0, .int .i64 r1, .int .i64 r2, .int .i64 r3] 38))
  have t0x : ¬ f < 0 := by simpa using t0
  have t1x : ¬ 99 < f := by simpa using t1
  have t2x : ¬ s < 1 := by simpa using t2
  go_enter Tryd.func17, Tryd.ntmps17
  go_wp2_with (go_at_call 31; refine (rin_any _ _).mono ?_; rintro e w2 ⟨rfl, rfl⟩)
  go_ret
  exact ⟨rfl, HB.out⟩
set_option maxHeartbeats 1000000 in
theorem ro1_5 (f s x y r0 r1 r2 r3 : Int) (a : Option Addr) (n c : Nat) (w : World) (t0 : decide (f < 0) = false) (t1 : decide (99 < f) = false) (t2 : decide (s < 1) = false) (t3 : inB s = true) (t4 : inB x = true) (t5 : inB y = false) :
    Calls Tryd.prog 17 #[.agg #[.int .i64 1, .int .i64 f, .int .i64 s, .int .i64 x, .int .i64 y, .slice a n c, .int .i64 r0, .int .i64 r1, .int .i64 r2, .int .i64 r3]] w fun e w' => e = .returned (.bool false) ∧ Below w.heap.size w w' := by
  have HB := hide ((Below.refl w.heap.size w).alloc (Nat.le_refl _) (.cells #[.int .i64 1, .int .i64 f, .int .i64 s, .int .i64 x, .int .i64 y, .slice a n c, .int .i64 r0, .int .i64 r1, .int .i64 r2, .int .i64 r3] 38))
  have t0x : ¬ f < 0 := by simpa using t0
  have t1x : ¬ 99 < f := by simpa using t1
  have t2x : ¬ s < 1 := by simpa using t2
  go_enter Tryd.func17, Tryd.ntmps17
  go_wp2_with (go_at_call 31; refine (rin_any _ _).mono ?_; rintro e w2 ⟨rfl, rfl⟩)
  go_ret
  exact ⟨rfl, HB.out⟩
set_option maxHeartbeats 1000000 in
theorem ro1_6 (f s x y r0 r1 r2 r3 : Int) (a : Option Addr) (n c : Nat) (w : World) (t0 : decide (f < 0) = false) (t1 : decide (99 < f) = false) (t2 : decide (s < 1) = false) (t3 : inB s = true) (t4 : inB x = true) (t5 : inB y = true) (t6 : ((n : Int) == 0) = true) :
    Calls Tryd.prog 17 #[.agg #[.int .i64 1, .int .i64 f, .int .i64 s, .int .i64 x, .int .i64 y, .slice a n c, .int .i64 r0, .int .i64 r1, .int .i64 r2, .int .i64 r3]] w fun e w' => e = .returned (.bool false) ∧ Below w.heap.size w w' := by
  have HB := hide ((Below.refl w.heap.size w).alloc (Nat.le_refl _) (.cells #[.int .i64 1, .int .i64 f, .int .i64 s, .int .i64 x, .int .i64 y, .slice a n c, .int .i64 r0, .int .i64 r1, .int .i64 r2, .int .i64 r3] 38))
  have t0x : ¬ f < 0 := by simpa using t0
  have t1x : ¬ 99 < f := by simpa using t1
  have t2x : ¬ s < 1 := by simpa using t2
  have t6x : (n : Int) = 0 := by simpa using t6
  go_enter Tryd.func17, Tryd.ntmps17
  go_wp2_with (go_at_call 31; refine (rin_any _ _).mono ?_; rintro e w2 ⟨rfl, rfl⟩)
  go_ret
  exact ⟨rfl, HB.out⟩
set_option maxHeartbeats 1000000 in
theorem ro1_7 (f s x y r0 r1 r2 r3 : Int) (a : Option Addr) (n c : Nat) (w : World) (t0 : decide (f < 0) = false) (t1 : decide (99 < f) = false) (t2 : decide (s < 1) = false) (t3 : inB s = true) (t4 : inB x = true) (t5 : inB y = true) (t6 : ((n : Int) == 0) = false) (hz : (r0 == 0) = false) :
    Calls Tryd.prog 17 #[.agg #[.int .i64 1, .int .i64 f, .int .i64 s, .int .i64 x, .int .i64 y, .slice a n c, .int .i64 r0, .int .i64 r1, .int .i64 r2, .int .i64 r3]] w fun e w' => e = .returned (.bool false) ∧ Below w.heap.size w w' := by
  have HB := hide ((Below.refl w.heap.size w).alloc (Nat.le_refl _) (.cells #[.int .i64 1, .int .i64 f, .int .i64 s, .int .i64 x, .int .i64 y, .slice a n c, .int .i64 r0, .int .i64 r1, .int .i64 r2, .int .i64 r3] 38))
  have hzx : ¬ r0 = 0 := by simpa using hz
  have t0x : ¬ f < 0 := by simpa using t0
  have t1x : ¬ 99 < f := by simpa using t1
  have t2x : ¬ s < 1 := by simpa using t2
  have t6x : ¬ (n : Int) = 0 := by simpa using t6
  go_enter Tryd.func17, Tryd.ntmps17
  go_wp2_with (go_at_call 31; refine (rin_any _ _).mono ?_; rintro e w2 ⟨rfl, rfl⟩)
  go_ret
  exact ⟨rfl, HB.out⟩
set_option maxHeartbeats 1000000 in
theorem ro1_8 (f s x y r1 r2 r3 : Int) (a : Option Addr) (n c : Nat) (w : World) (t0 : decide (f < 0) = false) (t1 : decide (99 < f) = false) (t2 : decide (s < 1) = false) (t3 : inB s = true) (t4 : inB x = true) (t5 : inB y = true) (t6 : ((n : Int) == 0) = false) (hz : (r1 == 0) = false) :
    Calls Tryd.prog 17 #[.agg #[.int .i64 1, .int .i64 f, .int .i64 s, .int .i64 x, .int .i64 y, .slice a n c, .int .i64 0, .int .i64 r1, .int .i64 r2, .int .i64 r3]] w fun e w' => e = .returned (.bool false) ∧ Below w.heap.size w w' := by
  have HB := hide ((Below.refl w.heap.size w).alloc (Nat.le_refl _) (.cells #[.int .i64 1, .int .i64 f, .int .i64 s, .int .i64 x, .int .i64 y, .slice a n c, .int .i64 0, .int .i64 r1, .int .i64 r2, .int .i64 r3] 38))
  have hzx : ¬ r1 = 0 := by simpa using hz
  have t0x : ¬ f < 0 := by simpa using t0
  have t1x : ¬ 99 < f := by simpa using t1
  have t2x : ¬ s < 1 := by simpa using t2
  have t6x : ¬ (n : Int) = 0 := by simpa using t6
  go_enter Tryd.func17, Tryd.ntmps17
  go_wp2_with (go_at_call 31; refine (rin_any _ _).mono ?_; rintro e w2 ⟨rfl, rfl⟩)
  go_ret
  exact ⟨rfl, HB.out⟩
set_option maxHeartbeats 1000000 in
theorem ro1_9 (f s x y r2 r3 : Int) (a : Option Addr) (n c : Nat) (w : World) (t0 : decide (f < 0) = false) (t1 : decide (99 < f) = false) (t2 : decide (s < 1) = false) (t3 : inB s = true) (t4 : inB x = true) (t5 : inB y = true) (t6 : ((n : Int) == 0) = false) (hz : (r2 == 0) = false) :
    Calls Tryd.prog 17 #[.agg #[.int .i64 1, .int .i64 f, .int .i64 s, .int .i64 x, .int .i64 y, .slice a n c, .int .i64 0, .int .i64 0, .int .i64 r2, .int .i64 r3]] w fun e w' => e = .returned (.bool false) ∧ Below w.heap.size w w' := by
  have HB := hide ((Below.refl w.heap.size w).alloc (Nat.le_refl _) (.cells #[.int .i64 1, .int .i64 f, .int .i64 s, .int .i64 x, .int .i64 y, .slice a n c, .int .i64 0, .int .i64 0, .int .i64 r2, .int .i64 r3] 38))
  have hzx : ¬ r2 = 0 := by simpa using hz
  have t0x : ¬ f < 0 := by simpa using t0
  have t1x : ¬ 99 < f := by simpa using t1
  have t2x : ¬ s < 1 := by simpa using t2
  have t6x : ¬ (n : Int) = 0 := by simpa using t6
  go_enter Tryd.func17, Tryd.ntmps17
  go_wp2_with (go_at_call 31; refine (rin_any _ _).mono ?_; rintro e w2 ⟨rfl, rfl⟩)
  go_ret
  exact ⟨rfl, HB.out⟩
set_option maxHeartbeats 1000000 in
theorem ro1_10 (f s x y r3 : Int) (a : Option Addr) (n c : Nat) (w : World) (t0 : decide (f < 0) = false) (t1 : decide (99 < f) = false) (t2 : decide (s < 1) = false) (t3 : inB s = true) (t4 : inB x = true) (t5 : inB y = true) (t6 : ((n : Int) == 0) = false) (hz : (r3 == 0) = false) :
    Calls Tryd.prog 17 #[.agg #[.int .i64 1, .int .i64 f, .int .i64 s, .int .i64 x, .int .i64 y, .slice a n c, .int .i64 0, .int .i64 0, .int .i64 0, .int .i64 r3]] w fun e w' => e = .returned (.bool false) ∧ Below w.heap.size w w' := by
  have HB := hide ((Below.refl w.heap.size w).alloc (Nat.le_refl _) (.cells #[.int .i64 1, .int .i64 f, .int .i64 s, .int .i64 x, .int .i64 y, .slice a n c, .int .i64 0, .int .i64 0, .int .i64 0, .int .i64 r3] 38))
  have hzx : ¬ r3 = 0 := by simpa using hz
  have t0x : ¬ f < 0 := by simpa using t0
  have t1x : ¬ 99 < f := by simpa using t1
  have t2x : ¬ s < 1 := by simpa using t2
  have t6x : ¬ (n : Int) = 0 := by simpa using t6
  go_enter Tryd.func17, Tryd.ntmps17
  go_wp2_with (go_at_call 31; refine (rin_any _ _).mono ?_; rintro e w2 ⟨rfl, rfl⟩)
  go_ret
  exact ⟨rfl, HB.out⟩
set_option maxHeartbeats 2000000 in
theorem ro1_11 (f s x y : Int) (a : Option Addr) (n c : Nat) (zs : List Int) (R : Bool) (w : World) (hn : zs.length = n) (h1 : n ≤ 1048576) (hA : Lst w a zs) (hR : (!zs.any noG) = R) (t0 : decide (f < 0) = false) (t1 : decide (99 < f) = false) (t2 : decide (s < 1) = false) (t3 : inB s = true) (t4 : inB x = true) (t5 : inB y = true) (t6 : ((n : Int) == 0) = false) :
    Calls Tryd.prog 17 #[.agg #[.int .i64 1, .int .i64 f, .int .i64 s, .int .i64 x, .int .i64 y, .slice a n c, .int .i64 0, .int .i64 0, .int .i64 0, .int .i64 0]] w fun e w' => e = .returned (.bool R) ∧ Below w.heap.size w w' := by
  have hb := (Below.refl w.heap.size w).alloc (Nat.le_refl _) (.cells #[.int .i64 1, .int .i64 f, .int .i64 s, .int .i64 x, .int .i64 y, .slice a n c, .int .i64 0, .int .i64 0, .int .i64 0, .int .i64 0] 38)
  have HB := hide hb
  have k1 := Blk.new w #[.int .i64 1, .int .i64 f, .int .i64 s, .int .i64 x, .int .i64 y, .slice a n c, .int .i64 0, .int .i64 0, .int .i64 0, .int .i64 0] 38
  have HLS := hide (hA.below hb)
  have z5 := k1.cell 5
  have xlt := k1.lt
  simp only [List.getElem?_toArray, List.getElem?_cons_succ, List.getElem?_cons_zero] at z5
  have Hn := hide hn
  have HR := hide hR
  have h5 : (n : Int) ≤ 1048576 := by omega
  have t0x : ¬ f < 0 := by simpa using t0
  have t1x : ¬ 99 < f := by simpa using t1
  have t2x : ¬ s < 1 := by simpa using t2
  have t6x : ¬ (n : Int) = 0 := by simpa using t6
  clear hb k1 hA hn h1 hR
  go_enter Tryd.func17, Tryd.ntmps17
  go_wp2_with (go_at_call 31; refine (rin_any _ _).mono ?_; rintro e w2 ⟨rfl, rfl⟩)
  obtain ⟨F, hF⟩ : ∃ F, w.heap.size = F := ⟨_, rfl⟩
  generalize w.alloc (.cells #[.int .i64 1, .int .i64 f, .int .i64 s, .int .i64 x, .int .i64 y, .slice a n c, .int .i64 0, .int .i64 0, .int .i64 0, .int .i64 0] 38) = W at *
  rw [hF] at z5 xlt
  simp only [hF]
  have HF := hide hF
  clear hF
  go_loopw [3] (fun vi wr => ∃ (k : Nat), vi = .int .i64 k ∧ wr = W ∧ Hid (k ≤ n ∧ ∀ i, i < k → noG (zs.getD i 0) = false)) (fun vi _ => n - (intOf vi).toNat)
  case atStart => exact ⟨0, rfl, rfl, hide ⟨by omega, fun i hi => by omega⟩⟩
  case round =>
    obtain ⟨k, rfl, hw, HK⟩ := hrel
    replace hw := hw.symm
    subst hw
    have hk0 : (0 : Int) ≤ (k : Int) := by omega
    by_cases hlt : k < n
    · have hlt' : (k : Int) < (n : Int) := by omega
      have hn := Hn.out
      rcases HLS.out with hz | ⟨b1, o1, rfl, hb1, hcell1⟩
      · rw [hz] at hn; simp at hn; omega
      have hc1 := hcell1 k (by omega)
      obtain ⟨g, hg⟩ : ∃ g, zs.getD k 0 = g := ⟨_, rfl⟩
      rw [hg] at hc1
      have HX := hide hg
      clear hcell1 hn hg
      by_cases g0 : g < 0
      · have g0d : decide (g < 0) = true := by simpa using g0
        have hRf : R = false := by
          rw [← HR.out]; simp
          have hl : k < zs.length := by rw [Hn.out]; exact hlt
          refine ⟨g, ?_, by unfold noG; simp [g0]⟩
          rw [← HX.out, List.getD_eq_getElem?_getD, List.getElem?_eq_getElem hl]
          exact List.getElem_mem hl
        subst hRf
        clear HX HK HR
        go_wp2_with fail
        go_ret
        exact ⟨rfl, HB.out⟩
      have g0d : decide (g < 0) = false := by simpa using g0
      by_cases g1 : 65535 < g
      · have g1d : decide (65535 < g) = true := by simpa using g1
        have hRf : R = false := by
          rw [← HR.out]; simp
          have hl : k < zs.length := by rw [Hn.out]; exact hlt
          refine ⟨g, ?_, by unfold noG; simp [g1]⟩
          rw [← HX.out, List.getD_eq_getElem?_getD, List.getElem?_eq_getElem hl]
          exact List.getElem_mem hl
        subst hRf
        clear HX HK HR
        go_wp2_with fail
        go_ret
        exact ⟨rfl, HB.out⟩
      have g1d : decide (65535 < g) = false := by simpa using g1
      have HK2 := hide (show k + 1 ≤ n ∧ ∀ i, i < k + 1 → noG (zs.getD i 0) = false from ⟨by omega, fun i hi => by
        rcases Nat.lt_or_ge i k with h | h
        · exact HK.out.2 i h
        · obtain rfl : i = k := by omega
          rw [HX.out]; unfold noG; rw [g0d, g1d]; rfl⟩)
      clear HX HK
      go_wp2_with fail
      go_roundw
      case rel => exact ⟨k + 1, by go_num, by first | rfl | trivial, HK2⟩
      case measure => simp [intOf]; omega
    · have hlt' : ¬ (k : Int) < (n : Int) := by omega
      have hRt : R = true := by
        rw [← HR.out]; simp
        intro y hy
        obtain ⟨i, hi, rfl⟩ := List.getElem_of_mem hy
        have := HK.out.2 i (by have := Hn.out; omega)
        rw [List.getD_eq_getElem?_getD, List.getElem?_eq_getElem hi] at this
        simpa using this
      subst hRt
      clear HR HK
      go_wp2_with fail
      go_ret
      exact ⟨rfl, HB.out⟩
set_option maxHeartbeats 1000000 in
theorem ro2_f (f s x y r0 r1 r2 r3 : Int) (a : Option Addr) (n c : Nat) (zs : List Int) (w : World) (hn : zs.length = n) (h1 : n ≤ 1048576) (hA : Lst w a zs) (hT : bxB r0 r1 r2 r3 = false) :
    Calls Tryd.prog 17 #[.agg #[.int .i64 2, .int .i64 f, .int .i64 s, .int .i64 x, .int .i64 y, .slice a n c, .int .i64 r0, .int .i64 r1, .int .i64 r2, .int .i64 r3]] w fun e w' => e = .returned (.bool false) ∧ Below w.heap.size w w' := by
  have hb := (Below.refl w.heap.size w).alloc (Nat.le_refl _) (.cells #[.int .i64 2, .int .i64 f, .int .i64 s, .int .i64 x, .int .i64 y, .slice a n c, .int .i64 r0, .int .i64 r1, .int .i64 r2, .int .i64 r3] 38)
  have k1 := Blk.new w #[.int .i64 2, .int .i64 f, .int .i64 s, .int .i64 x, .int .i64 y, .slice a n c, .int .i64 r0, .int .i64 r1, .int .i64 r2, .int .i64 r3] 38
  have C := hide (rboxed_any r0 r1 r2 r3 (w.alloc (.cells #[.int .i64 2, .int .i64 f, .int .i64 s, .int .i64 x, .int .i64 y, .slice a n c, .int .i64 r0, .int .i64 r1, .int .i64 r2, .int .i64 r3] 38)))
  rw [hT] at C
  have HB := hide hb
  have HK := hide k1
  clear hb hA hn h1 hT k1
  go_enter Tryd.func17, Tryd.ntmps17
  go_wp2_with fail
  refine C.out.mono ?_
  rintro e w3 ⟨rfl, h3⟩
  have HB3 := hide (below_t5 HB.out h3)
  have k3 := HK.out.below h3
  have e0 := k3.cell 0
  have e1 := k3.cell 1
  have e2 := k3.cell 2
  have e3 := k3.cell 3
  have e4 := k3.cell 4
  have e5 := k3.cell 5
  have e6 := k3.cell 6
  have e7 := k3.cell 7
  have e8 := k3.cell 8
  have e9 := k3.cell 9
  have xlt := k3.lt
  simp at e0 e1 e2 e3 e4 e5 e6 e7 e8 e9
  clear h3 k3 HK
  go_wp2_with fail
  go_ret
  exact ⟨rfl, HB3.out⟩
set_option maxHeartbeats 1000000 in
theorem ro2_t (f s x y r0 r1 r2 r3 : Int) (a : Option Addr) (n c : Nat) (zs : List Int) (w : World) (hn : zs.length = n) (h1 : n ≤ 1048576) (hA : Lst w a zs) (hT : bxB r0 r1 r2 r3 = true) :
    Calls Tryd.prog 17 #[.agg #[.int .i64 2, .int .i64 f, .int .i64 s, .int .i64 x, .int .i64 y, .slice a n c, .int .i64 r0, .int .i64 r1, .int .i64 r2, .int .i64 r3]] w fun e w' => e = .returned (.bool (alB ⟨2, f, s, x, y, zs, r0, r1, r2, r3⟩ ⟨2, 0, 0, 0, 0, [], r0, r1, r2, r3⟩)) ∧ Below w.heap.size w w' := by
  have hb := (Below.refl w.heap.size w).alloc (Nat.le_refl _) (.cells #[.int .i64 2, .int .i64 f, .int .i64 s, .int .i64 x, .int .i64 y, .slice a n c, .int .i64 r0, .int .i64 r1, .int .i64 r2, .int .i64 r3] 38)
  have k1 := Blk.new w #[.int .i64 2, .int .i64 f, .int .i64 s, .int .i64 x, .int .i64 y, .slice a n c, .int .i64 r0, .int .i64 r1, .int .i64 r2, .int .i64 r3] 38
  have C := hide (rboxed_any r0 r1 r2 r3 (w.alloc (.cells #[.int .i64 2, .int .i64 f, .int .i64 s, .int .i64 x, .int .i64 y, .slice a n c, .int .i64 r0, .int .i64 r1, .int .i64 r2, .int .i64 r3] 38)))
  rw [hT] at C
  have HB := hide hb
  have HK := hide k1
  have CA := hide (fun (u : World) (hu : Below w.heap.size w u) => rone_any ⟨2, f, s, x, y, zs, r0, r1, r2, r3⟩ ⟨2, 0, 0, 0, 0, [], r0, r1, r2, r3⟩ a none n 0 c 0 u hn rfl h1 (by omega) (hA.below hu) (Or.inl rfl))
  simp only [mcs] at CA
  generalize alB ⟨2, f, s, x, y, zs, r0, r1, r2, r3⟩ ⟨2, 0, 0, 0, 0, [], r0, r1, r2, r3⟩ = R at CA
  clear hb hA hn h1 hT k1
  go_enter Tryd.func17, Tryd.ntmps17
  go_wp2_with fail
  refine C.out.mono ?_
  rintro e w3 ⟨rfl, h3⟩
  have HB3 := hide (below_t5 HB.out h3)
  have k3 := HK.out.below h3
  have e0 := k3.cell 0
  have e1 := k3.cell 1
  have e2 := k3.cell 2
  have e3 := k3.cell 3
  have e4 := k3.cell 4
  have e5 := k3.cell 5
  have e6 := k3.cell 6
  have e7 := k3.cell 7
  have e8 := k3.cell 8
  have e9 := k3.cell 9
  have xlt := k3.lt
  simp at e0 e1 e2 e3 e4 e5 e6 e7 e8 e9
  clear h3 k3 HK
  go_wp2_with fail
  refine (CA.out _ HB3.out).mono ?_
  rintro e w4 ⟨rfl, h4⟩
  have HB4 := hide (below_t5 HB3.out h4)
  clear h4
  go_wp2_with fail
  go_ret
  exact ⟨rfl, HB4.out⟩
set_option maxHeartbeats 1000000 in
theorem ro3_f (f s x y r0 r1 r2 r3 : Int) (a : Option Addr) (n c : Nat) (zs : List Int) (w : World) (hn : zs.length = n) (h1 : n ≤ 1048576) (hA : Lst w a zs) (hT : bxB r0 r1 r2 r3 = false) :
    Calls Tryd.prog 17 #[.agg #[.int .i64 3, .int .i64 f, .int .i64 s, .int .i64 x, .int .i64 y, .slice a n c, .int .i64 r0, .int .i64 r1, .int .i64 r2, .int .i64 r3]] w fun e w' => e = .returned (.bool false) ∧ Below w.heap.size w w' := by
  have hb := (Below.refl w.heap.size w).alloc (Nat.le_refl _) (.cells #[.int .i64 3, .int .i64 f, .int .i64 s, .int .i64 x, .int .i64 y, .slice a n c, .int .i64 r0, .int .i64 r1, .int .i64 r2, .int .i64 r3] 38)
  have k1 := Blk.new w #[.int .i64 3, .int .i64 f, .int .i64 s, .int .i64 x, .int .i64 y, .slice a n c, .int .i64 r0, .int .i64 r1, .int .i64 r2, .int .i64 r3] 38
  have C := hide (rboxed_any r0 r1 r2 r3 (w.alloc (.cells #[.int .i64 3, .int .i64 f, .int .i64 s, .int .i64 x, .int .i64 y, .slice a n c, .int .i64 r0, .int .i64 r1, .int .i64 r2, .int .i64 r3] 38)))
  rw [hT] at C
  have HB := hide hb
  have HK := hide k1
  clear hb hA hn h1 hT k1
  go_enter Tryd.func17, Tryd.ntmps17
  go_wp2_with fail
  refine C.out.mono ?_
  rintro e w3 ⟨rfl, h3⟩
  have HB3 := hide (below_t5 HB.out h3)
  have k3 := HK.out.below h3
  have e0 := k3.cell 0
  have e1 := k3.cell 1
  have e2 := k3.cell 2
  have e3 := k3.cell 3
  have e4 := k3.cell 4
  have e5 := k3.cell 5
  have e6 := k3.cell 6
  have e7 := k3.cell 7
  have e8 := k3.cell 8
  have e9 := k3.cell 9
  have xlt := k3.lt
  simp at e0 e1 e2 e3 e4 e5 e6 e7 e8 e9
  clear h3 k3 HK
  go_wp2_with fail
  go_ret
  exact ⟨rfl, HB3.out⟩
set_option maxHeartbeats 1000000 in
theorem ro3_t (f s x y r0 r1 r2 r3 : Int) (a : Option Addr) (n c : Nat) (zs : List Int) (w : World) (hn : zs.length = n) (h1 : n ≤ 1048576) (hA : Lst w a zs) (hT : bxB r0 r1 r2 r3 = true) :
    Calls Tryd.prog 17 #[.agg #[.int .i64 3, .int .i64 f, .int .i64 s, .int .i64 x, .int .i64 y, .slice a n c, .int .i64 r0, .int .i64 r1, .int .i64 r2, .int .i64 r3]] w fun e w' => e = .returned (.bool (alB ⟨3, f, s, x, y, zs, r0, r1, r2, r3⟩ ⟨3, 0, 0, 0, 0, [], r0, r1, r2, r3⟩)) ∧ Below w.heap.size w w' := by
  have hb := (Below.refl w.heap.size w).alloc (Nat.le_refl _) (.cells #[.int .i64 3, .int .i64 f, .int .i64 s, .int .i64 x, .int .i64 y, .slice a n c, .int .i64 r0, .int .i64 r1, .int .i64 r2, .int .i64 r3] 38)
  have k1 := Blk.new w #[.int .i64 3, .int .i64 f, .int .i64 s, .int .i64 x, .int .i64 y, .slice a n c, .int .i64 r0, .int .i64 r1, .int .i64 r2, .int .i64 r3] 38
  have C := hide (rboxed_any r0 r1 r2 r3 (w.alloc (.cells #[.int .i64 3, .int .i64 f, .int .i64 s, .int .i64 x, .int .i64 y, .slice a n c, .int .i64 r0, .int .i64 r1, .int .i64 r2, .int .i64 r3] 38)))
  rw [hT] at C
  have HB := hide hb
  have HK := hide k1
  have CA := hide (fun (u : World) (hu : Below w.heap.size w u) => rone_any ⟨3, f, s, x, y, zs, r0, r1, r2, r3⟩ ⟨3, 0, 0, 0, 0, [], r0, r1, r2, r3⟩ a none n 0 c 0 u hn rfl h1 (by omega) (hA.below hu) (Or.inl rfl))
  simp only [mcs] at CA
  generalize alB ⟨3, f, s, x, y, zs, r0, r1, r2, r3⟩ ⟨3, 0, 0, 0, 0, [], r0, r1, r2, r3⟩ = R at CA
  clear hb hA hn h1 hT k1
  go_enter Tryd.func17, Tryd.ntmps17
  go_wp2_with fail
  refine C.out.mono ?_
  rintro e w3 ⟨rfl, h3⟩
  have HB3 := hide (below_t5 HB.out h3)
  have k3 := HK.out.below h3
  have e0 := k3.cell 0
  have e1 := k3.cell 1
  have e2 := k3.cell 2
  have e3 := k3.cell 3
  have e4 := k3.cell 4
  have e5 := k3.cell 5
  have e6 := k3.cell 6
  have e7 := k3.cell 7
  have e8 := k3.cell 8
  have e9 := k3.cell 9
  have xlt := k3.lt
  simp at e0 e1 e2 e3 e4 e5 e6 e7 e8 e9
  clear h3 k3 HK
  go_wp2_with fail
  refine (CA.out _ HB3.out).mono ?_
  rintro e w4 ⟨rfl, h4⟩
  have HB4 := hide (below_t5 HB3.out h4)
  clear h4
  go_wp2_with fail
  go_ret
  exact ⟨rfl, HB4.out⟩
set_option maxHeartbeats 1000000 in
theorem ro4 (f s x y r0 r1 r2 r3 : Int) (a : Option Addr) (n c : Nat) (zs : List Int) (w : World) (hn : zs.length = n) (h1 : n ≤ 1048576) (hA : Lst w a zs) :
    Calls Tryd.prog 17 #[.agg #[.int .i64 4, .int .i64 f, .int .i64 s, .int .i64 x, .int .i64 y, .slice a n c, .int .i64 r0, .int .i64 r1, .int .i64 r2, .int .i64 r3]] w fun e w' => e = .returned (.bool (alB ⟨4, f, s, x, y, zs, r0, r1, r2, r3⟩ ⟨4, 0, 0, 0, 0, [], 0, 0, 0, 0⟩)) ∧ Below w.heap.size w w' := by
  have hb := (Below.refl w.heap.size w).alloc (Nat.le_refl _) (.cells #[.int .i64 4, .int .i64 f, .int .i64 s, .int .i64 x, .int .i64 y, .slice a n c, .int .i64 r0, .int .i64 r1, .int .i64 r2, .int .i64 r3] 38)
  have HB := hide hb
  have CA := hide (fun (u : World) (hu : Below w.heap.size w u) => rone_any ⟨4, f, s, x, y, zs, r0, r1, r2, r3⟩ ⟨4, 0, 0, 0, 0, [], 0, 0, 0, 0⟩ a none n 0 c 0 u hn rfl h1 (by omega) (hA.below hu) (Or.inl rfl))
  simp only [mcs] at CA
  generalize alB ⟨4, f, s, x, y, zs, r0, r1, r2, r3⟩ ⟨4, 0, 0, 0, 0, [], 0, 0, 0, 0⟩ = R at CA
  clear hb hA hn h1
  go_enter Tryd.func17, Tryd.ntmps17
  go_wp2_with fail
  refine (CA.out _ HB.out).mono ?_
  rintro e w4 ⟨rfl, h4⟩
  have HB4 := hide (below_t5 HB.out h4)
  clear h4
  go_wp2_with fail
  go_ret
  exact ⟨rfl, HB4.out⟩
set_option maxHeartbeats 1000000 in
theorem ro0 (k f s x y r0 r1 r2 r3 : Int) (a : Option Addr) (n c : Nat) (w : World) (g1 : (k == 1) = false) (g2 : (k == 2) = false) (g3 : (k == 3) = false) (g4 : (k == 4) = false) :
    Calls Tryd.prog 17 #[.agg #[.int .i64 k, .int .i64 f, .int .i64 s, .int .i64 x, .int .i64 y, .slice a n c, .int .i64 r0, .int .i64 r1, .int .i64 r2, .int .i64 r3]] w fun e w' => e = .returned (.bool false) ∧ Below w.heap.size w w' := by
  have HB := hide ((Below.refl w.heap.size w).alloc (Nat.le_refl _) (.cells #[.int .i64 k, .int .i64 f, .int .i64 s, .int .i64 x, .int .i64 y, .slice a n c, .int .i64 r0, .int .i64 r1, .int .i64 r2, .int .i64 r3] 38))
  go_enter Tryd.func17, Tryd.ntmps17
  go_wp2_with fail
  go_ret
  exact ⟨rfl, HB.out⟩
theorem ronem_any (m : Mk) (a : Option Addr) (n c : Nat) (w : World) (hn : m.gs.length = n) (h1 : n ≤ 1048576) (hA : Lst w a m.gs) :
    Calls Tryd.prog 17 #[.agg (mcs m (.slice a n c))] w fun e w' => e = .returned (.bool (oneB m)) ∧ Below w.heap.size w w' := by
  obtain ⟨k, f, s, x, y, zs, r0, r1, r2, r3⟩ := m
  simp only [mcs, oneB] at *
  by_cases g1 : k = 1
  · subst g1
    rw [if_pos rfl]
    simp only [tB]
    cases t0 : decide (f < 0)
    rotate_left
    · rw [show decide (0 ≤ f) = false from decide_eq_false (by simp at t0; omega)]
      simp only [Bool.false_and, Bool.and_false]
      exact ro1_0 f s x y r0 r1 r2 r3 a n c w t0
    rw [show decide (0 ≤ f) = true from decide_eq_true (by simp at t0; omega)]
    simp only [Bool.true_and]
    cases t1 : decide (99 < f)
    rotate_left
    · rw [show decide (f ≤ 99) = false from decide_eq_false (by simp at t1; omega)]
      simp only [Bool.false_and, Bool.and_false]
      exact ro1_1 f s x y r0 r1 r2 r3 a n c w t0 t1
    rw [show decide (f ≤ 99) = true from decide_eq_true (by simp at t1; omega)]
    simp only [Bool.true_and]
    cases t2 : decide (s < 1)
    rotate_left
    · rw [show decide (1 ≤ s) = false from decide_eq_false (by simp at t2; omega)]
      simp only [Bool.false_and, Bool.and_false]
      exact ro1_2 f s x y r0 r1 r2 r3 a n c w t0 t1 t2
    rw [show decide (1 ≤ s) = true from decide_eq_true (by simp at t2; omega)]
    simp only [Bool.true_and]
    cases t3 : inB s
    · simp only [Bool.false_and, Bool.and_false]
      exact ro1_3 f s x y r0 r1 r2 r3 a n c w t0 t1 t2 t3
    simp only [Bool.true_and]
    cases t4 : inB x
    · simp only [Bool.false_and, Bool.and_false]
      exact ro1_4 f s x y r0 r1 r2 r3 a n c w t0 t1 t2 t3 t4
    simp only [Bool.true_and]
    cases t5 : inB y
    · simp only [Bool.false_and, Bool.and_false]
      exact ro1_5 f s x y r0 r1 r2 r3 a n c w t0 t1 t2 t3 t4 t5
    simp only [Bool.true_and]
    cases t6 : ((n : Int) == 0)
    rotate_left
    · rw [show decide (0 < zs.length) = false from decide_eq_false (by simp at t6; omega)]
      simp only [Bool.false_and, Bool.and_false]
      exact ro1_6 f s x y r0 r1 r2 r3 a n c w t0 t1 t2 t3 t4 t5 t6
    rw [show decide (0 < zs.length) = true from decide_eq_true (by simp at t6; omega)]
    simp only [Bool.true_and]
    unfold z4
    cases z0 : r0 == 0
    · simp only [Bool.false_and, Bool.and_false]
      exact ro1_7 f s x y r0 r1 r2 r3 a n c w t0 t1 t2 t3 t4 t5 t6 z0
    obtain rfl : r0 = 0 := by simpa using z0
    try simp only [Bool.true_and]
    cases z1 : r1 == 0
    · simp only [Bool.false_and, Bool.and_false]
      exact ro1_8 f s x y r1 r2 r3 a n c w t0 t1 t2 t3 t4 t5 t6 z1
    obtain rfl : r1 = 0 := by simpa using z1
    try simp only [Bool.true_and]
    cases z2 : r2 == 0
    · simp only [Bool.false_and, Bool.and_false]
      exact ro1_9 f s x y r2 r3 a n c w t0 t1 t2 t3 t4 t5 t6 z2
    obtain rfl : r2 = 0 := by simpa using z2
    try simp only [Bool.true_and]
    cases z3 : r3 == 0
    · simp only [Bool.false_and, Bool.and_false]
      exact ro1_10 f s x y r3 a n c w t0 t1 t2 t3 t4 t5 t6 z3
    obtain rfl : r3 = 0 := by simpa using z3
    try simp only [Bool.true_and]
    rw [Bool.and_true]
    exact ro1_11 f s x y a n c zs _ w hn h1 hA rfl t0 t1 t2 t3 t4 t5 t6 
  rw [if_neg g1]
  by_cases g2 : k = 2
  · subst g2
    rw [if_pos (Or.inl rfl)]
    cases hT : bxB r0 r1 r2 r3
    · rw [Bool.false_and]
      exact ro2_f f s x y r0 r1 r2 r3 a n c zs w hn h1 hA hT
    rw [Bool.true_and]
    exact ro2_t f s x y r0 r1 r2 r3 a n c zs w hn h1 hA hT
  by_cases g3 : k = 3
  · subst g3
    rw [if_pos (Or.inr rfl)]
    cases hT : bxB r0 r1 r2 r3
    · rw [Bool.false_and]
      exact ro3_f f s x y r0 r1 r2 r3 a n c zs w hn h1 hA hT
    rw [Bool.true_and]
    exact ro3_t f s x y r0 r1 r2 r3 a n c zs w hn h1 hA hT
  rw [if_neg (by omega)]
  by_cases g4 : k = 4
  · subst g4
    rw [if_pos rfl]
    exact ro4 f s x y r0 r1 r2 r3 a n c zs w hn h1 hA
  rw [if_neg g4]
  exact ro0 k f s x y r0 r1 r2 r3 a n c w (by simpa using g1) (by simpa using g2) (by simpa using g3) (by simpa using g4)
end Go.Proofs.YthhhepbflggojaaDoor.E15
