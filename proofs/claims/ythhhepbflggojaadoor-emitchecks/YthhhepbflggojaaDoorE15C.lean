/-
  What the landed ifIn, Sub, mayText, mayBox, may answer.
-/
import Derived.Test.YthhhepbflggojaaDoorE15B
import Derived.Test.YthhhepbflggojaaDoorInL
import Derived.Test.YthhhepbflggojaaDoorInR
import Derived.Test.YthhhepbflggojaaDoorR3May
import Derived.Test.YthhhepbflggojaaDoorR3RMay
namespace Go.Proofs.YthhhepbflggojaaDoor.E15
open Go.RowKit Go.Deep
set_option linter.unusedVariables false
set_option linter.unusedSimpArgs false
set_option maxRecDepth 8000

def tol (b : Bool) (x : Int) : Int := if b then x else 0
theorem ifin_any (x : Int) (w : World) : Calls Tryd.prog 52 #[.int .i64 x] w fun e w' => e = .returned (.tuple #[.int .i64 (tol (inB x) x), .bool (inB x)]) ∧ w' = w := by
  cases h : inB x
  all_goals (
    simp only [tol]
    go_enter Tryd.func52, Tryd.ntmps52
    go_wp2_with (go_at_call 40; refine (in_any _ _).mono ?_; rintro e w2 ⟨rfl, rfl⟩)
    go_ret2
    exact ⟨rfl, rfl⟩)
theorem sub_any (a b : Int) (w : World) : Calls Tryd.prog 43 #[.int .i64 a, .int .i64 b] w fun e w' => (∃ z : Int, e = .returned (.tuple #[.int .i64 z, .bool (subB a b)])) ∧ w' = w := by
  unfold subB
  cases h0 : inB a
  · simp only [Bool.false_and]
    go_enter Tryd.func43, Tryd.ntmps43
    go_wp2_with (go_at_call 40; refine (in_any _ _).mono ?_; rintro e w2 ⟨rfl, rfl⟩)
    go_ret2
    exact ⟨⟨_, rfl⟩, rfl⟩
  cases h1 : inB b
  · simp only [Bool.true_and, Bool.false_and]
    go_enter Tryd.func43, Tryd.ntmps43
    go_wp2_with (go_at_call 40; refine (in_any _ _).mono ?_; rintro e w2 ⟨rfl, rfl⟩)
    go_ret2
    exact ⟨⟨_, rfl⟩, rfl⟩
  simp only [Bool.true_and]
  have b0 := inB_bd h0
  have b1 := inB_bd h1
  obtain ⟨l0, u0⟩ := b0
  obtain ⟨l1, u1⟩ := b1
  have C := hide (ifin_any (a - b) w)
  generalize hz : tol (inB (a - b)) (a - b) = Z at C
  generalize inB (a - b) = R at C
  clear hz
  go_enter Tryd.func43, Tryd.ntmps43
  go_wp2_with (go_at_call 40; refine (in_any _ _).mono ?_; rintro e w2 ⟨rfl, rfl⟩)
  refine C.out.mono ?_
  rintro e w3 ⟨rfl, rfl⟩
  go_wp2_with fail
  go_ret2
  exact ⟨⟨_, rfl⟩, rfl⟩
set_option maxHeartbeats 1000000 in
theorem mt_0 (k f s x y r0 r1 r2 r3 : Int) (a : Option Addr) (n c : Nat) (w : World)  (hf0 : decide (0 ≤ f) = false) :
    Calls Tryd.prog 29 #[.agg #[.int .i64 k, .int .i64 f, .int .i64 s, .int .i64 x, .int .i64 y, .slice a n c, .int .i64 r0, .int .i64 r1, .int .i64 r2, .int .i64 r3]] w fun e w' => e = .returned (.bool false) ∧ Below w.heap.size w w' := by
  have HB := hide ((Below.refl w.heap.size w).alloc (Nat.le_refl _) (.cells #[.int .i64 k, .int .i64 f, .int .i64 s, .int .i64 x, .int .i64 y, .slice a n c, .int .i64 r0, .int .i64 r1, .int .i64 r2, .int .i64 r3] 38))
  have hf0x : ¬ (0 ≤ f) := by have := of_decide_eq_false hf0; omega
  have hf0d : decide (0 ≤ f) = false := decide_eq_false hf0x
  go_enter Tryd.func29, Tryd.ntmps29
  go_wp2_with fail
  go_ret
  exact ⟨rfl, HB.out⟩
set_option maxHeartbeats 1000000 in
theorem mt_1 (k f s x y r0 r1 r2 r3 : Int) (a : Option Addr) (n c : Nat) (w : World) (hf0 : decide (0 ≤ f) = true) (hf1 : decide (f ≤ 99) = false) :
    Calls Tryd.prog 29 #[.agg #[.int .i64 k, .int .i64 f, .int .i64 s, .int .i64 x, .int .i64 y, .slice a n c, .int .i64 r0, .int .i64 r1, .int .i64 r2, .int .i64 r3]] w fun e w' => e = .returned (.bool false) ∧ Below w.heap.size w w' := by
  have HB := hide ((Below.refl w.heap.size w).alloc (Nat.le_refl _) (.cells #[.int .i64 k, .int .i64 f, .int .i64 s, .int .i64 x, .int .i64 y, .slice a n c, .int .i64 r0, .int .i64 r1, .int .i64 r2, .int .i64 r3] 38))
  have hf0x : 0 ≤ f := by have := of_decide_eq_true hf0; omega
  have hf0d : decide (0 ≤ f) = true := decide_eq_true hf0x
  have hf1x : ¬ (f ≤ 99) := by have := of_decide_eq_false hf1; omega
  have hf1d : decide (f ≤ 99) = false := decide_eq_false hf1x
  go_enter Tryd.func29, Tryd.ntmps29
  go_wp2_with fail
  go_ret
  exact ⟨rfl, HB.out⟩
set_option maxHeartbeats 1000000 in
theorem mt_2 (k f s x y r0 r1 r2 r3 : Int) (a : Option Addr) (n c : Nat) (w : World) (hf0 : decide (0 ≤ f) = true) (hf1 : decide (f ≤ 99) = true) (hs : decide (1 ≤ s) = false) :
    Calls Tryd.prog 29 #[.agg #[.int .i64 k, .int .i64 f, .int .i64 s, .int .i64 x, .int .i64 y, .slice a n c, .int .i64 r0, .int .i64 r1, .int .i64 r2, .int .i64 r3]] w fun e w' => e = .returned (.bool false) ∧ Below w.heap.size w w' := by
  have HB := hide ((Below.refl w.heap.size w).alloc (Nat.le_refl _) (.cells #[.int .i64 k, .int .i64 f, .int .i64 s, .int .i64 x, .int .i64 y, .slice a n c, .int .i64 r0, .int .i64 r1, .int .i64 r2, .int .i64 r3] 38))
  have hf0x : 0 ≤ f := by have := of_decide_eq_true hf0; omega
  have hf0d : decide (0 ≤ f) = true := decide_eq_true hf0x
  have hf1x : f ≤ 99 := by have := of_decide_eq_true hf1; omega
  have hf1d : decide (f ≤ 99) = true := decide_eq_true hf1x
  have hsx : ¬ (1 ≤ s) := by have := of_decide_eq_false hs; omega
  have hsd : decide (1 ≤ s) = false := decide_eq_false hsx
  go_enter Tryd.func29, Tryd.ntmps29
  go_wp2_with fail
  go_ret
  exact ⟨rfl, HB.out⟩
set_option maxHeartbeats 1000000 in
theorem mt_3 (k f s x y r0 r1 r2 r3 : Int) (a : Option Addr) (n c : Nat) (w : World) (hf0 : decide (0 ≤ f) = true) (hf1 : decide (f ≤ 99) = true) (hs : decide (1 ≤ s) = true) (is : inB s = false) :
    Calls Tryd.prog 29 #[.agg #[.int .i64 k, .int .i64 f, .int .i64 s, .int .i64 x, .int .i64 y, .slice a n c, .int .i64 r0, .int .i64 r1, .int .i64 r2, .int .i64 r3]] w fun e w' => e = .returned (.bool false) ∧ Below w.heap.size w w' := by
  have HB := hide ((Below.refl w.heap.size w).alloc (Nat.le_refl _) (.cells #[.int .i64 k, .int .i64 f, .int .i64 s, .int .i64 x, .int .i64 y, .slice a n c, .int .i64 r0, .int .i64 r1, .int .i64 r2, .int .i64 r3] 38))
  have hf0x : 0 ≤ f := by have := of_decide_eq_true hf0; omega
  have hf0d : decide (0 ≤ f) = true := decide_eq_true hf0x
  have hf1x : f ≤ 99 := by have := of_decide_eq_true hf1; omega
  have hf1d : decide (f ≤ 99) = true := decide_eq_true hf1x
  have hsx : 1 ≤ s := by have := of_decide_eq_true hs; omega
  have hsd : decide (1 ≤ s) = true := decide_eq_true hsx
  go_enter Tryd.func29, Tryd.ntmps29
  go_wp2_with (go_at_call 40; refine (in_any _ _).mono ?_; rintro e w2 ⟨rfl, rfl⟩)
  go_ret
  exact ⟨rfl, HB.out⟩
set_option maxHeartbeats 1000000 in
theorem mt_4 (k f s x y r0 r1 r2 r3 : Int) (a : Option Addr) (n c : Nat) (w : World) (hf0 : decide (0 ≤ f) = true) (hf1 : decide (f ≤ 99) = true) (hs : decide (1 ≤ s) = true) (is : inB s = true) (ix : inB x = false) :
    Calls Tryd.prog 29 #[.agg #[.int .i64 k, .int .i64 f, .int .i64 s, .int .i64 x, .int .i64 y, .slice a n c, .int .i64 r0, .int .i64 r1, .int .i64 r2, .int .i64 r3]] w fun e w' => e = .returned (.bool false) ∧ Below w.heap.size w w' := by
  have HB := hide ((Below.refl w.heap.size w).alloc (Nat.le_refl _) (.cells #[.int .i64 k, .int .i64 f, .int .i64 s, .int .i64 x, .int .i64 y, .slice a n c, .int .i64 r0, .int .i64 r1, .int .i64 r2, .int .i64 r3] 38))
  have hf0x : 0 ≤ f := by have := of_decide_eq_true hf0; omega
  have hf0d : decide (0 ≤ f) = true := decide_eq_true hf0x
  have hf1x : f ≤ 99 := by have := of_decide_eq_true hf1; omega
  have hf1d : decide (f ≤ 99) = true := decide_eq_true hf1x
  have hsx : 1 ≤ s := by have := of_decide_eq_true hs; omega
  have hsd : decide (1 ≤ s) = true := decide_eq_true hsx
  go_enter Tryd.func29, Tryd.ntmps29
  go_wp2_with (go_at_call 40; refine (in_any _ _).mono ?_; rintro e w2 ⟨rfl, rfl⟩)
  go_ret
  exact ⟨rfl, HB.out⟩
set_option maxHeartbeats 1000000 in
theorem mt_5 (k f s x y r0 r1 r2 r3 : Int) (a : Option Addr) (n c : Nat) (w : World) (hf0 : decide (0 ≤ f) = true) (hf1 : decide (f ≤ 99) = true) (hs : decide (1 ≤ s) = true) (is : inB s = true) (ix : inB x = true) (iy : inB y = false) :
    Calls Tryd.prog 29 #[.agg #[.int .i64 k, .int .i64 f, .int .i64 s, .int .i64 x, .int .i64 y, .slice a n c, .int .i64 r0, .int .i64 r1, .int .i64 r2, .int .i64 r3]] w fun e w' => e = .returned (.bool false) ∧ Below w.heap.size w w' := by
  have HB := hide ((Below.refl w.heap.size w).alloc (Nat.le_refl _) (.cells #[.int .i64 k, .int .i64 f, .int .i64 s, .int .i64 x, .int .i64 y, .slice a n c, .int .i64 r0, .int .i64 r1, .int .i64 r2, .int .i64 r3] 38))
  have hf0x : 0 ≤ f := by have := of_decide_eq_true hf0; omega
  have hf0d : decide (0 ≤ f) = true := decide_eq_true hf0x
  have hf1x : f ≤ 99 := by have := of_decide_eq_true hf1; omega
  have hf1d : decide (f ≤ 99) = true := decide_eq_true hf1x
  have hsx : 1 ≤ s := by have := of_decide_eq_true hs; omega
  have hsd : decide (1 ≤ s) = true := decide_eq_true hsx
  go_enter Tryd.func29, Tryd.ntmps29
  go_wp2_with (go_at_call 40; refine (in_any _ _).mono ?_; rintro e w2 ⟨rfl, rfl⟩)
  go_ret
  exact ⟨rfl, HB.out⟩
set_option maxHeartbeats 1000000 in
theorem mt_6 (k f s x y r0 r1 r2 r3 : Int) (a : Option Addr) (n c : Nat) (w : World) (hf0 : decide (0 ≤ f) = true) (hf1 : decide (f ≤ 99) = true) (hs : decide (1 ≤ s) = true) (is : inB s = true) (ix : inB x = true) (iy : inB y = true) (hn0 : decide (0 < n) = false) :
    Calls Tryd.prog 29 #[.agg #[.int .i64 k, .int .i64 f, .int .i64 s, .int .i64 x, .int .i64 y, .slice a n c, .int .i64 r0, .int .i64 r1, .int .i64 r2, .int .i64 r3]] w fun e w' => e = .returned (.bool false) ∧ Below w.heap.size w w' := by
  have HB := hide ((Below.refl w.heap.size w).alloc (Nat.le_refl _) (.cells #[.int .i64 k, .int .i64 f, .int .i64 s, .int .i64 x, .int .i64 y, .slice a n c, .int .i64 r0, .int .i64 r1, .int .i64 r2, .int .i64 r3] 38))
  have hf0x : 0 ≤ f := by have := of_decide_eq_true hf0; omega
  have hf0d : decide (0 ≤ f) = true := decide_eq_true hf0x
  have hf1x : f ≤ 99 := by have := of_decide_eq_true hf1; omega
  have hf1d : decide (f ≤ 99) = true := decide_eq_true hf1x
  have hsx : 1 ≤ s := by have := of_decide_eq_true hs; omega
  have hsd : decide (1 ≤ s) = true := decide_eq_true hsx
  have hn0x : ¬ ((0 : Int) < (n : Int)) := by have := of_decide_eq_false hn0; omega
  have hn0d : decide ((0 : Int) < (n : Int)) = false := decide_eq_false hn0x
  go_enter Tryd.func29, Tryd.ntmps29
  go_wp2_with (go_at_call 40; refine (in_any _ _).mono ?_; rintro e w2 ⟨rfl, rfl⟩)
  go_ret
  exact ⟨rfl, HB.out⟩
set_option maxHeartbeats 1000000 in
theorem mt_7 (k f s x y r0 r1 r2 r3 : Int) (a : Option Addr) (n c : Nat) (zs : List Int) (w : World) (hn : zs.length = n) (h1 : n ≤ 1048576) (hA : Lst w a zs) (hf0 : decide (0 ≤ f) = true) (hf1 : decide (f ≤ 99) = true) (hs : decide (1 ≤ s) = true) (is : inB s = true) (ix : inB x = true) (iy : inB y = true) (hn0 : decide (0 < n) = true) :
    Calls Tryd.prog 29 #[.agg #[.int .i64 k, .int .i64 f, .int .i64 s, .int .i64 x, .int .i64 y, .slice a n c, .int .i64 r0, .int .i64 r1, .int .i64 r2, .int .i64 r3]] w fun e w' => e = .returned (.bool (!zs.any noG)) ∧ Below w.heap.size w w' := by
  have hb := (Below.refl w.heap.size w).alloc (Nat.le_refl _) (.cells #[.int .i64 k, .int .i64 f, .int .i64 s, .int .i64 x, .int .i64 y, .slice a n c, .int .i64 r0, .int .i64 r1, .int .i64 r2, .int .i64 r3] 38)
  have HB := hide hb
  have C := hide (contains_any a n c zs _ hn h1 (hA.below hb))
  generalize zs.any noG = R at C
  have hf0x : 0 ≤ f := by have := of_decide_eq_true hf0; omega
  have hf0d : decide (0 ≤ f) = true := decide_eq_true hf0x
  have hf1x : f ≤ 99 := by have := of_decide_eq_true hf1; omega
  have hf1d : decide (f ≤ 99) = true := decide_eq_true hf1x
  have hsx : 1 ≤ s := by have := of_decide_eq_true hs; omega
  have hsd : decide (1 ≤ s) = true := decide_eq_true hsx
  have hn0x : (0 : Int) < (n : Int) := by have := of_decide_eq_true hn0; omega
  have hn0d : decide ((0 : Int) < (n : Int)) = true := decide_eq_true hn0x
  clear hb hA hn h1
  go_enter Tryd.func29, Tryd.ntmps29
  go_wp2_with (go_at_call 40; refine (in_any _ _).mono ?_; rintro e w2 ⟨rfl, rfl⟩)
  refine C.out.mono ?_
  rintro e w3 ⟨rfl, rfl⟩
  go_wp2_with fail
  go_ret
  exact ⟨rfl, HB.out⟩
theorem mayText_any (m : Mk) (a : Option Addr) (n c : Nat) (w : World) (hn : m.gs.length = n) (h1 : n ≤ 1048576) (hA : Lst w a m.gs) :
    Calls Tryd.prog 29 #[.agg (mcs m (.slice a n c))] w fun e w' => e = .returned (.bool (tB m)) ∧ Below w.heap.size w w' := by
  obtain ⟨k, f, s, x, y, zs, r0, r1, r2, r3⟩ := m
  simp only [mcs, tB] at *
  rw [hn]
  cases hf0 : decide (0 ≤ f)
  · simp only [Bool.false_and]
    exact mt_0 k f s x y r0 r1 r2 r3 a n c w  hf0
  simp only [Bool.true_and]
  cases hf1 : decide (f ≤ 99)
  · simp only [Bool.false_and]
    exact mt_1 k f s x y r0 r1 r2 r3 a n c w hf0 hf1
  simp only [Bool.true_and]
  cases hs : decide (1 ≤ s)
  · simp only [Bool.false_and]
    exact mt_2 k f s x y r0 r1 r2 r3 a n c w hf0 hf1 hs
  simp only [Bool.true_and]
  cases is : inB s
  · simp only [Bool.false_and]
    exact mt_3 k f s x y r0 r1 r2 r3 a n c w hf0 hf1 hs is
  simp only [Bool.true_and]
  cases ix : inB x
  · simp only [Bool.false_and]
    exact mt_4 k f s x y r0 r1 r2 r3 a n c w hf0 hf1 hs is ix
  simp only [Bool.true_and]
  cases iy : inB y
  · simp only [Bool.false_and]
    exact mt_5 k f s x y r0 r1 r2 r3 a n c w hf0 hf1 hs is ix iy
  simp only [Bool.true_and]
  cases hn0 : decide (0 < n)
  · simp only [Bool.false_and]
    exact mt_6 k f s x y r0 r1 r2 r3 a n c w hf0 hf1 hs is ix iy hn0
  simp only [Bool.true_and]
  exact mt_7 k f s x y r0 r1 r2 r3 a n c zs w hn h1 hA hf0 hf1 hs is ix iy hn0
set_option maxHeartbeats 1000000 in
theorem mayBox_any (r0 r1 r2 r3 : Int) (w : World) : Calls Tryd.prog 30 #[.agg #[.int .i64 r0, .int .i64 r1, .int .i64 r2, .int .i64 r3]] w fun e w' => e = .returned (.bool (bxB r0 r1 r2 r3)) ∧ Below w.heap.size w w' := by
  have hb := (Below.refl w.heap.size w).alloc (Nat.le_refl _) (.cells #[.int .i64 r0, .int .i64 r1, .int .i64 r2, .int .i64 r3] 36)
  have HB := hide hb
  unfold bxB
  have C1 := hide (sub_any r2 r0)
  have C2 := hide (sub_any r3 r1)
  have C3 := hide (R3.may_any r0 r1 r2 r3)
  generalize subB r2 r0 = A at *
  generalize subB r3 r1 = B at *
  generalize R3.mayB r0 r1 r2 r3 = M at *
  clear hb
  cases A
  · go_enter Tryd.func30, Tryd.ntmps30
    go_wp2_with fail
    refine (C1.out _).mono ?_
    rintro e w1 ⟨⟨z1, rfl⟩, rfl⟩
    go_wp2_with fail
    refine (C2.out _).mono ?_
    rintro e w2 ⟨⟨z2, rfl⟩, rfl⟩
    go_wp2_with fail
    go_ret
    exact ⟨rfl, HB.out⟩
  cases B
  · go_enter Tryd.func30, Tryd.ntmps30
    go_wp2_with fail
    refine (C1.out _).mono ?_
    rintro e w1 ⟨⟨z1, rfl⟩, rfl⟩
    go_wp2_with fail
    refine (C2.out _).mono ?_
    rintro e w2 ⟨⟨z2, rfl⟩, rfl⟩
    go_wp2_with fail
    go_ret
    exact ⟨rfl, HB.out⟩
  go_enter Tryd.func30, Tryd.ntmps30
  go_wp2_with fail
  refine (C1.out _).mono ?_
  rintro e w1 ⟨⟨z1, rfl⟩, rfl⟩
  go_wp2_with fail
  refine (C2.out _).mono ?_
  rintro e w2 ⟨⟨z2, rfl⟩, rfl⟩
  go_wp2_with fail
  refine (C3.out _).mono ?_
  rintro e w3 ⟨rfl, h3⟩
  have HB3 := hide (below_t5 HB.out h3)
  clear h3
  go_wp2_with fail
  go_ret
  exact ⟨by simp, HB3.out⟩
end Go.Proofs.YthhhepbflggojaaDoor.E15
