/-
  What the landed may answers.
-/
import Derived.Test.YthhhepbflggojaaDoorE15C
import Derived.Test.YthhhepbflggojaaDoorInL
import Derived.Test.YthhhepbflggojaaDoorInR
import Derived.Test.YthhhepbflggojaaDoorR3May
import Derived.Test.YthhhepbflggojaaDoorR3RMay
namespace Go.Proofs.YthhhepbflggojaaDoor.E15
open Go.RowKit Go.Deep
set_option linter.unusedVariables false
set_option linter.unusedSimpArgs false
set_option maxRecDepth 8000

set_option maxHeartbeats 1000000 in
theorem may1_0 (f s x y r0 r1 r2 r3 : Int) (a : Option Addr) (n c : Nat) (zs : List Int) (w : World) (hn : zs.length = n) (h1 : n ≤ 1048576) (hA : Lst w a zs) (hT : tB ⟨1, f, s, x, y, zs, r0, r1, r2, r3⟩ = false) :
    Calls Tryd.prog 16 #[.agg #[.int .i64 1, .int .i64 f, .int .i64 s, .int .i64 x, .int .i64 y, .slice a n c, .int .i64 r0, .int .i64 r1, .int .i64 r2, .int .i64 r3]] w fun e w' => e = .returned (.bool false) ∧ Below w.heap.size w w' := by
  have hb := (Below.refl w.heap.size w).alloc (Nat.le_refl _) (.cells #[.int .i64 1, .int .i64 f, .int .i64 s, .int .i64 x, .int .i64 y, .slice a n c, .int .i64 r0, .int .i64 r1, .int .i64 r2, .int .i64 r3] 38)
  have k1 := Blk.new w #[.int .i64 1, .int .i64 f, .int .i64 s, .int .i64 x, .int .i64 y, .slice a n c, .int .i64 r0, .int .i64 r1, .int .i64 r2, .int .i64 r3] 38
  have C := hide (mayText_any ⟨1, f, s, x, y, zs, r0, r1, r2, r3⟩ a n c _ hn h1 (hA.below hb))
  rw [hT] at C
  simp only [mcs] at C
  have HB := hide hb
  have HK := hide k1
  clear hb hA hn h1 hT k1
  go_enter Tryd.func16, Tryd.ntmps16
  go_wp2_with fail
  refine C.out.mono ?_
  rintro e w3 ⟨rfl, h3⟩
  have HB3 := hide (below_t5 HB.out h3)
  have k3 := HK.out.below h3
  have e6 := k3.cell 6
  have e7 := k3.cell 7
  have e8 := k3.cell 8
  have e9 := k3.cell 9
  have xlt := k3.lt
  simp at e6 e7 e8 e9
  clear h3 k3 HK
  go_wp2_with fail
  go_ret
  exact ⟨rfl, HB3.out⟩
set_option maxHeartbeats 1000000 in
theorem may1_1 (f s x y r0 r1 r2 r3 : Int) (a : Option Addr) (n c : Nat) (zs : List Int) (w : World) (hn : zs.length = n) (h1 : n ≤ 1048576) (hA : Lst w a zs) (hT : tB ⟨1, f, s, x, y, zs, r0, r1, r2, r3⟩ = true) (hz : (r0 == 0) = false) :
    Calls Tryd.prog 16 #[.agg #[.int .i64 1, .int .i64 f, .int .i64 s, .int .i64 x, .int .i64 y, .slice a n c, .int .i64 r0, .int .i64 r1, .int .i64 r2, .int .i64 r3]] w fun e w' => e = .returned (.bool false) ∧ Below w.heap.size w w' := by
  have hb := (Below.refl w.heap.size w).alloc (Nat.le_refl _) (.cells #[.int .i64 1, .int .i64 f, .int .i64 s, .int .i64 x, .int .i64 y, .slice a n c, .int .i64 r0, .int .i64 r1, .int .i64 r2, .int .i64 r3] 38)
  have k1 := Blk.new w #[.int .i64 1, .int .i64 f, .int .i64 s, .int .i64 x, .int .i64 y, .slice a n c, .int .i64 r0, .int .i64 r1, .int .i64 r2, .int .i64 r3] 38
  have C := hide (mayText_any ⟨1, f, s, x, y, zs, r0, r1, r2, r3⟩ a n c _ hn h1 (hA.below hb))
  rw [hT] at C
  simp only [mcs] at C
  have HB := hide hb
  have HK := hide k1
  have hzx : ¬ r0 = 0 := by simpa using hz
  clear hb hA hn h1 hT k1
  go_enter Tryd.func16, Tryd.ntmps16
  go_wp2_with fail
  refine C.out.mono ?_
  rintro e w3 ⟨rfl, h3⟩
  have HB3 := hide (below_t5 HB.out h3)
  have k3 := HK.out.below h3
  have e6 := k3.cell 6
  have e7 := k3.cell 7
  have e8 := k3.cell 8
  have e9 := k3.cell 9
  have xlt := k3.lt
  simp at e6 e7 e8 e9
  clear h3 k3 HK
  go_wp2_with fail
  go_ret
  exact ⟨rfl, HB3.out⟩
set_option maxHeartbeats 1000000 in
theorem may1_2 (f s x y r1 r2 r3 : Int) (a : Option Addr) (n c : Nat) (zs : List Int) (w : World) (hn : zs.length = n) (h1 : n ≤ 1048576) (hA : Lst w a zs) (hT : tB ⟨1, f, s, x, y, zs, 0, r1, r2, r3⟩ = true) (hz : (r1 == 0) = false) :
    Calls Tryd.prog 16 #[.agg #[.int .i64 1, .int .i64 f, .int .i64 s, .int .i64 x, .int .i64 y, .slice a n c, .int .i64 0, .int .i64 r1, .int .i64 r2, .int .i64 r3]] w fun e w' => e = .returned (.bool false) ∧ Below w.heap.size w w' := by
  have hb := (Below.refl w.heap.size w).alloc (Nat.le_refl _) (.cells #[.int .i64 1, .int .i64 f, .int .i64 s, .int .i64 x, .int .i64 y, .slice a n c, .int .i64 0, .int .i64 r1, .int .i64 r2, .int .i64 r3] 38)
  have k1 := Blk.new w #[.int .i64 1, .int .i64 f, .int .i64 s, .int .i64 x, .int .i64 y, .slice a n c, .int .i64 0, .int .i64 r1, .int .i64 r2, .int .i64 r3] 38
  have C := hide (mayText_any ⟨1, f, s, x, y, zs, 0, r1, r2, r3⟩ a n c _ hn h1 (hA.below hb))
  rw [hT] at C
  simp only [mcs] at C
  have HB := hide hb
  have HK := hide k1
  have hzx : ¬ r1 = 0 := by simpa using hz
  clear hb hA hn h1 hT k1
  go_enter Tryd.func16, Tryd.ntmps16
  go_wp2_with fail
  refine C.out.mono ?_
  rintro e w3 ⟨rfl, h3⟩
  have HB3 := hide (below_t5 HB.out h3)
  have k3 := HK.out.below h3
  have e6 := k3.cell 6
  have e7 := k3.cell 7
  have e8 := k3.cell 8
  have e9 := k3.cell 9
  have xlt := k3.lt
  simp at e6 e7 e8 e9
  clear h3 k3 HK
  go_wp2_with fail
  go_ret
  exact ⟨rfl, HB3.out⟩
set_option maxHeartbeats 1000000 in
theorem may1_3 (f s x y r2 r3 : Int) (a : Option Addr) (n c : Nat) (zs : List Int) (w : World) (hn : zs.length = n) (h1 : n ≤ 1048576) (hA : Lst w a zs) (hT : tB ⟨1, f, s, x, y, zs, 0, 0, r2, r3⟩ = true) (hz : (r2 == 0) = false) :
    Calls Tryd.prog 16 #[.agg #[.int .i64 1, .int .i64 f, .int .i64 s, .int .i64 x, .int .i64 y, .slice a n c, .int .i64 0, .int .i64 0, .int .i64 r2, .int .i64 r3]] w fun e w' => e = .returned (.bool false) ∧ Below w.heap.size w w' := by
  have hb := (Below.refl w.heap.size w).alloc (Nat.le_refl _) (.cells #[.int .i64 1, .int .i64 f, .int .i64 s, .int .i64 x, .int .i64 y, .slice a n c, .int .i64 0, .int .i64 0, .int .i64 r2, .int .i64 r3] 38)
  have k1 := Blk.new w #[.int .i64 1, .int .i64 f, .int .i64 s, .int .i64 x, .int .i64 y, .slice a n c, .int .i64 0, .int .i64 0, .int .i64 r2, .int .i64 r3] 38
  have C := hide (mayText_any ⟨1, f, s, x, y, zs, 0, 0, r2, r3⟩ a n c _ hn h1 (hA.below hb))
  rw [hT] at C
  simp only [mcs] at C
  have HB := hide hb
  have HK := hide k1
  have hzx : ¬ r2 = 0 := by simpa using hz
  clear hb hA hn h1 hT k1
  go_enter Tryd.func16, Tryd.ntmps16
  go_wp2_with fail
  refine C.out.mono ?_
  rintro e w3 ⟨rfl, h3⟩
  have HB3 := hide (below_t5 HB.out h3)
  have k3 := HK.out.below h3
  have e6 := k3.cell 6
  have e7 := k3.cell 7
  have e8 := k3.cell 8
  have e9 := k3.cell 9
  have xlt := k3.lt
  simp at e6 e7 e8 e9
  clear h3 k3 HK
  go_wp2_with fail
  go_ret
  exact ⟨rfl, HB3.out⟩
set_option maxHeartbeats 1000000 in
theorem may1_4 (f s x y r3 : Int) (a : Option Addr) (n c : Nat) (zs : List Int) (w : World) (hn : zs.length = n) (h1 : n ≤ 1048576) (hA : Lst w a zs) (hT : tB ⟨1, f, s, x, y, zs, 0, 0, 0, r3⟩ = true) (hz : (r3 == 0) = false) :
    Calls Tryd.prog 16 #[.agg #[.int .i64 1, .int .i64 f, .int .i64 s, .int .i64 x, .int .i64 y, .slice a n c, .int .i64 0, .int .i64 0, .int .i64 0, .int .i64 r3]] w fun e w' => e = .returned (.bool false) ∧ Below w.heap.size w w' := by
  have hb := (Below.refl w.heap.size w).alloc (Nat.le_refl _) (.cells #[.int .i64 1, .int .i64 f, .int .i64 s, .int .i64 x, .int .i64 y, .slice a n c, .int .i64 0, .int .i64 0, .int .i64 0, .int .i64 r3] 38)
  have k1 := Blk.new w #[.int .i64 1, .int .i64 f, .int .i64 s, .int .i64 x, .int .i64 y, .slice a n c, .int .i64 0, .int .i64 0, .int .i64 0, .int .i64 r3] 38
  have C := hide (mayText_any ⟨1, f, s, x, y, zs, 0, 0, 0, r3⟩ a n c _ hn h1 (hA.below hb))
  rw [hT] at C
  simp only [mcs] at C
  have HB := hide hb
  have HK := hide k1
  have hzx : ¬ r3 = 0 := by simpa using hz
  clear hb hA hn h1 hT k1
  go_enter Tryd.func16, Tryd.ntmps16
  go_wp2_with fail
  refine C.out.mono ?_
  rintro e w3 ⟨rfl, h3⟩
  have HB3 := hide (below_t5 HB.out h3)
  have k3 := HK.out.below h3
  have e6 := k3.cell 6
  have e7 := k3.cell 7
  have e8 := k3.cell 8
  have e9 := k3.cell 9
  have xlt := k3.lt
  simp at e6 e7 e8 e9
  clear h3 k3 HK
  go_wp2_with fail
  go_ret
  exact ⟨rfl, HB3.out⟩
set_option maxHeartbeats 1000000 in
theorem may1_5 (f s x y  : Int) (a : Option Addr) (n c : Nat) (zs : List Int) (w : World) (hn : zs.length = n) (h1 : n ≤ 1048576) (hA : Lst w a zs) (hT : tB ⟨1, f, s, x, y, zs, 0, 0, 0, 0⟩ = true) :
    Calls Tryd.prog 16 #[.agg #[.int .i64 1, .int .i64 f, .int .i64 s, .int .i64 x, .int .i64 y, .slice a n c, .int .i64 0, .int .i64 0, .int .i64 0, .int .i64 0]] w fun e w' => e = .returned (.bool true) ∧ Below w.heap.size w w' := by
  have hb := (Below.refl w.heap.size w).alloc (Nat.le_refl _) (.cells #[.int .i64 1, .int .i64 f, .int .i64 s, .int .i64 x, .int .i64 y, .slice a n c, .int .i64 0, .int .i64 0, .int .i64 0, .int .i64 0] 38)
  have k1 := Blk.new w #[.int .i64 1, .int .i64 f, .int .i64 s, .int .i64 x, .int .i64 y, .slice a n c, .int .i64 0, .int .i64 0, .int .i64 0, .int .i64 0] 38
  have C := hide (mayText_any ⟨1, f, s, x, y, zs, 0, 0, 0, 0⟩ a n c _ hn h1 (hA.below hb))
  rw [hT] at C
  simp only [mcs] at C
  have HB := hide hb
  have HK := hide k1
  clear hb hA hn h1 hT k1
  go_enter Tryd.func16, Tryd.ntmps16
  go_wp2_with fail
  refine C.out.mono ?_
  rintro e w3 ⟨rfl, h3⟩
  have HB3 := hide (below_t5 HB.out h3)
  have k3 := HK.out.below h3
  have e6 := k3.cell 6
  have e7 := k3.cell 7
  have e8 := k3.cell 8
  have e9 := k3.cell 9
  have xlt := k3.lt
  simp at e6 e7 e8 e9
  clear h3 k3 HK
  go_wp2_with fail
  go_ret
  exact ⟨rfl, HB3.out⟩
set_option maxHeartbeats 1000000 in
theorem may2_f (f s x y r0 r1 r2 r3 : Int) (a : Option Addr) (n c : Nat) (zs : List Int) (w : World) (hn : zs.length = n) (h1 : n ≤ 1048576) (hA : Lst w a zs) (hT : bxB r0 r1 r2 r3 = false) :
    Calls Tryd.prog 16 #[.agg #[.int .i64 2, .int .i64 f, .int .i64 s, .int .i64 x, .int .i64 y, .slice a n c, .int .i64 r0, .int .i64 r1, .int .i64 r2, .int .i64 r3]] w fun e w' => e = .returned (.bool false) ∧ Below w.heap.size w w' := by
  have hb := (Below.refl w.heap.size w).alloc (Nat.le_refl _) (.cells #[.int .i64 2, .int .i64 f, .int .i64 s, .int .i64 x, .int .i64 y, .slice a n c, .int .i64 r0, .int .i64 r1, .int .i64 r2, .int .i64 r3] 38)
  have k1 := Blk.new w #[.int .i64 2, .int .i64 f, .int .i64 s, .int .i64 x, .int .i64 y, .slice a n c, .int .i64 r0, .int .i64 r1, .int .i64 r2, .int .i64 r3] 38
  have C := hide (mayBox_any r0 r1 r2 r3 (w.alloc (.cells #[.int .i64 2, .int .i64 f, .int .i64 s, .int .i64 x, .int .i64 y, .slice a n c, .int .i64 r0, .int .i64 r1, .int .i64 r2, .int .i64 r3] 38)))
  rw [hT] at C
  have HB := hide hb
  have HK := hide k1
  clear hb hA hn h1 hT k1
  go_enter Tryd.func16, Tryd.ntmps16
  go_wp2_with fail
  refine C.out.mono ?_
  rintro e w3 ⟨rfl, h3⟩
  have HB3 := hide (below_t5 HB.out h3)
  have k3 := HK.out.below h3
  have e0 := k3.cell 0
  have e1 := k3.cell 1
  have e2 := k3.cell 2
  have e3 := k3.cell 3
  have e4 := k3.cell 4
  have e5 := k3.cell 5
  have e6 := k3.cell 6
  have e7 := k3.cell 7
  have e8 := k3.cell 8
  have e9 := k3.cell 9
  have xlt := k3.lt
  simp at e0 e1 e2 e3 e4 e5 e6 e7 e8 e9
  clear h3 k3 HK
  go_wp2_with fail
  go_ret
  exact ⟨rfl, HB3.out⟩
set_option maxHeartbeats 1000000 in
theorem may2_t (f s x y r0 r1 r2 r3 : Int) (a : Option Addr) (n c : Nat) (zs : List Int) (w : World) (hn : zs.length = n) (h1 : n ≤ 1048576) (hA : Lst w a zs) (hT : bxB r0 r1 r2 r3 = true) :
    Calls Tryd.prog 16 #[.agg #[.int .i64 2, .int .i64 f, .int .i64 s, .int .i64 x, .int .i64 y, .slice a n c, .int .i64 r0, .int .i64 r1, .int .i64 r2, .int .i64 r3]] w fun e w' => e = .returned (.bool (alB ⟨2, f, s, x, y, zs, r0, r1, r2, r3⟩ ⟨2, 0, 0, 0, 0, [], r0, r1, r2, r3⟩)) ∧ Below w.heap.size w w' := by
  have hb := (Below.refl w.heap.size w).alloc (Nat.le_refl _) (.cells #[.int .i64 2, .int .i64 f, .int .i64 s, .int .i64 x, .int .i64 y, .slice a n c, .int .i64 r0, .int .i64 r1, .int .i64 r2, .int .i64 r3] 38)
  have k1 := Blk.new w #[.int .i64 2, .int .i64 f, .int .i64 s, .int .i64 x, .int .i64 y, .slice a n c, .int .i64 r0, .int .i64 r1, .int .i64 r2, .int .i64 r3] 38
  have C := hide (mayBox_any r0 r1 r2 r3 (w.alloc (.cells #[.int .i64 2, .int .i64 f, .int .i64 s, .int .i64 x, .int .i64 y, .slice a n c, .int .i64 r0, .int .i64 r1, .int .i64 r2, .int .i64 r3] 38)))
  rw [hT] at C
  have HB := hide hb
  have HK := hide k1
  have CA := hide (fun (u : World) (hu : Below w.heap.size w u) => alike_any ⟨2, f, s, x, y, zs, r0, r1, r2, r3⟩ ⟨2, 0, 0, 0, 0, [], r0, r1, r2, r3⟩ a none n 0 c 0 u hn rfl h1 (by omega) (hA.below hu) (Or.inl rfl))
  simp only [mcs] at CA
  generalize alB ⟨2, f, s, x, y, zs, r0, r1, r2, r3⟩ ⟨2, 0, 0, 0, 0, [], r0, r1, r2, r3⟩ = R at CA
  clear hb hA hn h1 hT k1
  go_enter Tryd.func16, Tryd.ntmps16
  go_wp2_with fail
  refine C.out.mono ?_
  rintro e w3 ⟨rfl, h3⟩
  have HB3 := hide (below_t5 HB.out h3)
  have k3 := HK.out.below h3
  have e0 := k3.cell 0
  have e1 := k3.cell 1
  have e2 := k3.cell 2
  have e3 := k3.cell 3
  have e4 := k3.cell 4
  have e5 := k3.cell 5
  have e6 := k3.cell 6
  have e7 := k3.cell 7
  have e8 := k3.cell 8
  have e9 := k3.cell 9
  have xlt := k3.lt
  simp at e0 e1 e2 e3 e4 e5 e6 e7 e8 e9
  clear h3 k3 HK
  go_wp2_with fail
  refine (CA.out _ HB3.out).mono ?_
  rintro e w4 ⟨rfl, h4⟩
  have HB4 := hide (below_t5 HB3.out h4)
  clear h4
  go_wp2_with fail
  go_ret
  exact ⟨rfl, HB4.out⟩
set_option maxHeartbeats 1000000 in
theorem may3_f (f s x y r0 r1 r2 r3 : Int) (a : Option Addr) (n c : Nat) (zs : List Int) (w : World) (hn : zs.length = n) (h1 : n ≤ 1048576) (hA : Lst w a zs) (hT : bxB r0 r1 r2 r3 = false) :
    Calls Tryd.prog 16 #[.agg #[.int .i64 3, .int .i64 f, .int .i64 s, .int .i64 x, .int .i64 y, .slice a n c, .int .i64 r0, .int .i64 r1, .int .i64 r2, .int .i64 r3]] w fun e w' => e = .returned (.bool false) ∧ Below w.heap.size w w' := by
  have hb := (Below.refl w.heap.size w).alloc (Nat.le_refl _) (.cells #[.int .i64 3, .int .i64 f, .int .i64 s, .int .i64 x, .int .i64 y, .slice a n c, .int .i64 r0, .int .i64 r1, .int .i64 r2, .int .i64 r3] 38)
  have k1 := Blk.new w #[.int .i64 3, .int .i64 f, .int .i64 s, .int .i64 x, .int .i64 y, .slice a n c, .int .i64 r0, .int .i64 r1, .int .i64 r2, .int .i64 r3] 38
  have C := hide (mayBox_any r0 r1 r2 r3 (w.alloc (.cells #[.int .i64 3, .int .i64 f, .int .i64 s, .int .i64 x, .int .i64 y, .slice a n c, .int .i64 r0, .int .i64 r1, .int .i64 r2, .int .i64 r3] 38)))
  rw [hT] at C
  have HB := hide hb
  have HK := hide k1
  clear hb hA hn h1 hT k1
  go_enter Tryd.func16, Tryd.ntmps16
  go_wp2_with fail
  refine C.out.mono ?_
  rintro e w3 ⟨rfl, h3⟩
  have HB3 := hide (below_t5 HB.out h3)
  have k3 := HK.out.below h3
  have e0 := k3.cell 0
  have e1 := k3.cell 1
  have e2 := k3.cell 2
  have e3 := k3.cell 3
  have e4 := k3.cell 4
  have e5 := k3.cell 5
  have e6 := k3.cell 6
  have e7 := k3.cell 7
  have e8 := k3.cell 8
  have e9 := k3.cell 9
  have xlt := k3.lt
  simp at e0 e1 e2 e3 e4 e5 e6 e7 e8 e9
  clear h3 k3 HK
  go_wp2_with fail
  go_ret
  exact ⟨rfl, HB3.out⟩
set_option maxHeartbeats 1000000 in
theorem may3_t (f s x y r0 r1 r2 r3 : Int) (a : Option Addr) (n c : Nat) (zs : List Int) (w : World) (hn : zs.length = n) (h1 : n ≤ 1048576) (hA : Lst w a zs) (hT : bxB r0 r1 r2 r3 = true) :
    Calls Tryd.prog 16 #[.agg #[.int .i64 3, .int .i64 f, .int .i64 s, .int .i64 x, .int .i64 y, .slice a n c, .int .i64 r0, .int .i64 r1, .int .i64 r2, .int .i64 r3]] w fun e w' => e = .returned (.bool (alB ⟨3, f, s, x, y, zs, r0, r1, r2, r3⟩ ⟨3, 0, 0, 0, 0, [], r0, r1, r2, r3⟩)) ∧ Below w.heap.size w w' := by
  have hb := (Below.refl w.heap.size w).alloc (Nat.le_refl _) (.cells #[.int .i64 3, .int .i64 f, .int .i64 s, .int .i64 x, .int .i64 y, .slice a n c, .int .i64 r0, .int .i64 r1, .int .i64 r2, .int .i64 r3] 38)
  have k1 := Blk.new w #[.int .i64 3, .int .i64 f, .int .i64 s, .int .i64 x, .int .i64 y, .slice a n c, .int .i64 r0, .int .i64 r1, .int .i64 r2, .int .i64 r3] 38
  have C := hide (mayBox_any r0 r1 r2 r3 (w.alloc (.cells #[.int .i64 3, .int .i64 f, .int .i64 s, .int .i64 x, .int .i64 y, .slice a n c, .int .i64 r0, .int .i64 r1, .int .i64 r2, .int .i64 r3] 38)))
  rw [hT] at C
  have HB := hide hb
  have HK := hide k1
  have CA := hide (fun (u : World) (hu : Below w.heap.size w u) => alike_any ⟨3, f, s, x, y, zs, r0, r1, r2, r3⟩ ⟨3, 0, 0, 0, 0, [], r0, r1, r2, r3⟩ a none n 0 c 0 u hn rfl h1 (by omega) (hA.below hu) (Or.inl rfl))
  simp only [mcs] at CA
  generalize alB ⟨3, f, s, x, y, zs, r0, r1, r2, r3⟩ ⟨3, 0, 0, 0, 0, [], r0, r1, r2, r3⟩ = R at CA
  clear hb hA hn h1 hT k1
  go_enter Tryd.func16, Tryd.ntmps16
  go_wp2_with fail
  refine C.out.mono ?_
  rintro e w3 ⟨rfl, h3⟩
  have HB3 := hide (below_t5 HB.out h3)
  have k3 := HK.out.below h3
  have e0 := k3.cell 0
  have e1 := k3.cell 1
  have e2 := k3.cell 2
  have e3 := k3.cell 3
  have e4 := k3.cell 4
  have e5 := k3.cell 5
  have e6 := k3.cell 6
  have e7 := k3.cell 7
  have e8 := k3.cell 8
  have e9 := k3.cell 9
  have xlt := k3.lt
  simp at e0 e1 e2 e3 e4 e5 e6 e7 e8 e9
  clear h3 k3 HK
  go_wp2_with fail
  refine (CA.out _ HB3.out).mono ?_
  rintro e w4 ⟨rfl, h4⟩
  have HB4 := hide (below_t5 HB3.out h4)
  clear h4
  go_wp2_with fail
  go_ret
  exact ⟨rfl, HB4.out⟩
set_option maxHeartbeats 1000000 in
theorem may4 (f s x y r0 r1 r2 r3 : Int) (a : Option Addr) (n c : Nat) (zs : List Int) (w : World) (hn : zs.length = n) (h1 : n ≤ 1048576) (hA : Lst w a zs) :
    Calls Tryd.prog 16 #[.agg #[.int .i64 4, .int .i64 f, .int .i64 s, .int .i64 x, .int .i64 y, .slice a n c, .int .i64 r0, .int .i64 r1, .int .i64 r2, .int .i64 r3]] w fun e w' => e = .returned (.bool (alB ⟨4, f, s, x, y, zs, r0, r1, r2, r3⟩ ⟨4, 0, 0, 0, 0, [], 0, 0, 0, 0⟩)) ∧ Below w.heap.size w w' := by
  have hb := (Below.refl w.heap.size w).alloc (Nat.le_refl _) (.cells #[.int .i64 4, .int .i64 f, .int .i64 s, .int .i64 x, .int .i64 y, .slice a n c, .int .i64 r0, .int .i64 r1, .int .i64 r2, .int .i64 r3] 38)
  have HB := hide hb
  have CA := hide (fun (u : World) (hu : Below w.heap.size w u) => alike_any ⟨4, f, s, x, y, zs, r0, r1, r2, r3⟩ ⟨4, 0, 0, 0, 0, [], 0, 0, 0, 0⟩ a none n 0 c 0 u hn rfl h1 (by omega) (hA.below hu) (Or.inl rfl))
  simp only [mcs] at CA
  generalize alB ⟨4, f, s, x, y, zs, r0, r1, r2, r3⟩ ⟨4, 0, 0, 0, 0, [], 0, 0, 0, 0⟩ = R at CA
  clear hb hA hn h1
  go_enter Tryd.func16, Tryd.ntmps16
  go_wp2_with fail
  refine (CA.out _ HB.out).mono ?_
  rintro e w4 ⟨rfl, h4⟩
  have HB4 := hide (below_t5 HB.out h4)
  clear h4
  go_wp2_with fail
  go_ret
  exact ⟨rfl, HB4.out⟩
set_option maxHeartbeats 1000000 in
theorem may0 (k f s x y r0 r1 r2 r3 : Int) (a : Option Addr) (n c : Nat) (w : World) (g1 : (k == 1) = false) (g2 : (k == 2) = false) (g3 : (k == 3) = false) (g4 : (k == 4) = false) :
    Calls Tryd.prog 16 #[.agg #[.int .i64 k, .int .i64 f, .int .i64 s, .int .i64 x, .int .i64 y, .slice a n c, .int .i64 r0, .int .i64 r1, .int .i64 r2, .int .i64 r3]] w fun e w' => e = .returned (.bool false) ∧ Below w.heap.size w w' := by
  have HB := hide ((Below.refl w.heap.size w).alloc (Nat.le_refl _) (.cells #[.int .i64 k, .int .i64 f, .int .i64 s, .int .i64 x, .int .i64 y, .slice a n c, .int .i64 r0, .int .i64 r1, .int .i64 r2, .int .i64 r3] 38))
  go_enter Tryd.func16, Tryd.ntmps16
  go_wp2_with fail
  go_ret
  exact ⟨rfl, HB.out⟩
theorem may_any (m : Mk) (a : Option Addr) (n c : Nat) (w : World) (hn : m.gs.length = n) (h1 : n ≤ 1048576) (hA : Lst w a m.gs) :
    Calls Tryd.prog 16 #[.agg (mcs m (.slice a n c))] w fun e w' => e = .returned (.bool (oneB m)) ∧ Below w.heap.size w w' := by
  obtain ⟨k, f, s, x, y, zs, r0, r1, r2, r3⟩ := m
  simp only [mcs, oneB] at *
  by_cases g1 : k = 1
  · subst g1
    rw [if_pos rfl]
    cases hT : tB ⟨1, f, s, x, y, zs, r0, r1, r2, r3⟩
    · rw [Bool.false_and]
      exact may1_0 f s x y r0 r1 r2 r3 a n c zs w hn h1 hA hT
    rw [Bool.true_and]
    unfold z4
    cases z0 : r0 == 0
    · try simp only [Bool.false_and]
      exact may1_1 f s x y r0 r1 r2 r3 a n c zs w hn h1 hA hT z0
    obtain rfl : r0 = 0 := by simpa using z0
    try simp only [Bool.true_and]
    cases z1 : r1 == 0
    · try simp only [Bool.false_and]
      exact may1_2 f s x y r1 r2 r3 a n c zs w hn h1 hA hT z1
    obtain rfl : r1 = 0 := by simpa using z1
    try simp only [Bool.true_and]
    cases z2 : r2 == 0
    · try simp only [Bool.false_and]
      exact may1_3 f s x y r2 r3 a n c zs w hn h1 hA hT z2
    obtain rfl : r2 = 0 := by simpa using z2
    try simp only [Bool.true_and]
    cases z3 : r3 == 0
    · try simp only [Bool.false_and]
      exact may1_4 f s x y r3 a n c zs w hn h1 hA hT z3
    obtain rfl : r3 = 0 := by simpa using z3
    try simp only [Bool.true_and]
    exact may1_5 f s x y a n c zs w hn h1 hA hT
  rw [if_neg g1]
  by_cases g2 : k = 2
  · subst g2
    rw [if_pos (Or.inl rfl)]
    cases hT : bxB r0 r1 r2 r3
    · rw [Bool.false_and]
      exact may2_f f s x y r0 r1 r2 r3 a n c zs w hn h1 hA hT
    rw [Bool.true_and]
    exact may2_t f s x y r0 r1 r2 r3 a n c zs w hn h1 hA hT
  by_cases g3 : k = 3
  · subst g3
    rw [if_pos (Or.inr rfl)]
    cases hT : bxB r0 r1 r2 r3
    · rw [Bool.false_and]
      exact may3_f f s x y r0 r1 r2 r3 a n c zs w hn h1 hA hT
    rw [Bool.true_and]
    exact may3_t f s x y r0 r1 r2 r3 a n c zs w hn h1 hA hT
  rw [if_neg (by omega)]
  by_cases g4 : k = 4
  · subst g4
    rw [if_pos rfl]
    exact may4 f s x y r0 r1 r2 r3 a n c zs w hn h1 hA
  rw [if_neg g4]
  exact may0 k f s x y r0 r1 r2 r3 a n c w (by simpa using g1) (by simpa using g2) (by simpa using g3) (by simpa using g4)
end Go.Proofs.YthhhepbflggojaaDoor.E15
