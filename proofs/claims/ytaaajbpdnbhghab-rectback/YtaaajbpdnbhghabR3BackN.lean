/-
  RectBack, walked.
-/
import Derived.Test.YtaaajbpdnbhghabR3Shift
import Derived.Test.YtaaajbpdnbhghabR3Inset
import Derived.Test.YtaaajbpdnbhghabR3Wakes
import Derived.Test.YtaaajbpdnbhghabR3Box
namespace Go.Proofs.Ytaaajbpdnbhghab
open Go.RowKit

set_option maxHeartbeats 2000000 in
theorem back_no (a0 a1 a2 a3 dx dy : Int) (w : World) (D1 : Hid (∀ w, Calls Try.prog 4 #[.agg #[.int .i64 a0, .int .i64 a1, .int .i64 a2, .int .i64 a3], .int .i64 dx, .int .i64 dy] w fun e w' => e = .returned (.tuple #[.agg #[.int .i64 0, .int .i64 0, .int .i64 0, .int .i64 0], .bool false]) ∧ Below w.heap.size w w')) :
    Calls Try.prog 3 #[.agg #[.int .i64 a0, .int .i64 a1, .int .i64 a2, .int .i64 a3], .int .i64 dx, .int .i64 dy] w fun e w' => e = .returned (.bool true) ∧ Below w.heap.size w w' := by
  have C9 := hide wakes3_any
  go_enter Try.func3, Try.ntmps3
  go_wp2_with fail
  refine (D1.out _).mono ?_; rintro e w1 ⟨rfl, hb⟩
  have A := hide (((box4_at (n := w.heap.size) (by simp) 23 a0 a1 a2 a3)).below hb)
  have H := hide (below_in1 hb)
  clear hb
  obtain ⟨zA, cA0, cA1, cA2, cA3⟩ := A.out
  go_wp2_with fail
  refine (C9.out _).mono ?_; rintro e w2 ⟨rfl, hb⟩
  replace A := hide ((A.out.alloc _).below hb)
  have M := hide (((box4_at (n := w1.heap.size) (by simp) 23 0 0 0 0)).below hb)
  replace H := hide (below_tr H.out (below_in1 hb))
  clear hb zA cA0 cA1 cA2 cA3
  go_wp2_with fail
  go_ret
  exact ⟨rfl, H.out⟩
set_option maxHeartbeats 2000000 in
theorem back_t (a0 a1 a2 a3 dx dy : Int) (w : World) (m0 m1 m2 m3 j0 j1 j2 j3 : Int) (bu01 : -1099511627776 ≤ a0) (bu02 : a0 ≤ 1099511627776) (bu11 : -1099511627776 ≤ a1) (bu12 : a1 ≤ 1099511627776) (bu21 : -1099511627776 ≤ a2) (bu22 : a2 ≤ 1099511627776) (bu31 : -1099511627776 ≤ a3) (bu32 : a3 ≤ 1099511627776) (bv01 : -1099511627776 ≤ m0) (bv02 : m0 ≤ 1099511627776) (bv11 : -1099511627776 ≤ m1) (bv12 : m1 ≤ 1099511627776) (bv21 : -1099511627776 ≤ m2) (bv22 : m2 ≤ 1099511627776) (bv31 : -1099511627776 ≤ m3) (bv32 : m3 ≤ 1099511627776) (bx1 : -1099511627776 ≤ dx) (bx2 : dx ≤ 1099511627776) (by1 : -1099511627776 ≤ dy) (by2 : dy ≤ 1099511627776) (e1 : (m2 - m0 == a2 - a0) = true) (e2 : (m3 - m1 == a3 - a1) = true) (D1 : Hid (∀ w, Calls Try.prog 4 #[.agg #[.int .i64 a0, .int .i64 a1, .int .i64 a2, .int .i64 a3], .int .i64 dx, .int .i64 dy] w fun e w' => e = .returned (.tuple #[.agg #[.int .i64 m0, .int .i64 m1, .int .i64 m2, .int .i64 m3], .bool true]) ∧ Below w.heap.size w w')) (D2 : Hid (∀ w, Calls Try.prog 4 #[.agg #[.int .i64 m0, .int .i64 m1, .int .i64 m2, .int .i64 m3], .int .i64 (-dx), .int .i64 (-dy)] w fun e w' => e = .returned (.tuple #[.agg #[.int .i64 a0, .int .i64 a1, .int .i64 a2, .int .i64 a3], .bool true]) ∧ Below w.heap.size w w')) (D3 : Hid (∀ w, Calls Try.prog 6 #[.agg #[.int .i64 a0, .int .i64 a1, .int .i64 a2, .int .i64 a3], .int .i64 dx] w fun e w' => e = .returned (.tuple #[.agg #[.int .i64 j0, .int .i64 j1, .int .i64 j2, .int .i64 j3], .bool true]) ∧ Below w.heap.size w w')) (D4 : Hid (∀ w, Calls Try.prog 6 #[.agg #[.int .i64 j0, .int .i64 j1, .int .i64 j2, .int .i64 j3], .int .i64 (-dx)] w fun e w' => e = .returned (.tuple #[.agg #[.int .i64 a0, .int .i64 a1, .int .i64 a2, .int .i64 a3], .bool true]) ∧ Below w.heap.size w w')) :
    Calls Try.prog 3 #[.agg #[.int .i64 a0, .int .i64 a1, .int .i64 a2, .int .i64 a3], .int .i64 dx, .int .i64 dy] w fun e w' => e = .returned (.bool true) ∧ Below w.heap.size w w' := by
  have C9 := hide wakes3_any
  go_enter Try.func3, Try.ntmps3
  go_wp2_with fail
  refine (D1.out _).mono ?_; rintro e w1 ⟨rfl, hb⟩
  have A := hide (((box4_at (n := w.heap.size) (by simp) 23 a0 a1 a2 a3)).below hb)
  have H := hide (below_in1 hb)
  clear hb
  obtain ⟨zA, cA0, cA1, cA2, cA3⟩ := A.out
  go_wp2_with fail
  refine (D2.out _).mono ?_; rintro e w2 ⟨rfl, hb⟩
  replace A := hide ((A.out.alloc _).below hb)
  have M := hide (((box4_at (n := w1.heap.size) (by simp) 23 m0 m1 m2 m3)).below hb)
  replace H := hide (below_tr H.out (below_in1 hb))
  clear hb zA cA0 cA1 cA2 cA3
  obtain ⟨zA, cA0, cA1, cA2, cA3⟩ := A.out
  go_wp2_with fail
  refine (D3.out _).mono ?_; rintro e w3 ⟨rfl, hb⟩
  replace A := hide ((A.out.alloc _).below hb)
  replace M := hide ((M.out.alloc _).below hb)
  have B := hide (((box4_at (n := w2.heap.size) (by simp) 23 a0 a1 a2 a3)).below hb)
  replace H := hide (below_tr H.out (below_in1 hb))
  clear hb zA cA0 cA1 cA2 cA3
  obtain ⟨zA, cA0, cA1, cA2, cA3⟩ := A.out
  go_wp2_with fail
  refine (D4.out _).mono ?_; rintro e w4 ⟨rfl, hb⟩
  replace A := hide ((A.out.alloc _).below hb)
  replace M := hide ((M.out.alloc _).below hb)
  replace B := hide ((B.out.alloc _).below hb)
  have J := hide (((box4_at (n := w3.heap.size) (by simp) 23 j0 j1 j2 j3)).below hb)
  replace H := hide (below_tr H.out (below_in1 hb))
  clear hb zA cA0 cA1 cA2 cA3
  obtain ⟨zA, cA0, cA1, cA2, cA3⟩ := A.out
  obtain ⟨zM, cM0, cM1, cM2, cM3⟩ := M.out
  obtain ⟨zB, cB0, cB1, cB2, cB3⟩ := B.out
  obtain ⟨zJ, cJ0, cJ1, cJ2, cJ3⟩ := J.out
  go_wp2_with fail
  refine (C9.out _).mono ?_; rintro e w5 ⟨rfl, hb⟩
  replace A := hide ((A.out.alloc _).below hb)
  replace M := hide ((M.out.alloc _).below hb)
  replace B := hide ((B.out.alloc _).below hb)
  replace J := hide ((J.out.alloc _).below hb)
  have O := hide (((box4_at (n := w4.heap.size) (by simp) 23 a0 a1 a2 a3)).below hb)
  replace H := hide (below_tr H.out (below_in1 hb))
  clear hb zA cA0 cA1 cA2 cA3 zM cM0 cM1 cM2 cM3 zB cB0 cB1 cB2 cB3 zJ cJ0 cJ1 cJ2 cJ3
  go_wp2_with fail
  go_ret
  exact ⟨rfl, H.out⟩
set_option maxHeartbeats 2000000 in
theorem back_f (a0 a1 a2 a3 dx dy : Int) (w : World) (m0 m1 m2 m3 o0 o1 o2 o3 : Int) (q : Bool) (bu01 : -1099511627776 ≤ a0) (bu02 : a0 ≤ 1099511627776) (bu11 : -1099511627776 ≤ a1) (bu12 : a1 ≤ 1099511627776) (bu21 : -1099511627776 ≤ a2) (bu22 : a2 ≤ 1099511627776) (bu31 : -1099511627776 ≤ a3) (bu32 : a3 ≤ 1099511627776) (bv01 : -1099511627776 ≤ m0) (bv02 : m0 ≤ 1099511627776) (bv11 : -1099511627776 ≤ m1) (bv12 : m1 ≤ 1099511627776) (bv21 : -1099511627776 ≤ m2) (bv22 : m2 ≤ 1099511627776) (bv31 : -1099511627776 ≤ m3) (bv32 : m3 ≤ 1099511627776) (bx1 : -1099511627776 ≤ dx) (bx2 : dx ≤ 1099511627776) (by1 : -1099511627776 ≤ dy) (by2 : dy ≤ 1099511627776) (e1 : (m2 - m0 == a2 - a0) = true) (e2 : (m3 - m1 == a3 - a1) = true) (D1 : Hid (∀ w, Calls Try.prog 4 #[.agg #[.int .i64 a0, .int .i64 a1, .int .i64 a2, .int .i64 a3], .int .i64 dx, .int .i64 dy] w fun e w' => e = .returned (.tuple #[.agg #[.int .i64 m0, .int .i64 m1, .int .i64 m2, .int .i64 m3], .bool true]) ∧ Below w.heap.size w w')) (D2 : Hid (∀ w, Calls Try.prog 4 #[.agg #[.int .i64 m0, .int .i64 m1, .int .i64 m2, .int .i64 m3], .int .i64 (-dx), .int .i64 (-dy)] w fun e w' => e = .returned (.tuple #[.agg #[.int .i64 a0, .int .i64 a1, .int .i64 a2, .int .i64 a3], .bool true]) ∧ Below w.heap.size w w')) (D3 : Hid (∀ w, Calls Try.prog 6 #[.agg #[.int .i64 a0, .int .i64 a1, .int .i64 a2, .int .i64 a3], .int .i64 dx] w fun e w' => e = .returned (.tuple #[.agg #[.int .i64 0, .int .i64 0, .int .i64 0, .int .i64 0], .bool false]) ∧ Below w.heap.size w w')) (D4 : Hid (∀ w, Calls Try.prog 6 #[.agg #[.int .i64 0, .int .i64 0, .int .i64 0, .int .i64 0], .int .i64 (-dx)] w fun e w' => e = .returned (.tuple #[.agg #[.int .i64 o0, .int .i64 o1, .int .i64 o2, .int .i64 o3], .bool q]) ∧ Below w.heap.size w w')) :
    Calls Try.prog 3 #[.agg #[.int .i64 a0, .int .i64 a1, .int .i64 a2, .int .i64 a3], .int .i64 dx, .int .i64 dy] w fun e w' => e = .returned (.bool true) ∧ Below w.heap.size w w' := by
  have C9 := hide wakes3_any
  go_enter Try.func3, Try.ntmps3
  go_wp2_with fail
  refine (D1.out _).mono ?_; rintro e w1 ⟨rfl, hb⟩
  have A := hide (((box4_at (n := w.heap.size) (by simp) 23 a0 a1 a2 a3)).below hb)
  have H := hide (below_in1 hb)
  clear hb
  obtain ⟨zA, cA0, cA1, cA2, cA3⟩ := A.out
  go_wp2_with fail
  refine (D2.out _).mono ?_; rintro e w2 ⟨rfl, hb⟩
  replace A := hide ((A.out.alloc _).below hb)
  have M := hide (((box4_at (n := w1.heap.size) (by simp) 23 m0 m1 m2 m3)).below hb)
  replace H := hide (below_tr H.out (below_in1 hb))
  clear hb zA cA0 cA1 cA2 cA3
  obtain ⟨zA, cA0, cA1, cA2, cA3⟩ := A.out
  go_wp2_with fail
  refine (D3.out _).mono ?_; rintro e w3 ⟨rfl, hb⟩
  replace A := hide ((A.out.alloc _).below hb)
  replace M := hide ((M.out.alloc _).below hb)
  have B := hide (((box4_at (n := w2.heap.size) (by simp) 23 a0 a1 a2 a3)).below hb)
  replace H := hide (below_tr H.out (below_in1 hb))
  clear hb zA cA0 cA1 cA2 cA3
  obtain ⟨zA, cA0, cA1, cA2, cA3⟩ := A.out
  go_wp2_with fail
  refine (D4.out _).mono ?_; rintro e w4 ⟨rfl, hb⟩
  replace A := hide ((A.out.alloc _).below hb)
  replace M := hide ((M.out.alloc _).below hb)
  replace B := hide ((B.out.alloc _).below hb)
  have J := hide (((box4_at (n := w3.heap.size) (by simp) 23 0 0 0 0)).below hb)
  replace H := hide (below_tr H.out (below_in1 hb))
  clear hb zA cA0 cA1 cA2 cA3
  obtain ⟨zA, cA0, cA1, cA2, cA3⟩ := A.out
  obtain ⟨zM, cM0, cM1, cM2, cM3⟩ := M.out
  obtain ⟨zB, cB0, cB1, cB2, cB3⟩ := B.out
  obtain ⟨zJ, cJ0, cJ1, cJ2, cJ3⟩ := J.out
  go_wp2_with fail
  refine (C9.out _).mono ?_; rintro e w5 ⟨rfl, hb⟩
  replace A := hide ((A.out.alloc _).below hb)
  replace M := hide ((M.out.alloc _).below hb)
  replace B := hide ((B.out.alloc _).below hb)
  replace J := hide ((J.out.alloc _).below hb)
  have O := hide (((box4_at (n := w4.heap.size) (by simp) 23 o0 o1 o2 o3)).below hb)
  replace H := hide (below_tr H.out (below_in1 hb))
  clear hb zA cA0 cA1 cA2 cA3 zM cM0 cM1 cM2 cM3 zB cB0 cB1 cB2 cB3 zJ cJ0 cJ1 cJ2 cJ3
  go_wp2_with fail
  go_ret
  exact ⟨rfl, H.out⟩
end Go.Proofs.Ytaaajbpdnbhghab
