/-
  RectPoints, a case, walked.
-/
import Derived.Test.YtaaajbpdnbhghaaR3Meet
import Derived.Test.YtaaajbpdnbhghaaR3Join
import Derived.Test.YtaaajbpdnbhghaaR3Holds
import Derived.Test.YtaaajbpdnbhghaaR3RMay
import Derived.Test.YtaaajbpdnbhghaaR3Wakes
import Derived.Test.YtaaajbpdnbhghaaR3Box
import Derived.Test.YtaaajbpdnbhghaaR3Box2
import Derived.Test.YtaaajbpdnbhghaaR3In
namespace Go.Proofs.Ytaaajbpdnbhghaa
open Go.RowKit

set_option maxHeartbeats 2000000 in
theorem pts_tttf (a0 a1 a2 a3 b0 b1 b2 b3 x y : Int) (w : World) (m0 m1 m2 m3 j0 j1 j2 j3 : Int) (M1 : Hid (∀ w, Calls Try.prog 15 #[.agg #[.int .i64 a0, .int .i64 a1, .int .i64 a2, .int .i64 a3]] w fun e w' => e = .returned (.bool true) ∧ Below w.heap.size w w')) (M2 : Hid (∀ w, Calls Try.prog 15 #[.agg #[.int .i64 b0, .int .i64 b1, .int .i64 b2, .int .i64 b3]] w fun e w' => e = .returned (.bool true) ∧ Below w.heap.size w w')) (D1 : Hid (∀ w, Calls Try.prog 9 #[.agg #[.int .i64 a0, .int .i64 a1, .int .i64 a2, .int .i64 a3], .agg #[.int .i64 b0, .int .i64 b1, .int .i64 b2, .int .i64 b3]] w fun e w' => e = .returned (.tuple #[.agg #[.int .i64 m0, .int .i64 m1, .int .i64 m2, .int .i64 m3], .bool true]) ∧ Below w.heap.size w w')) (D2 : Hid (∀ w, Calls Try.prog 11 #[.agg #[.int .i64 a0, .int .i64 a1, .int .i64 a2, .int .i64 a3], .agg #[.int .i64 b0, .int .i64 b1, .int .i64 b2, .int .i64 b3]] w fun e w' => e = .returned (.tuple #[.agg #[.int .i64 j0, .int .i64 j1, .int .i64 j2, .int .i64 j3], .bool true]) ∧ Below w.heap.size w w')) (D3 : Hid (∀ w, Calls Try.prog 13 #[.agg #[.int .i64 a0, .int .i64 a1, .int .i64 a2, .int .i64 a3], .agg #[.int .i64 b0, .int .i64 b1, .int .i64 b2, .int .i64 b3]] w fun e w' => e = .returned (.bool false) ∧ Below w.heap.size w w')) (I1 : Hid (∀ w, Calls Try.prog 26 #[.agg #[.int .i64 a0, .int .i64 a1, .int .i64 a2, .int .i64 a3], .int .i64 x, .int .i64 y] w fun e w' => e = .returned (.bool true) ∧ Below w.heap.size w w')) (I2 : Hid (∀ w, Calls Try.prog 26 #[.agg #[.int .i64 b0, .int .i64 b1, .int .i64 b2, .int .i64 b3], .int .i64 x, .int .i64 y] w fun e w' => e = .returned (.bool true) ∧ Below w.heap.size w w')) (I3 : Hid (∀ w, Calls Try.prog 26 #[.agg #[.int .i64 m0, .int .i64 m1, .int .i64 m2, .int .i64 m3], .int .i64 x, .int .i64 y] w fun e w' => e = .returned (.bool true) ∧ Below w.heap.size w w')) (I4 : Hid (∀ w, Calls Try.prog 26 #[.agg #[.int .i64 j0, .int .i64 j1, .int .i64 j2, .int .i64 j3], .int .i64 x, .int .i64 y] w fun e w' => e = .returned (.bool true) ∧ Below w.heap.size w w')) :
    Calls Try.prog 7 #[.agg #[.int .i64 a0, .int .i64 a1, .int .i64 a2, .int .i64 a3], .agg #[.int .i64 b0, .int .i64 b1, .int .i64 b2, .int .i64 b3], .agg #[.int .i64 x, .int .i64 y]] w fun e w' => e = .returned (.bool true) ∧ Below w.heap.size w w' := by
  have C9 := hide wakes3_any
  go_enter Try.func7, Try.ntmps7
  go_wp2_with fail
  refine (M1.out _).mono ?_; rintro e w1 ⟨rfl, hb⟩
  have A := hide ((((box4_at (n := w.heap.size) (by simp) 23 a0 a1 a2 a3).alloc _).alloc _).below hb)
  have B := hide (((box4_at (n := w.heap.size + 1) (by simp) 23 b0 b1 b2 b3).alloc _).below hb)
  have T := hide ((box2_at (n := w.heap.size + 2) (by simp) 29 x y).below hb)
  have H := hide (below_in3 hb)
  clear hb
  obtain ⟨zA, cA0, cA1, cA2, cA3⟩ := A.out
  obtain ⟨zB, cB0, cB1, cB2, cB3⟩ := B.out
  go_wp2_with fail
  refine (M2.out _).mono ?_; rintro e w2 ⟨rfl, hb⟩
  replace A := hide ((A.out).below hb)
  replace B := hide ((B.out).below hb)
  replace T := hide ((T.out).below hb)
  replace H := hide (below_tr H.out (hb))
  clear hb zA cA0 cA1 cA2 cA3 zB cB0 cB1 cB2 cB3
  obtain ⟨zA, cA0, cA1, cA2, cA3⟩ := A.out
  obtain ⟨zB, cB0, cB1, cB2, cB3⟩ := B.out
  obtain ⟨zT, cT0, cT1⟩ := T.out
  go_wp2_with fail
  go_quiet (fail)
  go_wp2_with fail
  refine (D1.out _).mono ?_; rintro e w3 ⟨rfl, hb⟩
  replace A := hide ((A.out.drewN _).below hb)
  replace B := hide ((B.out.drewN _).below hb)
  replace T := hide ((T.out.drewN _).below hb)
  replace H := hide (below_tr (below_drewN H.out _) (hb))
  clear hb zA cA0 cA1 cA2 cA3 zB cB0 cB1 cB2 cB3 zT cT0 cT1
  obtain ⟨zA, cA0, cA1, cA2, cA3⟩ := A.out
  obtain ⟨zB, cB0, cB1, cB2, cB3⟩ := B.out
  go_wp2_with fail
  refine (D2.out _).mono ?_; rintro e w4 ⟨rfl, hb⟩
  replace A := hide (((A.out).alloc _).below hb)
  replace B := hide (((B.out).alloc _).below hb)
  replace T := hide (((T.out).alloc _).below hb)
  have M := hide ((box4_at (n := w3.heap.size) (by simp) 23 m0 m1 m2 m3).below hb)
  replace H := hide (below_tr H.out (below_in1 hb))
  clear hb zA cA0 cA1 cA2 cA3 zB cB0 cB1 cB2 cB3
  obtain ⟨zA, cA0, cA1, cA2, cA3⟩ := A.out
  obtain ⟨zB, cB0, cB1, cB2, cB3⟩ := B.out
  go_wp2_with fail
  refine (I1.out _).mono ?_; rintro e w5 ⟨rfl, hb⟩
  replace A := hide (((A.out).alloc _).below hb)
  replace B := hide (((B.out).alloc _).below hb)
  replace T := hide (((T.out).alloc _).below hb)
  replace M := hide (((M.out).alloc _).below hb)
  have J := hide ((box4_at (n := w4.heap.size) (by simp) 23 j0 j1 j2 j3).below hb)
  replace H := hide (below_tr H.out (below_in1 hb))
  clear hb zA cA0 cA1 cA2 cA3 zB cB0 cB1 cB2 cB3
  obtain ⟨zA, cA0, cA1, cA2, cA3⟩ := A.out
  obtain ⟨zB, cB0, cB1, cB2, cB3⟩ := B.out
  obtain ⟨zM, cM0, cM1, cM2, cM3⟩ := M.out
  obtain ⟨zJ, cJ0, cJ1, cJ2, cJ3⟩ := J.out
  go_wp2_with fail
  refine (I2.out _).mono ?_; rintro e w6 ⟨rfl, hb⟩
  replace A := hide ((A.out).below hb)
  replace B := hide ((B.out).below hb)
  replace T := hide ((T.out).below hb)
  replace M := hide ((M.out).below hb)
  replace J := hide ((J.out).below hb)
  replace H := hide (below_tr H.out (hb))
  clear hb zA cA0 cA1 cA2 cA3 zB cB0 cB1 cB2 cB3 zM cM0 cM1 cM2 cM3 zJ cJ0 cJ1 cJ2 cJ3
  obtain ⟨zA, cA0, cA1, cA2, cA3⟩ := A.out
  obtain ⟨zB, cB0, cB1, cB2, cB3⟩ := B.out
  obtain ⟨zM, cM0, cM1, cM2, cM3⟩ := M.out
  obtain ⟨zJ, cJ0, cJ1, cJ2, cJ3⟩ := J.out
  go_wp2_with fail
  refine (I3.out _).mono ?_; rintro e w7 ⟨rfl, hb⟩
  replace A := hide ((A.out).below hb)
  replace B := hide ((B.out).below hb)
  replace T := hide ((T.out).below hb)
  replace M := hide ((M.out).below hb)
  replace J := hide ((J.out).below hb)
  replace H := hide (below_tr H.out (hb))
  clear hb zA cA0 cA1 cA2 cA3 zB cB0 cB1 cB2 cB3 zM cM0 cM1 cM2 cM3 zJ cJ0 cJ1 cJ2 cJ3
  obtain ⟨zA, cA0, cA1, cA2, cA3⟩ := A.out
  obtain ⟨zB, cB0, cB1, cB2, cB3⟩ := B.out
  obtain ⟨zM, cM0, cM1, cM2, cM3⟩ := M.out
  obtain ⟨zJ, cJ0, cJ1, cJ2, cJ3⟩ := J.out
  go_wp2_with fail
  refine (I1.out _).mono ?_; rintro e w8 ⟨rfl, hb⟩
  replace A := hide ((A.out).below hb)
  replace B := hide ((B.out).below hb)
  replace T := hide ((T.out).below hb)
  replace M := hide ((M.out).below hb)
  replace J := hide ((J.out).below hb)
  replace H := hide (below_tr H.out (hb))
  clear hb zA cA0 cA1 cA2 cA3 zB cB0 cB1 cB2 cB3 zM cM0 cM1 cM2 cM3 zJ cJ0 cJ1 cJ2 cJ3
  obtain ⟨zA, cA0, cA1, cA2, cA3⟩ := A.out
  obtain ⟨zB, cB0, cB1, cB2, cB3⟩ := B.out
  obtain ⟨zM, cM0, cM1, cM2, cM3⟩ := M.out
  obtain ⟨zJ, cJ0, cJ1, cJ2, cJ3⟩ := J.out
  go_wp2_with fail
  refine (I4.out _).mono ?_; rintro e w9 ⟨rfl, hb⟩
  replace A := hide ((A.out).below hb)
  replace B := hide ((B.out).below hb)
  replace T := hide ((T.out).below hb)
  replace M := hide ((M.out).below hb)
  replace J := hide ((J.out).below hb)
  replace H := hide (below_tr H.out (hb))
  clear hb zA cA0 cA1 cA2 cA3 zB cB0 cB1 cB2 cB3 zM cM0 cM1 cM2 cM3 zJ cJ0 cJ1 cJ2 cJ3
  obtain ⟨zA, cA0, cA1, cA2, cA3⟩ := A.out
  obtain ⟨zB, cB0, cB1, cB2, cB3⟩ := B.out
  obtain ⟨zM, cM0, cM1, cM2, cM3⟩ := M.out
  obtain ⟨zJ, cJ0, cJ1, cJ2, cJ3⟩ := J.out
  go_wp2_with fail
  refine (D3.out _).mono ?_; rintro e w10 ⟨rfl, hb⟩
  replace A := hide ((A.out).below hb)
  replace B := hide ((B.out).below hb)
  replace T := hide ((T.out).below hb)
  replace M := hide ((M.out).below hb)
  replace J := hide ((J.out).below hb)
  replace H := hide (below_tr H.out (hb))
  clear hb zA cA0 cA1 cA2 cA3 zB cB0 cB1 cB2 cB3 zM cM0 cM1 cM2 cM3 zJ cJ0 cJ1 cJ2 cJ3
  obtain ⟨zA, cA0, cA1, cA2, cA3⟩ := A.out
  obtain ⟨zB, cB0, cB1, cB2, cB3⟩ := B.out
  go_wp2_with fail
  refine (C9.out _).mono ?_; rintro e w11 ⟨rfl, hb⟩
  replace A := hide ((A.out).below hb)
  replace B := hide ((B.out).below hb)
  replace T := hide ((T.out).below hb)
  replace M := hide ((M.out).below hb)
  replace J := hide ((J.out).below hb)
  replace H := hide (below_tr H.out (hb))
  clear hb zA cA0 cA1 cA2 cA3 zB cB0 cB1 cB2 cB3
  go_wp2_with fail
  go_ret
  exact ⟨rfl, H.out⟩
end Go.Proofs.Ytaaajbpdnbhghaa
