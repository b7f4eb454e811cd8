/-
  RectLattice, of two that meet, walked.
-/
import Derived.Test.YtaaajbpdnbhghaaR3Meet
import Derived.Test.YtaaajbpdnbhghaaR3Join
import Derived.Test.YtaaajbpdnbhghaaR3Holds
import Derived.Test.YtaaajbpdnbhghaaR3RMay
import Derived.Test.YtaaajbpdnbhghaaR3Wakes
import Derived.Test.YtaaajbpdnbhghaaR3Box
namespace Go.Proofs.Ytaaajbpdnbhghaa
open Go.RowKit

set_option maxHeartbeats 2000000 in
theorem lat_t4 (a0 a1 a2 a3 b0 b1 b2 b3 : Int) (w : World) (C0 : Hid (∀ w, Calls Try.prog 16 #[.agg #[.int .i64 a0, .int .i64 a1, .int .i64 a2, .int .i64 a3]] w fun e w' => e = .returned (.bool true) ∧ Below w.heap.size w w')) (C1 : Hid (∀ w, Calls Try.prog 16 #[.agg #[.int .i64 b0, .int .i64 b1, .int .i64 b2, .int .i64 b3]] w fun e w' => e = .returned (.bool true) ∧ Below w.heap.size w w')) (D1 : Hid (∀ w, Calls Try.prog 9 #[.agg #[.int .i64 a0, .int .i64 a1, .int .i64 a2, .int .i64 a3], .agg #[.int .i64 b0, .int .i64 b1, .int .i64 b2, .int .i64 b3]] w fun e w' => e = .returned (.tuple #[.agg #[.int .i64 b0, .int .i64 b1, .int .i64 b2, .int .i64 b3], .bool true]) ∧ Below w.heap.size w w')) (D2 : Hid (∀ w, Calls Try.prog 9 #[.agg #[.int .i64 b0, .int .i64 b1, .int .i64 b2, .int .i64 b3], .agg #[.int .i64 a0, .int .i64 a1, .int .i64 a2, .int .i64 a3]] w fun e w' => e = .returned (.tuple #[.agg #[.int .i64 b0, .int .i64 b1, .int .i64 b2, .int .i64 b3], .bool true]) ∧ Below w.heap.size w w')) (D3 : Hid (∀ w, Calls Try.prog 11 #[.agg #[.int .i64 a0, .int .i64 a1, .int .i64 a2, .int .i64 a3], .agg #[.int .i64 b0, .int .i64 b1, .int .i64 b2, .int .i64 b3]] w fun e w' => e = .returned (.tuple #[.agg #[.int .i64 a0, .int .i64 a1, .int .i64 a2, .int .i64 a3], .bool true]) ∧ Below w.heap.size w w')) (D4 : Hid (∀ w, Calls Try.prog 11 #[.agg #[.int .i64 b0, .int .i64 b1, .int .i64 b2, .int .i64 b3], .agg #[.int .i64 a0, .int .i64 a1, .int .i64 a2, .int .i64 a3]] w fun e w' => e = .returned (.tuple #[.agg #[.int .i64 a0, .int .i64 a1, .int .i64 a2, .int .i64 a3], .bool true]) ∧ Below w.heap.size w w')) (D5 : Hid (∀ w, Calls Try.prog 13 #[.agg #[.int .i64 a0, .int .i64 a1, .int .i64 a2, .int .i64 a3], .agg #[.int .i64 b0, .int .i64 b1, .int .i64 b2, .int .i64 b3]] w fun e w' => e = .returned (.bool true) ∧ Below w.heap.size w w')) (D6 : Hid (∀ w, Calls Try.prog 13 #[.agg #[.int .i64 a0, .int .i64 a1, .int .i64 a2, .int .i64 a3], .agg #[.int .i64 a0, .int .i64 a1, .int .i64 a2, .int .i64 a3]] w fun e w' => e = .returned (.bool true) ∧ Below w.heap.size w w')) (D7 : Hid (∀ w, Calls Try.prog 13 #[.agg #[.int .i64 a0, .int .i64 a1, .int .i64 a2, .int .i64 a3], .agg #[.int .i64 b0, .int .i64 b1, .int .i64 b2, .int .i64 b3]] w fun e w' => e = .returned (.bool true) ∧ Below w.heap.size w w')) (D8 : Hid (∀ w, Calls Try.prog 13 #[.agg #[.int .i64 a0, .int .i64 a1, .int .i64 a2, .int .i64 a3], .agg #[.int .i64 b0, .int .i64 b1, .int .i64 b2, .int .i64 b3]] w fun e w' => e = .returned (.bool true) ∧ Below w.heap.size w w')) (D9 : Hid (∀ w, Calls Try.prog 13 #[.agg #[.int .i64 b0, .int .i64 b1, .int .i64 b2, .int .i64 b3], .agg #[.int .i64 b0, .int .i64 b1, .int .i64 b2, .int .i64 b3]] w fun e w' => e = .returned (.bool true) ∧ Below w.heap.size w w')) :
    Calls Try.prog 8 #[.agg #[.int .i64 a0, .int .i64 a1, .int .i64 a2, .int .i64 a3], .agg #[.int .i64 b0, .int .i64 b1, .int .i64 b2, .int .i64 b3]] w fun e w' => e = .returned (.bool true) ∧ Below w.heap.size w w' := by
  have C9 := hide wakes3_any
  go_enter Try.func8, Try.ntmps8
  go_wp2_with fail
  refine (C0.out _).mono ?_; rintro e w1 ⟨rfl, hb⟩
  have A := hide (((box4_at (n := w.heap.size) (by simp) 23 a0 a1 a2 a3).alloc _).below hb)
  have B := hide ((box4_at (n := w.heap.size + 1) (by simp) 23 b0 b1 b2 b3).below hb)
  have H := hide (below_in2 hb)
  clear hb
  obtain ⟨zA, cA0, cA1, cA2, cA3⟩ := A.out
  obtain ⟨zB, cB0, cB1, cB2, cB3⟩ := B.out
  go_wp2_with fail
  refine (C1.out _).mono ?_; rintro e w2 ⟨rfl, hb⟩
  replace A := hide ((A.out).below hb)
  replace B := hide ((B.out).below hb)
  replace H := hide (below_tr H.out (hb))
  clear hb zA cA0 cA1 cA2 cA3 zB cB0 cB1 cB2 cB3
  obtain ⟨zA, cA0, cA1, cA2, cA3⟩ := A.out
  obtain ⟨zB, cB0, cB1, cB2, cB3⟩ := B.out
  go_wp2_with fail
  refine (D1.out _).mono ?_; rintro e w3 ⟨rfl, hb⟩
  replace A := hide ((A.out).below hb)
  replace B := hide ((B.out).below hb)
  replace H := hide (below_tr H.out (hb))
  clear hb zA cA0 cA1 cA2 cA3 zB cB0 cB1 cB2 cB3
  obtain ⟨zA, cA0, cA1, cA2, cA3⟩ := A.out
  obtain ⟨zB, cB0, cB1, cB2, cB3⟩ := B.out
  go_wp2_with fail
  refine (D2.out _).mono ?_; rintro e w4 ⟨rfl, hb⟩
  replace A := hide (((A.out).alloc _).below hb)
  replace B := hide (((B.out).alloc _).below hb)
  have M := hide ((box4_at (n := w3.heap.size) (by simp) 23 b0 b1 b2 b3).below hb)
  replace H := hide (below_tr H.out (below_in1 hb))
  clear hb zA cA0 cA1 cA2 cA3 zB cB0 cB1 cB2 cB3
  obtain ⟨zA, cA0, cA1, cA2, cA3⟩ := A.out
  obtain ⟨zB, cB0, cB1, cB2, cB3⟩ := B.out
  go_wp2_with fail
  refine (D3.out _).mono ?_; rintro e w5 ⟨rfl, hb⟩
  replace A := hide (((A.out).alloc _).below hb)
  replace B := hide (((B.out).alloc _).below hb)
  replace M := hide (((M.out).alloc _).below hb)
  have N := hide ((box4_at (n := w4.heap.size) (by simp) 23 b0 b1 b2 b3).below hb)
  replace H := hide (below_tr H.out (below_in1 hb))
  clear hb zA cA0 cA1 cA2 cA3 zB cB0 cB1 cB2 cB3
  obtain ⟨zA, cA0, cA1, cA2, cA3⟩ := A.out
  obtain ⟨zB, cB0, cB1, cB2, cB3⟩ := B.out
  go_wp2_with fail
  refine (D4.out _).mono ?_; rintro e w6 ⟨rfl, hb⟩
  replace A := hide (((A.out).alloc _).below hb)
  replace B := hide (((B.out).alloc _).below hb)
  replace M := hide (((M.out).alloc _).below hb)
  replace N := hide (((N.out).alloc _).below hb)
  have J := hide ((box4_at (n := w5.heap.size) (by simp) 23 a0 a1 a2 a3).below hb)
  replace H := hide (below_tr H.out (below_in1 hb))
  clear hb zA cA0 cA1 cA2 cA3 zB cB0 cB1 cB2 cB3
  obtain ⟨zA, cA0, cA1, cA2, cA3⟩ := A.out
  obtain ⟨zB, cB0, cB1, cB2, cB3⟩ := B.out
  go_wp2_with fail
  refine (D5.out _).mono ?_; rintro e w7 ⟨rfl, hb⟩
  replace A := hide (((A.out).alloc _).below hb)
  replace B := hide (((B.out).alloc _).below hb)
  replace M := hide (((M.out).alloc _).below hb)
  replace N := hide (((N.out).alloc _).below hb)
  replace J := hide (((J.out).alloc _).below hb)
  have K := hide ((box4_at (n := w6.heap.size) (by simp) 23 a0 a1 a2 a3).below hb)
  replace H := hide (below_tr H.out (below_in1 hb))
  clear hb zA cA0 cA1 cA2 cA3 zB cB0 cB1 cB2 cB3
  obtain ⟨zA, cA0, cA1, cA2, cA3⟩ := A.out
  obtain ⟨zB, cB0, cB1, cB2, cB3⟩ := B.out
  obtain ⟨zM, cM0, cM1, cM2, cM3⟩ := M.out
  obtain ⟨zN, cN0, cN1, cN2, cN3⟩ := N.out
  obtain ⟨zJ, cJ0, cJ1, cJ2, cJ3⟩ := J.out
  obtain ⟨zK, cK0, cK1, cK2, cK3⟩ := K.out
  go_wp2_with fail
  refine (D6.out _).mono ?_; rintro e w8 ⟨rfl, hb⟩
  replace A := hide ((A.out).below hb)
  replace B := hide ((B.out).below hb)
  replace M := hide ((M.out).below hb)
  replace N := hide ((N.out).below hb)
  replace J := hide ((J.out).below hb)
  replace K := hide ((K.out).below hb)
  replace H := hide (below_tr H.out (hb))
  clear hb zA cA0 cA1 cA2 cA3 zB cB0 cB1 cB2 cB3 zM cM0 cM1 cM2 cM3 zN cN0 cN1 cN2 cN3 zJ cJ0 cJ1 cJ2 cJ3 zK cK0 cK1 cK2 cK3
  obtain ⟨zA, cA0, cA1, cA2, cA3⟩ := A.out
  obtain ⟨zB, cB0, cB1, cB2, cB3⟩ := B.out
  obtain ⟨zM, cM0, cM1, cM2, cM3⟩ := M.out
  obtain ⟨zN, cN0, cN1, cN2, cN3⟩ := N.out
  obtain ⟨zJ, cJ0, cJ1, cJ2, cJ3⟩ := J.out
  obtain ⟨zK, cK0, cK1, cK2, cK3⟩ := K.out
  go_wp2_with fail
  refine (D7.out _).mono ?_; rintro e w9 ⟨rfl, hb⟩
  replace A := hide ((A.out).below hb)
  replace B := hide ((B.out).below hb)
  replace M := hide ((M.out).below hb)
  replace N := hide ((N.out).below hb)
  replace J := hide ((J.out).below hb)
  replace K := hide ((K.out).below hb)
  replace H := hide (below_tr H.out (hb))
  clear hb zA cA0 cA1 cA2 cA3 zB cB0 cB1 cB2 cB3 zM cM0 cM1 cM2 cM3 zN cN0 cN1 cN2 cN3 zJ cJ0 cJ1 cJ2 cJ3 zK cK0 cK1 cK2 cK3
  obtain ⟨zA, cA0, cA1, cA2, cA3⟩ := A.out
  obtain ⟨zB, cB0, cB1, cB2, cB3⟩ := B.out
  obtain ⟨zM, cM0, cM1, cM2, cM3⟩ := M.out
  go_wp2_with fail
  refine (D8.out _).mono ?_; rintro e w10 ⟨rfl, hb⟩
  replace A := hide ((A.out).below hb)
  replace B := hide ((B.out).below hb)
  replace M := hide ((M.out).below hb)
  replace N := hide ((N.out).below hb)
  replace J := hide ((J.out).below hb)
  replace K := hide ((K.out).below hb)
  replace H := hide (below_tr H.out (hb))
  clear hb zA cA0 cA1 cA2 cA3 zB cB0 cB1 cB2 cB3 zM cM0 cM1 cM2 cM3
  obtain ⟨zB, cB0, cB1, cB2, cB3⟩ := B.out
  obtain ⟨zM, cM0, cM1, cM2, cM3⟩ := M.out
  go_wp2_with fail
  refine (D9.out _).mono ?_; rintro e w11 ⟨rfl, hb⟩
  replace A := hide ((A.out).below hb)
  replace B := hide ((B.out).below hb)
  replace M := hide ((M.out).below hb)
  replace N := hide ((N.out).below hb)
  replace J := hide ((J.out).below hb)
  replace K := hide ((K.out).below hb)
  replace H := hide (below_tr H.out (hb))
  clear hb zB cB0 cB1 cB2 cB3 zM cM0 cM1 cM2 cM3
  go_wp2_with fail
  refine (C9.out _).mono ?_; rintro e w12 ⟨rfl, hb⟩
  replace A := hide ((A.out).below hb)
  replace B := hide ((B.out).below hb)
  replace M := hide ((M.out).below hb)
  replace N := hide ((N.out).below hb)
  replace J := hide ((J.out).below hb)
  replace K := hide ((K.out).below hb)
  replace H := hide (below_tr H.out (hb))
  clear hb
  go_wp2_with fail
  go_ret
  exact ⟨rfl, H.out⟩
end Go.Proofs.Ytaaajbpdnbhghaa
