/-
  RectTwo, walked.
-/
import Derived.Test.YtaaajbpdnbhghaaR3Meet
import Derived.Test.YtaaajbpdnbhghaaR3RMeet
import Derived.Test.YtaaajbpdnbhghaaR3Join
import Derived.Test.YtaaajbpdnbhghaaR3RJoin
import Derived.Test.YtaaajbpdnbhghaaR3Holds
import Derived.Test.YtaaajbpdnbhghaaR3RHolds
import Derived.Test.YtaaajbpdnbhghaaR3Wakes
import Derived.Test.YtaaajbpdnbhghaaR3Box
import Derived.Deep.RegionHeld3
namespace Go.Proofs.Ytaaajbpdnbhghaa
open Go.RowKit

set_option maxHeartbeats 1000000 in
theorem two_walk (a0 a1 a2 a3 b0 b1 b2 b3 : Int) (w : World) :
    Calls Try.prog 3 #[.agg #[.int .i64 a0, .int .i64 a1, .int .i64 a2, .int .i64 a3], .agg #[.int .i64 b0, .int .i64 b1, .int .i64 b2, .int .i64 b3]] w fun e w' => e = .returned (.bool true) ∧ Below w.heap.size w w' := by
  have C1 := fun w => meet_any a0 a1 a2 a3 b0 b1 b2 b3 w
  have C2 := fun w => rmeet_any a0 a1 a2 a3 b0 b1 b2 b3 w
  have C3 := fun w => join_any a0 a1 a2 a3 b0 b1 b2 b3 w
  have C4 := fun w => rjoin_any a0 a1 a2 a3 b0 b1 b2 b3 w
  have C5 := fun w => holds_any a0 a1 a2 a3 b0 b1 b2 b3 w
  have C6 := fun w => rholds_any a0 a1 a2 a3 b0 b1 b2 b3 w
  have C7 := fun w => may_any a0 a1 a2 a3 w
  have C8 := fun w => rmay_any a0 a1 a2 a3 w
  generalize tl (meetQ a0 a1 a2 a3 b0 b1 b2 b3) (max a0 b0) = m0 at C1 C2
  generalize tl (meetQ a0 a1 a2 a3 b0 b1 b2 b3) (max a1 b1) = m1 at C1 C2
  generalize tl (meetQ a0 a1 a2 a3 b0 b1 b2 b3) (min a2 b2) = m2 at C1 C2
  generalize tl (meetQ a0 a1 a2 a3 b0 b1 b2 b3) (min a3 b3) = m3 at C1 C2
  generalize meetQ a0 a1 a2 a3 b0 b1 b2 b3 = q at C1 C2
  generalize tl (joinQ a0 a1 a2 a3 b0 b1 b2 b3) (min a0 b0) = j0 at C3 C4
  generalize tl (joinQ a0 a1 a2 a3 b0 b1 b2 b3) (min a1 b1) = j1 at C3 C4
  generalize tl (joinQ a0 a1 a2 a3 b0 b1 b2 b3) (max a2 b2) = j2 at C3 C4
  generalize tl (joinQ a0 a1 a2 a3 b0 b1 b2 b3) (max a3 b3) = j3 at C3 C4
  generalize joinQ a0 a1 a2 a3 b0 b1 b2 b3 = r at C3 C4
  generalize holdsQ a0 a1 a2 a3 b0 b1 b2 b3 = h at C5 C6
  generalize mayB a0 a1 a2 a3 = y at C7 C8
  have C1 := hide C1
  have C2 := hide C2
  have C3 := hide C3
  have C4 := hide C4
  have C5 := hide C5
  have C6 := hide C6
  have C7 := hide C7
  have C8 := hide C8
  go_enter Try.func3, Try.ntmps3
  go_wp2_with fail
  refine (C1.out _).mono ?_; rintro e w1 ⟨rfl, hb⟩
  have A := hide (((box4_new w 23 a0 a1 a2 a3).alloc _).below hb)
  have B := hide ((box4_at (n := w.heap.size + 1) (by simp) 23 b0 b1 b2 b3).below hb)
  have H := hide (below_in2 hb)
  clear hb
  obtain ⟨zA, cA0, cA1, cA2, cA3⟩ := A.out
  obtain ⟨zB, cB0, cB1, cB2, cB3⟩ := B.out
  go_wp2_with fail
  refine (C2.out _).mono ?_; rintro e w2 ⟨rfl, hb⟩
  replace A := hide ((A.out.alloc _).below hb)
  replace B := hide ((B.out.alloc _).below hb)
  have M := hide ((box4_new w1 23 m0 m1 m2 m3).below hb)
  replace H := hide (below_tr H.out (below_in1 hb))
  clear hb zA zB cA0 cA1 cA2 cA3 cB0 cB1 cB2 cB3
  obtain ⟨zA, cA0, cA1, cA2, cA3⟩ := A.out
  obtain ⟨zB, cB0, cB1, cB2, cB3⟩ := B.out
  go_wp2_with fail
  refine (C3.out _).mono ?_; rintro e w3 ⟨rfl, hb⟩
  replace A := hide ((A.out.alloc _).below hb)
  replace B := hide ((B.out.alloc _).below hb)
  replace M := hide ((M.out.alloc _).below hb)
  have N := hide ((box4_new w2 23 m0 m1 m2 m3).below hb)
  replace H := hide (below_tr H.out (below_in1 hb))
  clear hb zA zB cA0 cA1 cA2 cA3 cB0 cB1 cB2 cB3
  obtain ⟨zA, cA0, cA1, cA2, cA3⟩ := A.out
  obtain ⟨zB, cB0, cB1, cB2, cB3⟩ := B.out
  go_wp2_with fail
  refine (C4.out _).mono ?_; rintro e w4 ⟨rfl, hb⟩
  replace A := hide ((A.out.alloc _).below hb)
  replace B := hide ((B.out.alloc _).below hb)
  replace M := hide ((M.out.alloc _).below hb)
  replace N := hide ((N.out.alloc _).below hb)
  have J := hide ((box4_new w3 23 j0 j1 j2 j3).below hb)
  replace H := hide (below_tr H.out (below_in1 hb))
  clear hb zA zB cA0 cA1 cA2 cA3 cB0 cB1 cB2 cB3
  go_wp2_with fail
  rename_i k0
  have HA := hide k0
  clear k0
  obtain ⟨V, hV⟩ : ∃ V, V = w4.alloc (.cells #[.int .i64 j0, .int .i64 j1, .int .i64 j2, .int .i64 j3] 23) := ⟨_, rfl⟩
  rw [← hV]
  replace A := A.out.alloc (.cells #[.int .i64 j0, .int .i64 j1, .int .i64 j2, .int .i64 j3] 23)
  replace B := B.out.alloc (.cells #[.int .i64 j0, .int .i64 j1, .int .i64 j2, .int .i64 j3] 23)
  replace M := M.out.alloc (.cells #[.int .i64 j0, .int .i64 j1, .int .i64 j2, .int .i64 j3] 23)
  replace N := N.out.alloc (.cells #[.int .i64 j0, .int .i64 j1, .int .i64 j2, .int .i64 j3] 23)
  replace J := J.out.alloc (.cells #[.int .i64 j0, .int .i64 j1, .int .i64 j2, .int .i64 j3] 23)
  have K := box4_new w4 23 j0 j1 j2 j3
  replace H := below_tr H.out ((Below.refl _ _).alloc (Nat.le_refl _) (.cells #[.int .i64 j0, .int .i64 j1, .int .i64 j2, .int .i64 j3] 23))
  rw [← hV] at A B M N J K H
  have KS : ∀ x, Below V.heap.size V x → (x.cell? ⟨w.heap.size, 0, none⟩ = some (.int .i64 a0) ∧ x.cell? ⟨w.heap.size, 1, none⟩ = some (.int .i64 a1) ∧ x.cell? ⟨w.heap.size, 2, none⟩ = some (.int .i64 a2) ∧ x.cell? ⟨w.heap.size, 3, none⟩ = some (.int .i64 a3) ∧ x.cell? ⟨w.heap.size + 1, 0, none⟩ = some (.int .i64 b0) ∧ x.cell? ⟨w.heap.size + 1, 1, none⟩ = some (.int .i64 b1) ∧ x.cell? ⟨w.heap.size + 1, 2, none⟩ = some (.int .i64 b2) ∧ x.cell? ⟨w.heap.size + 1, 3, none⟩ = some (.int .i64 b3) ∧ x.cell? ⟨w1.heap.size, 0, none⟩ = some (.int .i64 m0) ∧ x.cell? ⟨w1.heap.size, 1, none⟩ = some (.int .i64 m1) ∧ x.cell? ⟨w1.heap.size, 2, none⟩ = some (.int .i64 m2) ∧ x.cell? ⟨w1.heap.size, 3, none⟩ = some (.int .i64 m3) ∧ x.cell? ⟨w2.heap.size, 0, none⟩ = some (.int .i64 m0) ∧ x.cell? ⟨w2.heap.size, 1, none⟩ = some (.int .i64 m1) ∧ x.cell? ⟨w2.heap.size, 2, none⟩ = some (.int .i64 m2) ∧ x.cell? ⟨w2.heap.size, 3, none⟩ = some (.int .i64 m3) ∧ x.cell? ⟨w3.heap.size, 0, none⟩ = some (.int .i64 j0) ∧ x.cell? ⟨w3.heap.size, 1, none⟩ = some (.int .i64 j1) ∧ x.cell? ⟨w3.heap.size, 2, none⟩ = some (.int .i64 j2) ∧ x.cell? ⟨w3.heap.size, 3, none⟩ = some (.int .i64 j3) ∧ x.cell? ⟨w4.heap.size, 0, none⟩ = some (.int .i64 j0) ∧ x.cell? ⟨w4.heap.size, 1, none⟩ = some (.int .i64 j1) ∧ x.cell? ⟨w4.heap.size, 2, none⟩ = some (.int .i64 j2) ∧ x.cell? ⟨w4.heap.size, 3, none⟩ = some (.int .i64 j3)) := by
    intro x hx
    obtain ⟨_, p0, p1, p2, p3⟩ := A.below hx
    obtain ⟨_, q0, q1, q2, q3⟩ := B.below hx
    obtain ⟨_, r0, r1, r2, r3⟩ := M.below hx
    obtain ⟨_, s0, s1, s2, s3⟩ := N.below hx
    obtain ⟨_, t0, t1, t2, t3⟩ := J.below hx
    obtain ⟨_, u0, u1, u2, u3⟩ := K.below hx
    exact ⟨p0, p1, p2, p3, q0, q1, q2, q3, r0, r1, r2, r3, s0, s1, s2, s3, t0, t1, t2, t3, u0, u1, u2, u3⟩
  have KS := hide KS
  have HB := hide (Below.refl V.heap.size V)
  have H := hide H
  clear A B M N J K hV
  go_region_held3 (fun x => x.cell? ⟨w.heap.size, 0, none⟩ = some (.int .i64 a0) ∧ x.cell? ⟨w.heap.size, 1, none⟩ = some (.int .i64 a1) ∧ x.cell? ⟨w.heap.size, 2, none⟩ = some (.int .i64 a2) ∧ x.cell? ⟨w.heap.size, 3, none⟩ = some (.int .i64 a3) ∧ x.cell? ⟨w.heap.size + 1, 0, none⟩ = some (.int .i64 b0) ∧ x.cell? ⟨w.heap.size + 1, 1, none⟩ = some (.int .i64 b1) ∧ x.cell? ⟨w.heap.size + 1, 2, none⟩ = some (.int .i64 b2) ∧ x.cell? ⟨w.heap.size + 1, 3, none⟩ = some (.int .i64 b3) ∧ x.cell? ⟨w1.heap.size, 0, none⟩ = some (.int .i64 m0) ∧ x.cell? ⟨w1.heap.size, 1, none⟩ = some (.int .i64 m1) ∧ x.cell? ⟨w1.heap.size, 2, none⟩ = some (.int .i64 m2) ∧ x.cell? ⟨w1.heap.size, 3, none⟩ = some (.int .i64 m3) ∧ x.cell? ⟨w2.heap.size, 0, none⟩ = some (.int .i64 m0) ∧ x.cell? ⟨w2.heap.size, 1, none⟩ = some (.int .i64 m1) ∧ x.cell? ⟨w2.heap.size, 2, none⟩ = some (.int .i64 m2) ∧ x.cell? ⟨w2.heap.size, 3, none⟩ = some (.int .i64 m3) ∧ x.cell? ⟨w3.heap.size, 0, none⟩ = some (.int .i64 j0) ∧ x.cell? ⟨w3.heap.size, 1, none⟩ = some (.int .i64 j1) ∧ x.cell? ⟨w3.heap.size, 2, none⟩ = some (.int .i64 j2) ∧ x.cell? ⟨w3.heap.size, 3, none⟩ = some (.int .i64 j3) ∧ x.cell? ⟨w4.heap.size, 0, none⟩ = some (.int .i64 j0) ∧ x.cell? ⟨w4.heap.size, 1, none⟩ = some (.int .i64 j1) ∧ x.cell? ⟨w4.heap.size, 2, none⟩ = some (.int .i64 j2) ∧ x.cell? ⟨w4.heap.size, 3, none⟩ = some (.int .i64 j3)) (first | exact KS.out _ (below_d HB.out (Below.refl _ _) rfl rfl rfl rfl) | go_keep) ((first | (go_at_call 13; refine (C5.out _).mono ?_; rintro e x ⟨rfl, hbx⟩; replace HB := hide (below_d HB.out hbx rfl rfl rfl rfl); clear hbx) | (go_at_call 14; refine (C6.out _).mono ?_; rintro e x ⟨rfl, hbx⟩; replace HB := hide (below_d HB.out hbx rfl rfl rfl rfl); clear hbx) | (go_at_call 15; refine (C7.out _).mono ?_; rintro e x ⟨rfl, hbx⟩; replace HB := hide (below_d HB.out hbx rfl rfl rfl rfl); clear hbx) | (go_at_call 16; refine (C8.out _).mono ?_; rintro e x ⟨rfl, hbx⟩; replace HB := hide (below_d HB.out hbx rfl rfl rfl rfl); clear hbx) | (go_at_call 17; refine (wakes3_any _).mono ?_; rintro e x ⟨rfl, hbx⟩; replace HB := hide (below_d HB.out hbx rfl rfl rfl rfl); clear hbx)))
  all_goals
    refine HA.out _ _ ?_
    go_wp2
    go_ret
    exact ⟨rfl, below_tr H.out (below_d HB.out (Below.refl _ _) rfl rfl rfl rfl)⟩
end Go.Proofs.Ytaaajbpdnbhghaa
