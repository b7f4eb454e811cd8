/-
  What digits.Near answers.
-/
import Derived.Test.YtdmfmiejjghfnaaDoorD2Ovh
import Derived.Test.YtdmfmiejjghfnaaDoorD2Text
import Derived.Deep.Draws
import Derived.WalkSmall
namespace Go.Proofs.YtdmfmiejjghfnaaDoor
open Go.RowKit Go.Lib

theorem near_long (s : ByteArray) (w : World) (h : (40 : Int) < (s.size : Int)) :
    Calls Tryd.prog 14 #[.string s] w fun e w' => e = .returned (.tuple #[.int .i64 0, .int .i64 2]) ∧ w' = w := by
  go_enter Tryd.func14, Tryd.ntmps14
  go_wp2
  go_ret2
  exact ⟨rfl, rfl⟩

structure NearC (s nb wh fr : ByteArray) (below pt : Bool) (w : World) : Prop where
  c1 : Calls Tryd.prog 22 #[.string s, .string ⟨#[45]⟩] w fun e w' => e = .returned (.tuple #[.string nb, .bool below]) ∧ w' = w
  c2 : Calls Tryd.prog 23 #[.string nb, .string ⟨#[46]⟩] w fun e w' => e = .returned (.tuple #[.string wh, .string fr, .bool pt]) ∧ ∃ n, w' = w.drewN n
  c3 : ∀ x w, x = wh ∨ x = fr → Calls Tryd.prog 24 #[.string x] w fun e w' => e = .returned (.bool (digs x.data.toList)) ∧ w' = w

set_option maxHeartbeats 1000000 in
theorem near_bad (s nb wh fr : ByteArray) (below pt : Bool) (w : World) (h : ¬ (40 : Int) < (s.size : Int)) (C : NearC s nb wh fr below pt w) (hbad : digs wh.data.toList = false ∨ (digs wh.data.toList = true ∧ pt = true ∧ digs fr.data.toList = false)) :
    Calls Tryd.prog 14 #[.string s] w fun e w' => e = .returned (.tuple #[.int .i64 0, .int .i64 20]) ∧ Below w.heap.size w w' := by
  have HC := hide C
  clear C
  rcases hbad with fw | ⟨fw, rfl, ff⟩
  all_goals
    go_enter Tryd.func14, Tryd.ntmps14
    go_wp2_with (first | (go_at_call 22; refine HC.out.c1.mono ?_; rintro e w' ⟨rfl, hw⟩; rw [hw]; clear hw) | (go_at_call 23; refine HC.out.c2.mono ?_; rintro e w' ⟨rfl, n, hw⟩; rw [hw]; clear hw) | (go_at_call 24; refine (HC.out.c3 _ _ (by first | exact Or.inl rfl | exact Or.inr rfl)).mono ?_; rintro e w' ⟨rfl, hw⟩; rw [hw]; clear hw; first | rw [fw] | rw [ff]))
    go_ret2
    exact ⟨rfl, below_drewN (Below.refl _ _) n⟩

set_option maxHeartbeats 1000000 in
theorem near_over (s nb wh fr t : ByteArray) (below pt : Bool) (w : World) (h : ¬ (40 : Int) < (s.size : Int)) (C : NearC s nb wh fr below pt w) (fw : digs wh.data.toList = true) (hok : pt = false ∨ (pt = true ∧ digs fr.data.toList = true))
    (c5 : ∀ w, Calls Tryd.prog 25 #[.string wh, .string ⟨#[48]⟩] w fun e w' => e = .returned (.string t) ∧ w' = w) (ht : (8 : Int) < (t.size : Int)) :
    Calls Tryd.prog 14 #[.string s] w fun e w' => e = .returned (.tuple #[.int .i64 0, .int .i64 3]) ∧ Below w.heap.size w w' := by
  have HC := hide C
  have C5 := hide c5
  clear C c5
  rcases hok with rfl | ⟨rfl, ff⟩
  all_goals
    go_enter Tryd.func14, Tryd.ntmps14
    go_wp2_with (first | (go_at_call 22; refine HC.out.c1.mono ?_; rintro e w' ⟨rfl, hw⟩; rw [hw]; clear hw) | (go_at_call 23; refine HC.out.c2.mono ?_; rintro e w' ⟨rfl, n, hw⟩; rw [hw]; clear hw) | (go_at_call 24; refine (HC.out.c3 _ _ (by first | exact Or.inl rfl | exact Or.inr rfl)).mono ?_; rintro e w' ⟨rfl, hw⟩; rw [hw]; clear hw; first | rw [fw] | rw [ff]) | (go_at_call 25; refine (C5.out _).mono ?_; rintro e w' ⟨rfl, hw⟩; rw [hw]; clear hw))
    go_ret2
    exact ⟨rfl, below_drewN (Below.refl _ _) n⟩

set_option maxHeartbeats 1000000 in
theorem near_good (s nb wh fr t : ByteArray) (below pt : Bool) (w : World) (h : ¬ (40 : Int) < (s.size : Int)) (C : NearC s nb wh fr below pt w) (fw : digs wh.data.toList = true) (hok : pt = false ∨ (pt = true ∧ digs fr.data.toList = true))
    (c5 : ∀ w, Calls Tryd.prog 25 #[.string wh, .string ⟨#[48]⟩] w fun e w' => e = .returned (.string t) ∧ w' = w) (ht : ¬ (8 : Int) < (t.size : Int))
    (W X : Nat) (hW : (W : Int) ≤ 99999999) (hX : (X : Int) ≤ 65536)
    (c6 : ∀ w, Calls Tryd.prog 26 #[.string t] w fun e w' => e = .returned (.int .i64 W) ∧ w' = w)
    (c7 : ∀ w, Calls Tryd.prog 27 #[.string fr, .bool below] w fun e w' => e = .returned (.int .i64 X) ∧ Below w.heap.size w w')
    (V : Int) (hV : V = if below then -((W : Int) * 65536 + (X : Int)) else (W : Int) * 65536 + (X : Int)) :
    Calls Tryd.prog 14 #[.string s] w fun e w' => e = .returned (if inB V then .tuple #[.int .i64 V, .int .i64 0] else .tuple #[.int .i64 0, .int .i64 3]) ∧ Below w.heap.size w w' := by
  have HC := hide C
  have C5 := hide c5
  have C6 := hide c6
  have C7 := hide c7
  clear C c5 c6 c7
  cases below
  · obtain rfl : V = (W : Int) * 65536 + (X : Int) := by rw [hV]; rfl
    clear hV
    cases hi : inB ((W : Int) * 65536 + (X : Int))
    all_goals
      rcases hok with rfl | ⟨rfl, ff⟩
      all_goals
        go_enter Tryd.func14, Tryd.ntmps14
        go_wp2_with (first | (go_at_call 22; refine HC.out.c1.mono ?_; rintro e w' ⟨rfl, hw⟩; rw [hw]; clear hw) | (go_at_call 23; refine HC.out.c2.mono ?_; rintro e w' ⟨rfl, n, hw⟩; rw [hw]; clear hw) | (go_at_call 24; refine (HC.out.c3 _ _ (by first | exact Or.inl rfl | exact Or.inr rfl)).mono ?_; rintro e w' ⟨rfl, hw⟩; rw [hw]; clear hw; first | rw [fw] | rw [ff]) | (go_at_call 25; refine (C5.out _).mono ?_; rintro e w' ⟨rfl, hw⟩; rw [hw]; clear hw) | (go_at_call 26; refine (C6.out _).mono ?_; rintro e w' ⟨rfl, hw⟩; rw [hw]; clear hw) | (go_at_call 27; refine (C7.out _).mono ?_; rintro e w2 ⟨rfl, hb⟩) | (go_at_call 17; refine (in_any _ _).mono ?_; rintro e w' ⟨rfl, hw⟩; rw [hw]; clear hw))
        go_ret2
        exact ⟨rfl, (below_drewN (Below.refl _ _) n).trans hb⟩
  · obtain rfl : V = -((W : Int) * 65536 + (X : Int)) := by rw [hV]; rfl
    clear hV
    cases hi : inB (-((W : Int) * 65536 + (X : Int)))
    all_goals
      rcases hok with rfl | ⟨rfl, ff⟩
      all_goals
        go_enter Tryd.func14, Tryd.ntmps14
        go_wp2_with (first | (go_at_call 22; refine HC.out.c1.mono ?_; rintro e w' ⟨rfl, hw⟩; rw [hw]; clear hw) | (go_at_call 23; refine HC.out.c2.mono ?_; rintro e w' ⟨rfl, n, hw⟩; rw [hw]; clear hw) | (go_at_call 24; refine (HC.out.c3 _ _ (by first | exact Or.inl rfl | exact Or.inr rfl)).mono ?_; rintro e w' ⟨rfl, hw⟩; rw [hw]; clear hw; first | rw [fw] | rw [ff]) | (go_at_call 25; refine (C5.out _).mono ?_; rintro e w' ⟨rfl, hw⟩; rw [hw]; clear hw) | (go_at_call 26; refine (C6.out _).mono ?_; rintro e w' ⟨rfl, hw⟩; rw [hw]; clear hw) | (go_at_call 27; refine (C7.out _).mono ?_; rintro e w2 ⟨rfl, hb⟩) | (go_at_call 17; refine (in_any _ _).mono ?_; rintro e w' ⟨rfl, hw⟩; rw [hw]; clear hw))
        go_ret2
        exact ⟨rfl, (below_drewN (Below.refl _ _) n).trans hb⟩
end Go.Proofs.YtdmfmiejjghfnaaDoor
