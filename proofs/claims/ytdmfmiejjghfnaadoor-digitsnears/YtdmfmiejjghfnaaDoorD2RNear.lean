/-
  What the reference's Near (chapter 2) answers: the walk.
-/
import Derived.Test.YtdmfmiejjghfnaaDoorD2Bits
import Derived.Test.YtdmfmiejjghfnaaDoorD2Form
import Derived.Test.YtdmfmiejjghfnaaDoorInR
namespace Go.Proofs.YtdmfmiejjghfnaaDoor
open Go.RowKit

theorem OwnI.lst {w : World} {B n : Nat} {v : Value} {ys : List Nat} (h : OwnI w B v n ys) : ∃ a cap, v = .slice a n cap ∧ Lst w a (toI ys) ∧ (toI ys).length = n := by
  have hl : ys.length = n := by have := h.1; simp at this; omega
  have ht : (toI ys).length = n := by simp [toI, hl]
  have h' := h
  obtain ⟨_, ⟨h0, h1⟩ | ⟨g, cap, cur, hv, hb, _⟩⟩ := h'
  · refine ⟨none, 0, ?_, Or.inl ?_, ht⟩
    · rw [h0]; congr 1; omega
    · have : ys = [] := List.eq_nil_of_length_eq_zero (by omega)
      rw [this]; rfl
  · subst hv
    refine ⟨some ⟨g, 0, none⟩, cap, rfl, Or.inr ⟨g, 0, rfl, (World.ownsRow.lt h g rfl).2, fun i hi => ?_⟩, ht⟩
    have hi' : i < ys.length := by omega
    have := h.at i ys[i] (List.getElem?_eq_getElem hi')
    rw [Nat.zero_add, this]
    simp [toI, hi']

theorem rnear_long (s : ByteArray) (w : World) (h : (40 : Int) < (s.size : Int)) :
    Calls Tryd.prog 15 #[.string s] w fun e w' => e = .returned (.tuple #[.int .i64 0, .int .i64 2]) ∧ w' = w := by
  go_enter Tryd.func15, Tryd.ntmps15
  go_wp2
  go_ret2
  exact ⟨rfl, rfl⟩
theorem rnear_bad (s : ByteArray) (w : World) (h : ¬ (40 : Int) < (s.size : Int)) (cF : Calls Tryd.prog 28 #[.string s] w fun e w' => e = .returned (.tuple #[.int .i64 0, .int .i64 0, .int .i64 0, .bool false]) ∧ w' = w) :
    Calls Tryd.prog 15 #[.string s] w fun e w' => e = .returned (.tuple #[.int .i64 0, .int .i64 20]) ∧ w' = w := by
  have CF := hide cF
  clear cF
  go_enter Tryd.func15, Tryd.ntmps15
  go_wp2_with (go_at_call 28; refine CF.out.mono ?_; rintro e w' ⟨rfl, rfl⟩)
  go_ret2
  exact ⟨rfl, rfl⟩

set_option maxHeartbeats 2000000 in
theorem rnear_core (s t : ByteArray) (w : World) (h : (s.size : Int) ≤ 40) (h0 : 0 < s.size) (ng : Bool) (hng : ((s[0].toNat : Int) == 45) = ng) (A E Bh W n : Nat) (P : Nat → Nat) (ZS : List Nat) (H : Int)
    (hAE : A ≤ E) (hE : E ≤ s.size) (hB : (Bh : Int) ≤ (s.size : Int)) (ht : s.extract Bh s.size = t) (hn : (n : Int) ≤ 65535)
    (hP0 : P A = 0) (hPE : P E = W) (hPs : ∀ k, A ≤ k → (hk : k < E) → ∃ d : Nat, ∃ hk' : k < s.size, (s[k].toNat : Int) = 48 + (d : Int) ∧ d ≤ 9 ∧ P (k + 1) = 10 * P k + d) (hPm : ∀ k, A ≤ k → k ≤ E → P k ≤ W)
    (cF : Calls Tryd.prog 28 #[.string s] w fun e w' => e = .returned (.tuple #[.int .i64 A, .int .i64 E, .int .i64 Bh, .bool true]) ∧ w' = w)
    (cB : ∀ w, Calls Tryd.prog 29 #[.string t] w fun e w' => ∃ v, e = .returned (.tuple #[.int .i64 n, v]) ∧ OwnI w' w.heap.size v t.size ZS ∧ Below w.heap.size w w')
    (hts : t.size ≤ 40) (hH : hfV (toI ZS) = H) (hHr : H = -1 ∨ H = 0 ∨ H = 1) (V : Value)
    (X : Int) (hX : X = if ng then -((W : Int) * 65536 + (n : Int) + (if H = 1 then 1 else 0)) else (W : Int) * 65536 + (n : Int) + (if 0 ≤ H then 1 else 0))
    (hV : V = if inB X then .tuple #[.int .i64 X, .int .i64 0] else .tuple #[.int .i64 0, .int .i64 3]) :
    Calls Tryd.prog 15 #[.string s] w fun e w' => e = .returned V ∧ Below w.heap.size w w' := by
  have CF := hide cF
  have CB := hide cB
  have HP0 := hide hP0
  have HPE := hide hPE
  have HPS := hide hPs
  have HPM := hide hPm
  have HAE := hide hAE
  have HE := hide hE
  have HX := hide hX
  have HH := hide hH
  have HT := hide hts
  have HV := hide hV
  clear cF cB hP0 hPE hPs hPm hX hH hts hAE hE hV
  have h40 : ¬ (40 : Int) < (s.size : Int) := by omega
  go_enter Tryd.func15, Tryd.ntmps15
  go_wp2_with (go_at_call 28; refine CF.out.mono ?_; rintro e w' ⟨rfl, rfl⟩)
  go_loop [8, 9] (fun vw vi => ∃ k p : Nat, vi = .int .i64 k ∧ vw = .int .i64 p ∧ Hid (A ≤ k ∧ k ≤ E ∧ P k = p ∧ p ≤ 1073741824)) (fun _ vi => E - (intOf vi).toNat)
  case atStart => exact ⟨A, 0, rfl, rfl, hide ⟨Nat.le_refl _, HAE.out, HP0.out, by omega⟩⟩
  case round =>
    obtain ⟨k, p, rfl, rfl, HK⟩ := hrel
    obtain ⟨k1, k2, k3, k4⟩ := HK.out
    clear HK
    have hp : (p : Int) ≤ 1073741824 := by omega
    by_cases hlt : k < E
    · have hlt' : (k : Int) < (E : Int) := by omega
      obtain ⟨d, hk, d1, d2, d3⟩ := HPS.out k k1 hlt
      have hk' : (k : Int) < (s.size : Int) := by omega
      have d4 : (d : Int) ≤ 9 := by omega
      have hm := HPM.out (k + 1) (by omega) (by omega)
      rw [d3, k3] at hm
      have HD3 := hide (show P (k + 1) = p * 10 + d by rw [d3, k3]; omega)
      have HK1 := hide (show A ≤ k + 1 ∧ k + 1 ≤ E from ⟨by omega, by omega⟩)
      by_cases h30 : 1073741824 < p * 10 + d
      · have g1 : decide ((1073741824 : Int) < (p : Int) * 10 + (d : Int)) = true := by simp; omega
        have hin : inB X = false := by
          have hx := HX.out
          apply inB_f
          rw [hx]
          cases ng
          · simp only [Bool.false_eq_true, if_false]
            split <;> omega
          · simp only [if_true]
            split <;> omega
        obtain rfl : V = .tuple #[.int .i64 0, .int .i64 3] := by rw [HV.out, hin]; rfl
        have g2 : (1073741824 : Int) < (p : Int) * 10 + (d : Int) := by omega
        clear k1 k2 k3 k4 d2 d3 hm hin h30 HV
        go_wp2
        go_ret2
        exact ⟨rfl, Below.refl _ _⟩
      · have g1 : (p : Int) * 10 + (d : Int) ≤ 1073741824 := by omega
        have HL := hide (show p * 10 + d ≤ 1073741824 by omega)
        clear k1 k2 k3 k4 d2 d3 hm h30
        go_wp2
        go_round
        case rel => exact ⟨k + 1, p * 10 + d, by go_num, by go_num, hide ⟨HK1.out.1, HK1.out.2, HD3.out, HL.out⟩⟩
        case measure => simp [intOf]; omega
    · have hlt' : ¬ (k : Int) < (E : Int) := by omega
      obtain rfl : k = E := by omega
      obtain rfl : p = W := by rw [← k3, HPE.out]
      have hx := HX.out
      have hv := HV.out
      have HH2 := HH.out
      clear k1 k2 k3 k4 HX HV HPS HPM HPE HP0
      rcases hHr with rfl | rfl | rfl
      all_goals
        cases ng
        all_goals
          simp at hx
          cases hi : inB X
          all_goals
            rw [hi] at hv
            simp only [if_true, Bool.false_eq_true, if_false] at hv
            subst hv
            rw [hx] at hi
            first | subst hx | skip
            go_wp2_with (first | (go_at_call 29; refine (CB.out _).mono ?_; rintro e w1 ⟨v, rfl, hown, hb1⟩; obtain ⟨a, cap, rfl, hL, hlen⟩ := hown.lst) | (go_at_call 30; refine (half_any _ _ _ _ _ hlen (by have := HT.out; omega) hL).mono ?_; rintro e w2 ⟨rfl, hw2⟩; rw [hw2, HH2]; clear hw2) | (go_at_call 20; refine (rin_any _ _).mono ?_; rintro e w2 ⟨rfl, hw2⟩; rw [hw2]; clear hw2))
            go_ret2
            exact ⟨rfl, hb1⟩
end Go.Proofs.YtdmfmiejjghfnaaDoor
