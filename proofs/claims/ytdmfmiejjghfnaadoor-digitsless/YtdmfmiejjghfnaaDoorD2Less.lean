/-
  Near of a whole part and a fraction of eight digits each, and that it does not fall.
-/
import Derived.Test.YtdmfmiejjghfnaaDoorD2Back
import Derived.Test.YtdmfmiejjghfnaaDoorD2Eight
namespace Go.Proofs.YtdmfmiejjghfnaaDoor
open Go.RowKit Go.Lib

def nU (ng : Bool) (a : Nat) : Nat := nUp ng (lastD 8 a)
theorem nU_eq (ng : Bool) (a : Nat) (h : a ≤ 99999999) : nU ng a = a * 65536 / 100000000 + (if 100000000 < 2 * (a * 65536 % 100000000) ∨ (ng = false ∧ 2 * (a * 65536 % 100000000) = 100000000) then 1 else 0) := by
  obtain ⟨h1, _, h3⟩ := lastD_spec 8 a
  unfold nU nUp
  rw [h1, h3, show (10 : Nat) ^ 8 = 100000000 from rfl, Nat.mod_eq_of_lt (by omega)]
theorem nU_mono (ng : Bool) (a b : Nat) (h : b ≤ 99999999) (hab : a ≤ b) : nU ng a ≤ nU ng b ∧ nU ng b ≤ 65536 := by
  rw [nU_eq ng a (by omega), nU_eq ng b h]
  obtain ⟨A, hA⟩ : ∃ A, A = a * 65536 := ⟨_, rfl⟩
  obtain ⟨B, hB⟩ : ∃ B, B = b * 65536 := ⟨_, rfl⟩
  rw [← hA, ← hB]
  have h1 : A ≤ B := by omega
  have h2 : B ≤ 6553599934464 := by omega
  clear hA hB
  cases ng
  · simp only [true_and]
    constructor
    · split <;> split <;> omega
    · split <;> omega
  · simp only [Bool.true_eq_false, false_and, or_false]
    constructor
    · split <;> split <;> omega
    · split <;> omega
theorem near_eight (ng : Bool) (W a : Nat) (hW : W ≤ 9999999) (ha : a ≤ 99999999) :
    nearP ((if ng then [45] else []) ++ (lastD 8 W ++ ([46] ++ lastD 8 a))) = ((if ng then -((W * 65536 + nU ng a : Nat) : Int) else ((W * 65536 + nU ng a : Nat) : Int)), 0) := by
  obtain ⟨w1, w2, w3⟩ := lastD_spec 8 W
  obtain ⟨a1, a2, a3⟩ := lastD_spec 8 a
  have e : (if ng then [45] else []) ++ (lastD 8 W ++ ([46] ++ lastD 8 a)) = numL ng (lastD 8 W) (some (lastD 8 a)) := by
    unfold numL ptF
    rw [List.append_assoc]
    rfl
  rw [e]
  have hW2 : val (lastD 8 W) = W := by rw [w3]; exact Nat.mod_eq_of_lt (by omega)
  have hU := (nU_mono ng a a ha (Nat.le_refl _)).2
  refine near_num ng _ _ w2 (by intro e; rw [e] at w1; simp at w1) ?_ ?_ _ ?_ ?_
  · intro fs h
    obtain rfl := Option.some.inj h
    unfold digs
    rw [a2]
    cases hl : lastD 8 a with
    | nil => rw [hl] at a1; simp at a1
    | cons c r => rfl
  · unfold numL ptF
    cases ng <;> simp [w1, a1]
  · rw [hW2]; rfl
  · apply inB_t
    · split <;> omega
    · split <;> omega
end Go.Proofs.YtdmfmiejjghfnaaDoor
