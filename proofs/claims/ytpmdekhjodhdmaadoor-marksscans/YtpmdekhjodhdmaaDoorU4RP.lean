/-
  The reference's way of reading one code point (chapter 4), in plain words: it comes to the same.
-/
import Derived.Test.YtpmdekhjodhdmaaDoorU4ROne
namespace Go.Proofs.YtpmdekhjodhdmaaDoor

def accN (l : List UInt8) (p : Nat) : Nat → Nat
  | 0 => p
  | k + 1 => accN l p k * 64 + ((l.getD (k + 1) 0).toNat - 128)
theorem acc1 (l : List UInt8) (p : Nat) : accN l p 1 = p * 64 + ((l.getD 1 0).toNat - 128) := rfl
theorem acc2 (l : List UInt8) (p : Nat) : accN l p 2 = (p * 64 + ((l.getD 1 0).toNat - 128)) * 64 + ((l.getD 2 0).toNat - 128) := rfl
theorem acc3 (l : List UInt8) (p : Nat) : accN l p 3 = ((p * 64 + ((l.getD 1 0).toNat - 128)) * 64 + ((l.getD 2 0).toNat - 128)) * 64 + ((l.getD 3 0).toNat - 128) := rfl
set_option maxRecDepth 100000 in
theorem u8_lead (c : Nat) (r : List UInt8) (hp : isP (c : Int) = true) :
    (leadN ((e8 c ++ r).getD 0 0).toNat).1 = (e8 c).length ∧ accN (e8 c ++ r) (leadN ((e8 c ++ r).getD 0 0).toNat).2 ((e8 c).length - 1) = c ∧ ∀ j, 1 ≤ j → j < (e8 c).length → 128 ≤ ((e8 c ++ r).getD j 0).toNat ∧ ((e8 c ++ r).getD j 0).toNat ≤ 191 := by
  have hc := isP_t.1 hp
  by_cases c1 : c < 128
  · rw [u8_1 c1]
    have e : leadN c = (1, c) := by unfold leadN; rw [if_pos c1]
    simp only [List.cons_append, List.nil_append, List.getD_cons_zero, bt_nat c (by omega), e, List.length_cons, List.length_nil]
    exact ⟨trivial, rfl, fun j h1 h2 => by omega⟩
  by_cases c2 : c < 2048
  · rw [u8_2 (by omega) c2]
    have e : leadN (192 + c / 64) = (2, c / 64) := by unfold leadN; rw [if_neg (by omega), if_pos (by omega)]; congr 1; omega
    simp only [List.cons_append, List.nil_append, List.getD_cons_zero, bt_nat (192 + c / 64) (by omega), e, List.length_cons, List.length_nil]
    refine ⟨trivial, ?_, fun j h1 h2 => ?_⟩
    · show accN _ _ 1 = c
      rw [acc1]
      simp only [List.getD_cons_zero, List.getD_cons_succ, bt_nat (128 + c % 64) (by omega)]
      omega
    · obtain rfl : j = 1 := by omega
      simp only [List.getD_cons_zero, List.getD_cons_succ, bt_nat (128 + c % 64) (by omega)]
      omega
  by_cases c3 : c < 65536
  · rw [u8_3 (by omega) c3]
    have e : leadN (224 + c / 4096) = (3, c / 4096) := by unfold leadN; rw [if_neg (by omega), if_neg (by omega), if_pos (by omega)]; congr 1; omega
    simp only [List.cons_append, List.nil_append, List.getD_cons_zero, bt_nat (224 + c / 4096) (by omega), e, List.length_cons, List.length_nil]
    refine ⟨trivial, ?_, fun j h1 h2 => ?_⟩
    · show accN _ _ 2 = c
      rw [acc2]
      simp only [List.getD_cons_zero, List.getD_cons_succ, bt_nat (128 + c / 64 % 64) (by omega), bt_nat (128 + c % 64) (by omega)]
      omega
    · rcases (show j = 1 ∨ j = 2 by omega) with rfl | rfl
      · simp only [List.getD_cons_zero, List.getD_cons_succ, bt_nat (128 + c / 64 % 64) (by omega)]
        omega
      · simp only [List.getD_cons_zero, List.getD_cons_succ, bt_nat (128 + c % 64) (by omega)]
        omega
  · rw [u8_4 (by omega)]
    have e : leadN (240 + c / 262144) = (4, c / 262144) := by unfold leadN; rw [if_neg (by omega), if_neg (by omega), if_neg (by omega), if_pos (by omega)]; exact Prod.ext rfl (by simp only; omega)
    simp only [List.cons_append, List.nil_append, List.getD_cons_zero, bt_nat (240 + c / 262144) (by omega), e, List.length_cons, List.length_nil]
    refine ⟨trivial, ?_, fun j h1 h2 => ?_⟩
    · show accN _ _ 3 = c
      rw [acc3]
      simp only [List.getD_cons_zero, List.getD_cons_succ, bt_nat (128 + c / 4096 % 64) (by omega), bt_nat (128 + c / 64 % 64) (by omega), bt_nat (128 + c % 64) (by omega)]
      omega
    · rcases (show j = 1 ∨ j = 2 ∨ j = 3 by omega) with rfl | rfl | rfl
      · simp only [List.getD_cons_zero, List.getD_cons_succ, bt_nat (128 + c / 4096 % 64) (by omega)]
        omega
      · simp only [List.getD_cons_zero, List.getD_cons_succ, bt_nat (128 + c / 64 % 64) (by omega)]
        omega
      · simp only [List.getD_cons_zero, List.getD_cons_succ, bt_nat (128 + c % 64) (by omega)]
        omega

/- where a code point is read, the reference reads it too -/
theorem st_lead (l : List UInt8) (h : (st8 l).2 ≠ 0) :
    (leadN (l.getD 0 0).toNat).1 = (st8 l).2 ∧ (st8 l).2 ≤ l.length ∧ accN l (leadN (l.getD 0 0).toNat).2 ((st8 l).2 - 1) = (st8 l).1 ∧ (∀ j, 1 ≤ j → j < (st8 l).2 → 128 ≤ (l.getD j 0).toNat ∧ (l.getD j 0).toNat ≤ 191) ∧ isP ((st8 l).1 : Int) = true ∧ e8 (st8 l).1 = l.take (st8 l).2 := by
  obtain ⟨h1, h2, h3⟩ := code8.good l h
  have hl : l = e8 (st8 l).1 ++ l.drop (st8 l).2 := by rw [h2]; exact (List.take_append_drop _ _).symm
  have hn : (e8 (st8 l).1).length = (st8 l).2 := by rw [h2, List.length_take]; omega
  obtain ⟨a1, a2, a3⟩ := u8_lead (st8 l).1 (l.drop (st8 l).2) h1
  rw [← hl, hn] at a1 a2 a3
  exact ⟨a1, h3, a2, a3, h1, h2⟩
theorem bad_lead (l : List UInt8) (h : (leadN (l.getD 0 0).toNat).1 = 0 ∨ l.length < (leadN (l.getD 0 0).toNat).1) : (st8 l).2 = 0 := by
  rcases Nat.eq_zero_or_pos (st8 l).2 with h0 | h0
  · exact h0
  · obtain ⟨h1, h2, _⟩ := st_lead l (by omega)
    omega
theorem bad_next (l : List UInt8) (j : Nat) (h1 : 1 ≤ j) (h2 : j < (leadN (l.getD 0 0).toNat).1) (h : ¬ (128 ≤ (l.getD j 0).toNat ∧ (l.getD j 0).toNat ≤ 191)) : (st8 l).2 = 0 := by
  rcases Nat.eq_zero_or_pos (st8 l).2 with h0 | h0
  · exact h0
  · obtain ⟨a1, _, _, a4, _⟩ := st_lead l (by omega)
    exact absurd (a4 j h1 (by omega)) h
theorem bad_code (l : List UInt8) (c n : Nat) (hn : (leadN (l.getD 0 0).toNat).1 = n) (hc : accN l (leadN (l.getD 0 0).toNat).2 (n - 1) = c) (h : isP (c : Int) = false ∨ e8 c ≠ l.take n) : (st8 l).2 = 0 := by
  rcases Nat.eq_zero_or_pos (st8 l).2 with h0 | h0
  · exact h0
  · obtain ⟨a1, _, a3, _, a5, a6⟩ := st_lead l (by omega)
    obtain rfl : n = (st8 l).2 := by omega
    obtain rfl : c = (st8 l).1 := by omega
    rcases h with h | h
    · rw [a5] at h; exact absurd h (by simp)
    · exact absurd a6 h
theorem good_code (l : List UInt8) (c n : Nat) (hp : isP (c : Int) = true) (h : e8 c = l.take n) (hn : n ≤ l.length) : st8 l = (c, n) := by
  have hl : l = e8 c ++ l.drop n := by rw [h]; exact (List.take_append_drop _ _).symm
  have := code8.back c (l.drop n) hp
  rw [← hl, h, List.length_take] at this
  rw [this]
  exact Prod.ext rfl (by simp only; omega)
theorem accN_lt (l : List UInt8) (p k : Nat) (hp : p < 128) : accN l p k + 3 ≤ 131 * 64 ^ k := by
  induction k with
  | zero =>
    rw [Nat.pow_zero]
    unfold accN
    omega
  | succ k ih =>
    have := (l.getD (k + 1) 0).toNat_lt
    have e : accN l p (k + 1) = accN l p k * 64 + ((l.getD (k + 1) 0).toNat - 128) := rfl
    rw [e, Nat.pow_succ]
    generalize accN l p k = A at *
    generalize 64 ^ k = B at *
    omega
theorem leadN_bd (b : Nat) (h : b < 256) : (leadN b).1 ≤ 4 ∧ (leadN b).2 < 128 := by
  unfold leadN
  repeat' split
  all_goals (simp only; omega)
end Go.Proofs.YtpmdekhjodhdmaaDoor
