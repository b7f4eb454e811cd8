/-
  What is written is read as it was, and what is read is written as it was (plain).
-/
import Derived.Test.YtncmkiejamkklaaDoorU4Enc
import Derived.Test.YtncmkiejamkklaaDoorU4NarB
namespace Go.Proofs.YtncmkiejamkklaaDoor

theorem rdR_back {enc : Nat → List UInt8} {st : List UInt8 → Nat × Nat} (C : Code enc st) (zs : List Int) (h : zs.all isP = true) : ∀ (f p : Nat) (acc : List Int), (encs enc zs).length ≤ f → rdR st f (encs enc zs) p acc = (acc ++ zs, 0, 0) := by
  induction zs with
  | nil =>
    intro f p acc _
    rw [List.append_nil]
    cases f <;> simp [rdR, encs]
  | cons z zs ih =>
    intro f p acc hf
    simp only [List.all_cons, Bool.and_eq_true] at h
    have hz := isP_t.1 h.1
    have e : encs enc (z :: zs) = enc z.toNat ++ encs enc zs := rfl
    have hl := C.len z.toNat
    rw [e, List.length_append] at hf
    obtain ⟨g, rfl⟩ : ∃ g, f = g + 1 := ⟨f - 1, by omega⟩
    have hs := C.back z.toNat (encs enc zs) (by rw [show ((z.toNat : Nat) : Int) = z by omega]; exact h.1)
    have hne : enc z.toNat ++ encs enc zs ≠ [] := by
      intro h0
      have := congrArg List.length h0
      rw [List.length_append, List.length_nil] at this
      omega
    rw [e, rdR, if_neg hne, hs, if_neg (by simp only; omega)]
    simp only
    rw [List.drop_left' rfl, ih h.2 g _ _ (by omega), show ((z.toNat : Nat) : Int) = z by omega, List.append_assoc]
    rfl
theorem rd_back {enc : Nat → List UInt8} {st : List UInt8 → Nat × Nat} (C : Code enc st) (zs : List Int) (h : zs.all isP = true) (p : Nat) : rd st (encs enc zs) p = (zs, 0, 0) := by
  have := rdR_back C zs h _ p [] (Nat.le_refl _)
  rwa [List.nil_append] at this
theorem rdR_fwd {enc : Nat → List UInt8} {st : List UInt8 → Nat × Nat} (C : Code enc st) : ∀ (f : Nat) (l : List UInt8) (p : Nat) (acc R : List Int) (P E : Nat), l.length ≤ f → rdR st f l p acc = (R, P, E) →
    (E = 0 ∧ ∃ zs, R = acc ++ zs ∧ encs enc zs = l ∧ zs.all isP = true) ∨ (E = 40 ∧ R = [] ∧ p ≤ P ∧ P < p + l.length ∧ ∃ zs, encs enc zs = l.take (P - p) ∧ zs.all isP = true) := by
  intro f
  induction f with
  | zero =>
    intro l p acc R P E hl h
    obtain rfl : l = [] := List.eq_nil_of_length_eq_zero (by omega)
    simp only [rdR, Prod.mk.injEq] at h
    exact Or.inl ⟨h.2.2.symm, [], by rw [List.append_nil]; exact h.1.symm, rfl, rfl⟩
  | succ f ih =>
    intro l p acc R P E hl h
    unfold rdR at h
    split at h
    · rename_i h0
      simp only [Prod.mk.injEq] at h
      exact Or.inl ⟨h.2.2.symm, [], by rw [List.append_nil]; exact h.1.symm, by rw [h0]; rfl, rfl⟩
    rename_i h0
    have hpos : 0 < l.length := List.length_pos_iff.2 h0
    split at h
    · simp only [Prod.mk.injEq] at h
      obtain ⟨rfl, rfl, rfl⟩ := h
      exact Or.inr ⟨rfl, rfl, Nat.le_refl _, by omega, [], by simp [encs], rfl⟩
    · rename_i h1
      obtain ⟨g1, g2, g3⟩ := C.good l h1
      have hz : encs enc [((st l).1 : Int)] = l.take (st l).2 := by simp [encs, g2]
      rcases ih _ _ _ _ _ _ (by rw [List.length_drop]; omega) h with ⟨e0, zs, r1, r2, r3⟩ | ⟨e0, r0, r1, r2, zs, r3, r4⟩
      · refine Or.inl ⟨e0, ((st l).1 : Int) :: zs, by rw [r1]; simp, ?_, by simp [g1, r3]⟩
        rw [show ((st l).1 : Int) :: zs = [((st l).1 : Int)] ++ zs from rfl]
        unfold encs at hz r2 ⊢
        rw [List.flatMap_append, hz, r2, List.take_append_drop]
      · rw [List.length_drop] at r2
        refine Or.inr ⟨e0, r0, by omega, by omega, ((st l).1 : Int) :: zs, ?_, by simp [g1, r4]⟩
        rw [show ((st l).1 : Int) :: zs = [((st l).1 : Int)] ++ zs from rfl]
        unfold encs at hz r3 ⊢
        rw [List.flatMap_append, hz, r3, ← List.take_add, show (st l).2 + (P - (p + (st l).2)) = P - p by omega]
theorem rd_fwd {enc : Nat → List UInt8} {st : List UInt8 → Nat × Nat} (C : Code enc st) (l : List UInt8) (R : List Int) (P E : Nat) (h : rd st l 0 = (R, P, E)) :
    (E = 0 ∧ encs enc R = l ∧ R.all isP = true) ∨ (E = 40 ∧ R = [] ∧ P < l.length ∧ ∃ zs, rd st (l.take P) 0 = (zs, 0, 0) ∧ zs.length ≤ P) := by
  rcases rdR_fwd C _ l 0 [] R P E (Nat.le_refl _) h with ⟨e0, zs, r1, r2, r3⟩ | ⟨e0, r0, _, r2, zs, r3, r4⟩
  · rw [List.nil_append] at r1
    subst r1
    exact Or.inl ⟨e0, r2, r3⟩
  · rw [Nat.sub_zero] at r3
    refine Or.inr ⟨e0, r0, by omega, zs, by rw [← r3]; exact rd_back C zs r4 0, ?_⟩
    have := (encs_len C zs).1
    rw [r3, List.length_take] at this
    omega
theorem wr_ok {enc : Nat → List UInt8} {pre : List UInt8} {zs : List Int} (h : zs.all isP = true) : wrS enc pre zs = pre ++ encs enc zs ∧ wrE zs = 0 := by
  unfold wrS wrE
  rw [h]
  exact ⟨rfl, rfl⟩
theorem wr_bad {zs : List Int} (h : zs.all isP = false) : wrE zs = 40 := by
  unfold wrE
  rw [h]
  rfl
theorem nar_back (zs : List Int) (h : zs.all isP = true) : narV ([254, 255] ++ encs e16 zs) = (zs, 0, 0) := by
  have hp : Lib.hasPrefix ([254, 255] ++ encs e16 zs) [254, 255] = true := (pre_two _).2 ⟨_, rfl⟩
  unfold narV
  rw [if_pos hp]
  exact rd_back code16 zs h 2
end Go.Proofs.YtncmkiejamkklaaDoor
