/-
  What an object that is good by itself holds.
-/
import Derived.Test.YtalmcdbdibpgkaaGreatDoorBF
namespace Go.Proofs.YtalmcdbdibpgkaaGreatDoor
open Go.RowKit Go.Deep

/- what an object that is good by itself holds -/
theorem flat_pay {p : Pay} {n : Nat} (h : flatV p n = true) :
    ((p.kind = 1 ∨ p.flag = false) ∧ (p.kind = 2 ∨ p.kind = 3 ∨ p.kind = 8 ∨ p.num = 0) ∧ (p.kind = 4 ∨ p.kind = 5 ∨ p.text = ⟨#[]⟩) ∧ (p.kind = 7 ∨ p.keys = []) ∧ (p.kind = 6 ∨ p.kind = 7 ∨ n = 0)) ∧
    (p.kind = 0 ∨ p.kind = 1 ∨ (p.kind = 2 ∧ (-1099511627776 ≤ p.num ∧ p.num ≤ 1099511627776)) ∨ (p.kind = 3 ∧ (-1099511627776 ≤ p.num ∧ p.num ≤ 1099511627776) ∧ p.num % 65536 ≠ 0) ∨ (p.kind = 4 ∧ nameB p.text.data.toList = true) ∨ p.kind = 5 ∨ p.kind = 6 ∨ (p.kind = 7 ∧ p.keys.length = n ∧ keysB [] p.keys = true) ∨ (p.kind = 8 ∧ (1 ≤ p.num ∧ p.num ≤ 4096))) := by
  unfold flatV at h
  rw [Bool.and_eq_true] at h
  obtain ⟨h1, h2⟩ := h
  simp only [Bool.not_eq_true', Bool.or_eq_false_iff, Bool.and_eq_false_iff, bne_eq_false_iff_eq] at h1
  obtain ⟨⟨⟨⟨a1, a2⟩, a3⟩, a4⟩, a5⟩ := h1
  refine ⟨⟨?_, ?_, ?_, ?_, ?_⟩, ?_⟩
  · rcases a1 with h | h
    · exact Or.inr h
    · exact Or.inl h
  · rcases a2 with ((h | h) | h) | h
    · exact Or.inr (Or.inr (Or.inr h))
    · exact Or.inl h
    · exact Or.inr (Or.inl h)
    · exact Or.inr (Or.inr (Or.inl h))
  · rcases a3 with (h | h) | h
    · refine Or.inr (Or.inr ?_)
      cases ht : p.text with
      | mk d => rw [ht] at h; cases d with | mk l => cases l with | nil => rfl | cons c l => cases h
    · exact Or.inl h
    · exact Or.inr (Or.inl h)
  · rcases a4 with h | h
    · exact Or.inr (List.eq_nil_of_length_eq_zero h)
    · exact Or.inl h
  · rcases a5 with (h | h) | h
    · exact Or.inr (Or.inr h)
    · exact Or.inl h
    · exact Or.inr (Or.inl h)
  · split at h2
    · rename_i k; exact Or.inr (Or.inr (Or.inl ⟨k, of_decide_eq_true h2⟩))
    split at h2
    · rename_i k
      rw [Bool.and_eq_true] at h2
      exact Or.inr (Or.inr (Or.inr (Or.inl ⟨k, of_decide_eq_true h2.1, of_decide_eq_true h2.2⟩)))
    split at h2
    · rename_i k; exact Or.inr (Or.inr (Or.inr (Or.inr (Or.inl ⟨k, h2⟩))))
    split at h2
    · rename_i k; exact Or.inr (Or.inr (Or.inr (Or.inr (Or.inr (Or.inl k)))))
    split at h2
    · rename_i k
      rw [Bool.and_eq_true] at h2
      exact Or.inr (Or.inr (Or.inr (Or.inr (Or.inr (Or.inr (Or.inr (Or.inl ⟨k, of_decide_eq_true h2.1, h2.2⟩)))))))
    split at h2
    · rename_i k; exact Or.inr (Or.inr (Or.inr (Or.inr (Or.inr (Or.inr (Or.inr (Or.inr ⟨k, of_decide_eq_true h2⟩)))))))
    · simp only [Bool.or_eq_true, beq_iff_eq] at h2
      rcases h2 with (h2 | h2) | h2
      · exact Or.inl h2
      · exact Or.inr (Or.inl h2)
      · exact Or.inr (Or.inr (Or.inr (Or.inr (Or.inr (Or.inr (Or.inl h2))))))
end Go.Proofs.YtalmcdbdibpgkaaGreatDoor
