/-
  What the stretches are: no blanks within, blanks alone between, and two never touch (plain).
-/
import Derived.Test.YtncmkiejamkklabDoorU4Wrd
namespace Go.Proofs.YtncmkiejamkklabDoor

/- where the i-th begins and ends, and where the one ahead ends -/
def wF (cl : List (Nat × Nat)) (i : Nat) : Nat := (cl.getD i (0, 0)).1
def wT (cl : List (Nat × Nat)) (i : Nat) : Nat := (cl.getD i (0, 0)).2
def wA (cl : List (Nat × Nat)) : Nat → Nat
  | 0 => 0
  | i + 1 => wT cl i
structure One (b : Nat → Bool) (k : Nat) (cl : List (Nat × Nat)) (i : Nat) : Prop where
  lt : wF cl i < wT cl i
  le : wT cl i ≤ k
  ge : wA cl i ≤ wF cl i
  gt : 0 < i → wA cl i < wF cl i
  bl : ∀ j, wA cl i ≤ j → j < wF cl i → b j = true
  nb : ∀ j, wF cl i ≤ j → j < wT cl i → b j = false
def Tail (b : Nat → Bool) (k : Nat) (cl : List (Nat × Nat)) : Option Nat → Prop
  | none => wA cl cl.length ≤ k ∧ (0 < cl.length → wA cl cl.length < k) ∧ ∀ j, wA cl cl.length ≤ j → j < k → b j = true
  | some f => f < k ∧ wA cl cl.length ≤ f ∧ (0 < cl.length → wA cl cl.length < f) ∧ (∀ j, wA cl cl.length ≤ j → j < f → b j = true) ∧ ∀ j, f ≤ j → j < k → b j = false
theorem wF_app (cl : List (Nat × Nat)) (p : Nat × Nat) (i : Nat) (h : i < cl.length) : wF (cl ++ [p]) i = wF cl i := by
  unfold wF
  rw [List.getD_eq_getElem?_getD, List.getD_eq_getElem?_getD, List.getElem?_append_left h]
theorem wT_app (cl : List (Nat × Nat)) (p : Nat × Nat) (i : Nat) (h : i < cl.length) : wT (cl ++ [p]) i = wT cl i := by
  unfold wT
  rw [List.getD_eq_getElem?_getD, List.getD_eq_getElem?_getD, List.getElem?_append_left h]
theorem wA_app (cl : List (Nat × Nat)) (p : Nat × Nat) (i : Nat) (h : i ≤ cl.length) : wA (cl ++ [p]) i = wA cl i := by
  cases i with
  | zero => rfl
  | succ i => exact wT_app cl p i h
theorem wF_last (cl : List (Nat × Nat)) (a b : Nat) : wF (cl ++ [(a, b)]) cl.length = a ∧ wT (cl ++ [(a, b)]) cl.length = b := by
  unfold wF wT
  rw [List.getD_eq_getElem?_getD, List.getElem?_append_right (Nat.le_refl _)]
  simp
theorem One.up {b : Nat → Bool} {k : Nat} {cl : List (Nat × Nat)} {i : Nat} (h : One b k cl i) : One b (k + 1) cl i :=
  ⟨h.lt, by have := h.le; omega, h.ge, h.gt, h.bl, h.nb⟩
theorem wst_ok (b : Nat → Bool) (k : Nat) : (∀ i, i < (wst b k).1.length → One b k (wst b k).1 i) ∧ Tail b k (wst b k).1 (wst b k).2 := by
  induction k with
  | zero => exact ⟨fun i hi => by simp [wst] at hi, by simp [wst, Tail, wA]⟩
  | succ k ih =>
    have e : wst b (k + 1) = wstep (b k) k (wst b k) := rfl
    rw [e]
    generalize wst b k = s at *
    obtain ⟨cl, o⟩ := s
    obtain ⟨h1, h2⟩ := ih
    simp only at h1 h2
    cases o with
    | none =>
      obtain ⟨t1, t2, t3⟩ := h2
      cases hb : b k
      · rw [wfin_step_out]
        refine ⟨fun i hi => (h1 i hi).up, by simp, t1, t2, t3, fun j g1 g2 => ?_⟩
        obtain rfl : j = k := by omega
        exact hb
      · have e2 : wstep true k (cl, none) = (cl, none) := by simp [wstep]
        rw [e2]
        refine ⟨fun i hi => (h1 i hi).up, Nat.le_succ_of_le t1, fun h => Nat.lt_succ_of_lt (t2 h), fun j g1 g2 => ?_⟩
        by_cases hj : j = k
        · rw [hj]; exact hb
        · exact t3 j g1 (by omega)
    | some f =>
      obtain ⟨t0, t1, t2, t3, t4⟩ := h2
      cases hb : b k
      · rw [wfin_step_in]
        refine ⟨fun i hi => (h1 i hi).up, by omega, t1, t2, t3, fun j g1 g2 => ?_⟩
        by_cases hj : j = k
        · rw [hj]; exact hb
        · exact t4 j g1 (by omega)
      · have e2 : wstep true k (cl, some f) = (cl ++ [(f, k)], none) := by simp [wstep]
        rw [e2]
        obtain ⟨l1, l2⟩ := wF_last cl f k
        refine ⟨fun i hi => ?_, ?_⟩
        · simp only [List.length_append, List.length_cons, List.length_nil] at hi
          by_cases hil : i < cl.length
          · have ho := h1 i hil
            refine ⟨?_, ?_, ?_, ?_, ?_, ?_⟩
            · rw [wF_app _ _ _ hil, wT_app _ _ _ hil]; exact ho.lt
            · rw [wT_app _ _ _ hil]; have := ho.le; omega
            · rw [wF_app _ _ _ hil, wA_app _ _ _ (by omega)]; exact ho.ge
            · rw [wF_app _ _ _ hil, wA_app _ _ _ (by omega)]; exact ho.gt
            · rw [wF_app _ _ _ hil, wA_app _ _ _ (by omega)]; exact ho.bl
            · rw [wF_app _ _ _ hil, wT_app _ _ _ hil]; exact ho.nb
          · obtain rfl : i = cl.length := by omega
            refine ⟨by rw [l1, l2]; exact t0, by rw [l2]; omega, ?_, ?_, ?_, ?_⟩
            · rw [l1, wA_app _ _ _ (Nat.le_refl _)]; exact t1
            · rw [l1, wA_app _ _ _ (Nat.le_refl _)]; exact t2
            · rw [l1, wA_app _ _ _ (Nat.le_refl _)]; exact t3
            · rw [l1, l2]; exact t4
        · have el : (cl ++ [(f, k)]).length = cl.length + 1 := by simp
          have ea : wA (cl ++ [(f, k)]) (cl.length + 1) = k := l2
          unfold Tail
          simp only
          rw [el, ea]
          refine ⟨by omega, fun _ => by omega, fun j g1 g2 => ?_⟩
          obtain rfl : j = k := by omega
          exact hb
/- of all -/
structure Strs (zs : List Int) (cl : List (Nat × Nat)) : Prop where
  one : ∀ i, i < cl.length → wF cl i < wT cl i ∧ wT cl i ≤ zs.length ∧ wA cl i ≤ wF cl i ∧ (0 < i → wA cl i < wF cl i)
  bl : ∀ i, i < cl.length → ∀ j, wA cl i ≤ j → j < wF cl i → isB (zs.getD j 0) = true
  nb : ∀ i, i < cl.length → ∀ j, wF cl i ≤ j → j < wT cl i → isB (zs.getD j 0) = false
  fin : wA cl cl.length ≤ zs.length ∧ ∀ j, wA cl cl.length ≤ j → j < zs.length → isB (zs.getD j 0) = true
theorem blk_in (zs : List Int) (j : Nat) (h : j < zs.length) : blk zs j = isB (zs.getD j 0) := by unfold blk; rw [decide_eq_false (by omega)]; simp
theorem blk_out (zs : List Int) (j : Nat) (h : zs.length ≤ j) : blk zs j = true := by unfold blk; rw [decide_eq_true h]; simp
theorem strs (zs : List Int) : Strs zs (wrds zs) := by
  obtain ⟨h1, h2⟩ := wst_ok (blk zs) (zs.length + 1)
  have hn : (wst (blk zs) (zs.length + 1)).2 = none := by
    have e : wst (blk zs) (zs.length + 1) = wstep (blk zs zs.length) zs.length (wst (blk zs) zs.length) := rfl
    rw [e, blk_out zs _ (Nat.le_refl _)]
    exact (wfin_step_b _ _).2
  rw [hn] at h2
  unfold wrds
  generalize (wst (blk zs) (zs.length + 1)).1 = cl at *
  obtain ⟨t1, t2, t3⟩ := h2
  have hT : ∀ i, i < cl.length → wT cl i ≤ zs.length := by
    intro i hi
    have ho := h1 i hi
    rcases Nat.lt_or_ge zs.length (wT cl i) with h | h
    · have a := ho.nb (wT cl i - 1) (by have := ho.lt; omega) (by have := ho.lt; omega)
      rw [blk_out zs _ (by omega)] at a
      simp at a
    · exact h
  refine ⟨fun i hi => ⟨(h1 i hi).lt, hT i hi, (h1 i hi).ge, (h1 i hi).gt⟩, fun i hi j a b => ?_, fun i hi j a b => ?_, ?_, fun j a b => ?_⟩
  · rw [← blk_in zs j (by have := hT i hi; have := (h1 i hi).lt; omega)]; exact (h1 i hi).bl j a b
  · rw [← blk_in zs j (by have := hT i hi; omega)]; exact (h1 i hi).nb j a b
  · cases hl : cl.length with
    | zero => simp [wA]
    | succ m => exact hT m (by omega)
  · rw [← blk_in zs j b]; exact t3 j a (by omega)
end Go.Proofs.YtncmkiejamkklabDoor
