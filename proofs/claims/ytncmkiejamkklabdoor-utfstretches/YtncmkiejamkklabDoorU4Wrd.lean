/-
  Words in plain words: the stretches without a blank.
-/
import Derived.Test.YtncmkiejamkklabDoorU4Cls
import Derived.Test.YtncmkiejamkklabDoorU4Row
namespace Go.Proofs.YtncmkiejamkklabDoor
open Go.RowKit

abbrev WSt := List (Nat × Nat) × Option Nat
def wstep (b : Bool) (k : Nat) : WSt → WSt
  | (cl, none) => if b then (cl, none) else (cl, some k)
  | (cl, some f) => if b then (cl ++ [(f, k)], none) else (cl, some f)
def wst (b : Nat → Bool) : Nat → WSt
  | 0 => ([], none)
  | k + 1 => wstep (b k) k (wst b k)
/- with what is open ended here -/
def wfin (k : Nat) : WSt → List (Nat × Nat)
  | (cl, none) => cl
  | (cl, some f) => cl ++ [(f, k)]
def flat (ws : List (Nat × Nat)) : List Int := ws.flatMap fun p => [(p.1 : Int), (p.2 : Int)]
theorem flat_len (ws : List (Nat × Nat)) : (flat ws).length = ws.length * 2 := by
  induction ws with
  | nil => rfl
  | cons p ws ih => simp only [flat, List.flatMap_cons, List.length_append, List.length_cons, List.length_nil] at ih ⊢; omega
theorem flat_snoc (ws : List (Nat × Nat)) (a b : Nat) : flat (ws ++ [(a, b)]) = flat ws ++ [(a : Int), (b : Int)] := by simp [flat]
theorem flat_set (ws : List (Nat × Nat)) (a b c : Nat) : (flat (ws ++ [(a, b)])).set (ws.length * 2 + 1) (c : Int) = flat (ws ++ [(a, c)]) := by
  rw [flat_snoc, flat_snoc, List.set_append_right _ _ (by rw [flat_len]; omega), flat_len]
  rw [show ws.length * 2 + 1 - ws.length * 2 = 1 by omega]
  rfl
theorem flat_at (ws : List (Nat × Nat)) (i : Nat) (h : i < ws.length) : (flat ws).getD (i * 2) 0 = ((ws[i]).1 : Int) ∧ (flat ws).getD (i * 2 + 1) 0 = ((ws[i]).2 : Int) := by
  induction ws generalizing i with
  | nil => simp at h
  | cons p ws ih =>
    have e : flat (p :: ws) = (p.1 : Int) :: (p.2 : Int) :: flat ws := rfl
    cases i with
    | zero => rw [e]; exact ⟨rfl, rfl⟩
    | succ i =>
      have := ih i (by simpa using h)
      rw [e, show (i + 1) * 2 = i * 2 + 1 + 1 by omega]
      exact this
def isB (z : Int) : Bool := clsV z == 1
def blk (zs : List Int) (k : Nat) : Bool := decide (zs.length ≤ k) || isB (zs.getD k 0)
def wrds (zs : List Int) : List (Nat × Nat) := (wst (blk zs) (zs.length + 1)).1
theorem wfin_step_b (k : Nat) (s : WSt) : wfin (k + 1) (wstep true k s) = wfin k s ∧ (wstep true k s).2 = none := by
  obtain ⟨cl, o⟩ := s
  cases o <;> simp [wstep, wfin]
theorem wfin_step_in (k f : Nat) (cl : List (Nat × Nat)) : wstep false k (cl, some f) = (cl, some f) := by simp [wstep]
theorem wfin_step_out (k : Nat) (cl : List (Nat × Nat)) : wstep false k (cl, none) = (cl, some k) := by simp [wstep]
theorem wrds_fin (zs : List Int) : wrds zs = wfin zs.length (wst (blk zs) zs.length) := by
  have hb : blk zs zs.length = true := by simp [blk]
  show (wstep (blk zs zs.length) zs.length (wst (blk zs) zs.length)).1 = _
  rw [hb]
  generalize wst (blk zs) zs.length = s
  obtain ⟨cl, o⟩ := s
  cases o <;> simp [wstep, wfin]
/- what the states say -/
structure WOk (b : Nat → Bool) (k : Nat) (s : WSt) : Prop where
  len : s.1.length ≤ k
  lt : ∀ i (h : i < s.1.length), s.1[i].1 < s.1[i].2 ∧ s.1[i].2 ≤ k
  opn : ∀ f, s.2 = some f → f < k ∧ (∀ j, f ≤ j → j < k → b j = false) ∧ ∀ i (h : i < s.1.length), s.1[i].2 < f
  inn : ∀ i (h : i < s.1.length) j, s.1[i].1 ≤ j → j < s.1[i].2 → b j = false
  two : ∀ i (h : i + 1 < s.1.length), s.1[i].2 < s.1[i + 1].1
  pre : ∀ j, j < k → (∀ i (h : i < s.1.length), ¬ (s.1[i].1 ≤ j ∧ j < s.1[i].2)) → (∀ f, s.2 = some f → j < f) → b j = true
  ful : s.2.isSome = true → s.1.length < k
end Go.Proofs.YtncmkiejamkklabDoor
