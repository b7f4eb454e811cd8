/-
  Joined: G10Np.
-/
import Derived.Lib.ConvBytes
import Derived.Test.YthnpnkiomknkeaaDoorC13
import Derived.Test.YthnpnkiomknkeaaDoorC15
import Derived.Test.YthnpnkiomknkeaaDoorC16
import Derived.Test.YthnpnkiomknkeaaDoorD01
namespace Go.Proofs.YthnpnkiomknkeaaDoor.G10
open Go.RowKit Go.Deep
set_option linter.unusedVariables false
set_option linter.unusedSimpArgs false
theorem fidx_none {old : List Int} {x : Nat} (h : fidx old x = none) : ∀ j, j < old.length → j ≤ 65535 → old.getD j 0 ≠ (x : Int) := by
  unfold fidx at h
  rw [List.findIdx?_eq_none_iff] at h
  intro j hj hk
  have hm : old.getD j 0 ∈ old.take 65536 := by
    rw [List.getD_eq_getElem?_getD, List.getElem?_eq_getElem hj]
    show old[j] ∈ _
    rw [List.mem_take_iff_getElem]
    exact ⟨j, by omega, rfl⟩
  simpa using h _ hm
theorem fidx_of {old : List Int} {x k : Nat} (h1 : k < old.length) (h2 : k ≤ 65535) (h3 : old.getD k 0 = (x : Int)) (h4 : ∀ j, j < k → old.getD j 0 ≠ (x : Int)) : fidx old x = some k := by
  cases h : fidx old x with
  | none => exact absurd h3 (fidx_none h k h1 h2)
  | some m =>
    obtain ⟨a, b, c, d⟩ := fidx_some h
    rcases Nat.lt_trichotomy k m with e | e | e
    · exact absurd h3 (d k e)
    · rw [e]
    · exact absurd c (h4 m e)
theorem fidx_not {old : List Int} {x k : Nat} (h3 : k = old.length ∨ 65535 < k) (h4 : ∀ j, j < k → old.getD j 0 ≠ (x : Int)) : fidx old x = none := by
  cases h : fidx old x with
  | none => rfl
  | some m =>
    obtain ⟨a, b, c, d⟩ := fidx_some h
    exact absurd c (h4 m (by omega))
theorem put1_cut (m : List UInt8) (p : Nat) (x : Int) (hp : p + 2 ≤ m.length) : put1 m p x = m.take p ++ [hiB x, loB x] ++ m.drop (p + 2) := by
  apply List.ext_getElem?
  intro i
  unfold put1
  rw [List.append_assoc]
  rcases Nat.lt_trichotomy i p with h | h | h
  · rw [List.getElem?_set_ne (by omega), List.getElem?_set_ne (by omega), List.getElem?_append_left (by simp; omega), List.getElem?_take, if_pos h]
  · subst h
    rw [List.getElem?_set_ne (by omega), List.getElem?_set_self (by omega), List.getElem?_append_right (by simp; omega)]
    simp [Nat.min_eq_left (show i ≤ m.length by omega)]
  · by_cases h2 : i = p + 1
    · subst h2
      rw [List.getElem?_set_self (by simp; omega), List.getElem?_append_right (by simp; omega)]
      simp [Nat.min_eq_left (show p ≤ m.length by omega)]
    · rw [List.getElem?_set_ne (by omega), List.getElem?_set_ne (by omega), List.getElem?_append_right (by simp; omega)]
      have e : (m.take p).length = p := by simp; omega
      rw [e, List.getElem?_append_right (by simp; omega)]
      simp
      congr 1
      omega
theorem rtwo_any (x : Int) (w : World) (h0 : -4611686018427387904 ≤ x) (h1 : x ≤ 4611686018427387904) : Calls Tryd.prog 44 #[.int .i64 x] w fun e w' => e = .returned (.string ⟨#[hiB x, loB x]⟩) ∧ Below w.heap.size w w' := by
  have CV : (convert 89 9 (.slice (some ⟨w.heap.size, 0, none⟩) 2 2)).run Tryd.prog (w.alloc (.cells #[.int .u8 (x / 256 % 256), .int .u8 (x % 256)] 5)) = .ok (.string ⟨[hiB x, loB x].toArray⟩) (w.alloc (.cells #[.int .u8 (x / 256 % 256), .int .u8 (x % 256)] 5)) := by
    refine run_convert_bytes_back (P := Tryd.prog) _ 89 9 5 ⟨w.heap.size, 0, none⟩ 2 [hiB x, loB x] Tryd.underlying89 Tryd.underlying5 Tryd.underlying9 ?_
    intro j hj
    rw [Go.WideShapes.add_plain, Nat.zero_add, World.cell?_alloc_at _ _ _ _ rfl]
    have e1 := hiB_cell x
    have e2 := loB_cell x
    unfold bcell at e1 e2
    match j, hj with
    | 0, _ => exact congrArg some e1.symm
    | 1, _ => exact congrArg some e2.symm
  have HB := hide ((Below.refl w.heap.size w).alloc (Nat.le_refl _) (.cells #[.int .u8 (x / 256 % 256), .int .u8 (x % 256)] 5))
  generalize (⟨[hiB x, loB x].toArray⟩ : ByteArray) = T at CV ⊢
  go_enter Tryd.func44, Tryd.ntmps44
  go_wp2_with fail
  go_ret
  exact ⟨rfl, HB.out⟩
end Go.Proofs.YthnpnkiomknkeaaDoor.G10
