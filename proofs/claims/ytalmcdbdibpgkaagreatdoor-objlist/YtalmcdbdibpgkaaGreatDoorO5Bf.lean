/-
  How numbers are written, as words: what they are made of, how they begin, and that they are read as what they were.
-/
import Derived.Test.YtalmcdbdibpgkaaGreatDoorBY
import Derived.Test.YtalmcdbdibpgkaaGreatDoorBH
namespace Go.Proofs.YtalmcdbdibpgkaaGreatDoor
open Go.RowKit Go.Deep
set_option linter.unusedVariables false

theorem intW_itoa (x : Int) (hx : -1099511627776 ≤ x ∧ x ≤ 1099511627776) : intW (Lib.itoa x) = (x, true) := by
  unfold intW
  rcases (show x < 0 ∨ 0 ≤ x by omega) with hn | hn
  · obtain ⟨u, rfl⟩ : ∃ u : Nat, x = -(u : Int) := ⟨x.natAbs, by omega⟩
    rw [Lib.itoa_neg u (by omega), if_pos ⟨rfl, by simp⟩]
    exact intD_dec true u (by omega) (fun _ => by omega)
  · obtain ⟨u, rfl⟩ : ∃ u : Nat, x = (u : Int) := ⟨x.natAbs, by omega⟩
    rw [Lib.itoa_nonneg, if_neg]
    · exact intD_dec false u (by omega) (fun h => by cases h)
    · rintro ⟨h1, _⟩
      have h2 := (dec_val u).1
      cases hd : Lib.decDigits u with
      | nil => exact dec_ne u hd
      | cons c r =>
        rw [hd] at h1 h2
        rw [List.all_cons, Bool.and_eq_true] at h2
        have h3 := of_decide_eq_true h2.1
        have h1 : c.toNat = 45 := h1
        omega
theorem ai_intT (x : Int) (hx : -1099511627776 ≤ x ∧ x ≤ 1099511627776) : aiV (intT x) = some x := by
  rw [← itoa_intT]; exact int_ai _ _ (intW_itoa x hx)
theorem ai_eq (wl : List UInt8) (x : Int) (h : aiV wl = some x) : intT x = wl := by
  rw [← itoa_intT]
  unfold aiV at h
  split at h
  · split at h
    · rename_i h1; injection h with h; rw [← h]; exact h1
    · cases h
  · cases h
theorem ai_textL (x : Int) (hx : x % 65536 ≠ 0) : aiV (D2.textL x) = none := by
  cases h : aiV (D2.textL x) with
  | none => rfl
  | some y =>
    exfalso
    have h1 := ai_eq _ _ h
    rw [← itoa_intT, D2.textL_num, if_neg (by omega)] at h1
    have : (46 : UInt8) ∈ Lib.itoa y := by rw [h1]; simp [D2.numL, D2.ptF]
    exact no_dot y this
theorem inB_of (x : Int) (hx : -1099511627776 ≤ x ∧ x ≤ 1099511627776) : inB x = true := by unfold inB; simp; omega
abbrev isNm (d : UInt8) : Prop := d = 45 ∨ d = 46 ∨ (48 ≤ d.toNat ∧ d.toNat ≤ 57)
theorem dec_form (u : Nat) : ∃ c l, Lib.decDigits u = c :: l ∧ (48 ≤ c.toNat ∧ c.toNat ≤ 57) ∧ (∀ d ∈ c :: l, isNm d) ∧ (c = 48 → u = 0 ∧ l = []) := by
  have h2 := (dec_val u).1
  cases hd : Lib.decDigits u with
  | nil => exact absurd hd (dec_ne u)
  | cons c l =>
    rw [hd] at h2
    have hall : ∀ d ∈ c :: l, 48 ≤ d.toNat ∧ d.toNat ≤ 57 := fun d hm => of_decide_eq_true (List.all_eq_true.1 h2 d hm)
    refine ⟨c, l, rfl, hall c (by simp), fun d hm => Or.inr (Or.inr (hall d hm)), fun h => ?_⟩
    have hu := dec_head u (by rw [hd]; subst h; rfl)
    subst hu
    rw [D2.dec_one' 0 (by omega)] at hd
    injection hd with _ hd
    exact ⟨rfl, hd.symm⟩
theorem intT_form (x : Int) : ∃ c l, intT x = c :: l ∧ (c = 45 ∨ (48 ≤ c.toNat ∧ c.toNat ≤ 57)) ∧ ∀ d ∈ c :: l, isNm d := by
  obtain ⟨c, l, e, h1, h2, _⟩ := dec_form x.natAbs
  unfold intT
  split
  · refine ⟨45, c :: l, by rw [e], Or.inl rfl, fun d hd => ?_⟩
    rcases List.mem_cons.1 hd with h | h
    · exact Or.inl h
    · exact h2 d h
  · exact ⟨c, l, e, Or.inr h1, h2⟩
theorem intT_zero (x : Int) : intT x = [48] ∨ ∃ c l, intT x = c :: l ∧ c ≠ 48 := by
  obtain ⟨c, l, e, h1, h2, h3⟩ := dec_form x.natAbs
  unfold intT
  split
  · exact Or.inr ⟨45, _, rfl, by decide⟩
  · by_cases hc : c = 48
    · left; rw [e, (h3 hc).2, hc]
    · exact Or.inr ⟨c, l, e, hc⟩
theorem intT_pos (x : Int) (h : 1 ≤ x) : ∃ c l, intT x = c :: l ∧ c ≠ 48 := by
  obtain ⟨c, l, e, h1, h2, h3⟩ := dec_form x.natAbs
  unfold intT
  rw [if_neg (by omega)]
  exact ⟨c, l, e, fun hc => by have := (h3 hc).1; omega⟩
theorem textL_form (x : Int) : ∃ c l, D2.textL x = c :: l ∧ (c = 45 ∨ (48 ≤ c.toNat ∧ c.toNat ≤ 57)) ∧ ∀ d ∈ c :: l, isNm d := by
  obtain ⟨c, l, e, h1, h2, _⟩ := dec_form (x.natAbs / 65536)
  have hf := (D2.fdig_spec 16 (x.natAbs % 65536) (by omega) (by omega) (by simp)).1
  have hp : ∀ d ∈ D2.ptF (if x.natAbs % 65536 = 0 then none else some (D2.fdig 16 (x.natAbs % 65536))), isNm d := fun d hd => by
    split at hd
    · cases hd
    · rcases List.mem_cons.1 hd with h | h
      · exact Or.inr (Or.inl h)
      · exact Or.inr (Or.inr (of_decide_eq_true (List.all_eq_true.1 hf d h)))
  rw [D2.textL_num]
  unfold D2.numL
  rw [show Lib.decDigits (x.natAbs / 65536) = c :: l from e]
  split
  · refine ⟨45, c :: l ++ _, rfl, Or.inl rfl, fun d hd => ?_⟩
    rcases List.mem_cons.1 hd with h | h
    · exact Or.inl h
    · rcases List.mem_append.1 h with h | h
      · exact h2 d h
      · exact hp d h
  · refine ⟨c, l ++ _, rfl, Or.inr h1, fun d hd => ?_⟩
    rcases List.mem_append.1 (show d ∈ (c :: l) ++ _ from hd) with h | h
    · exact h2 d h
    · exact hp d h
theorem textL_zero (x : Int) (hx : x % 65536 ≠ 0) : ∃ c l, D2.textL x = c :: l ∧ (c ≠ 48 ∨ ∃ d l', l = d :: l' ∧ isEnd d.toNat = false) := by
  obtain ⟨c, l, e, h1, h2, h3⟩ := dec_form (x.natAbs / 65536)
  rw [D2.textL_num, if_neg (by omega)]
  unfold D2.numL
  rw [show Lib.decDigits (x.natAbs / 65536) = c :: l from e]
  split
  · exact ⟨45, _, rfl, Or.inl (by decide)⟩
  · refine ⟨c, l ++ _, rfl, ?_⟩
    by_cases hc : c = 48
    · right
      rw [(h3 hc).2]
      exact ⟨46, _, rfl, by decide⟩
    · exact Or.inl hc
end Go.Proofs.YtalmcdbdibpgkaaGreatDoor
