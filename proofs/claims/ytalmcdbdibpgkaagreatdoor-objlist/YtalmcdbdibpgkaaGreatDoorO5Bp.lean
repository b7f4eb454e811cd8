/-
  The landed Parse of what is written; of any text: what is good is written in a text that is not too long.
-/
import Derived.Test.YtalmcdbdibpgkaaGreatDoorO5Bn
import Derived.Test.YtalmcdbdibpgkaaGreatDoorBF
import Derived.Test.YtalmcdbdibpgkaaGreatDoorBZ
namespace Go.Proofs.YtalmcdbdibpgkaaGreatDoor
open Go.RowKit Go.Deep
set_option linter.unusedVariables false

theorem sameF_strip : ∀ T : BT Pay, sameF (strip T) T = true ∧ sameF T (strip T) = true
  | .nil => ⟨rfl, rfl⟩
  | .node b o p T N => by
    have h1 := sameF_strip T
    have h2 := sameF_strip N
    unfold strip sameF
    rw [payEq_refl, h1.1, h1.2, h2.1, h2.2]
    exact ⟨rfl, rfl⟩
theorem sameV_strip (p : Pay) (T : BT Pay) : sameV p (strip T) p T = true ∧ sameV p T p (strip T) = true := by
  unfold sameV
  rw [payEq_refl, (sameF_strip T).1, (sameF_strip T).2]
  exact ⟨rfl, rfl⟩
theorem goodV_pos_fine {p : Pay} {T : BT Pay} (h : 0 < goodV p T 0 0) : fine p T := (goodV_fine (decide_eq_true h)).1
theorem parse_back (p : Pay) (T : BT Pay) (hg : 0 < goodV p T 0 0) (S : ByteArray) (r : List UInt8) (hS : S.data.toList = objT p T ++ r) (hr : Gr r) (hsz : S.size ≤ 16777216) (w : World) (hgl : Glo5 w) :
    Calls Tryz.prog 14 #[.string S, .int .i64 0] w fun e w' => (∃ ka kc ia ic, e = .returned (.tuple #[ov p ka kc ia (flen (strip T)) ic, .int .i64 ((objT p T).length : Nat), .int .i64 0]) ∧ OIn w' p (strip T) ka kc ia ic) ∧ Below w.heap.size w w' := by
  have hl : (objT p T).length ≤ S.size := by
    have : S.size = S.data.toList.length := Lib.size_eq S
    rw [this, hS]; simp
  have hR := ob_on S.data.toList p T (fuelOf S) 0 0 [] r (by simpa using hS) (by simp [Bls]) (goodV_pos_fine hg) hr (by unfold fuelOf; omega)
  have h := parse_rc S 0 w hgl hsz (Nat.zero_le _)
  rw [hR] at h
  refine h.mono fun e w' h => ?_
  unfold PaR at h
  dsimp only at h
  rw [if_pos (by rw [strip_goodV]; omega)] at h
  obtain ⟨⟨ka, kc, ia, ic, he, hin⟩, hb⟩ := h
  refine ⟨⟨ka, kc, ia, ic, ?_, hin.sub (fresh_sub _ _)⟩, hb⟩
  rw [he]
  simp
/- what is read is written, and is not too long -/
theorem parse_text (s : ByteArray) (hs : s.size ≤ 20000) : (∀ w, Glo5 w → Calls Tryz.prog 14 #[.string s, .int .i64 0] w fun e w' => e = .returned (.tuple #[zov, .int .i64 0, .int .i64 50]) ∧ Below w.heap.size w w') ∨
    ∃ p T q, 0 < goodV p T 0 0 ∧ (objT p T).length ≤ 1048576 ∧ 0 < q ∧ q ≤ s.size ∧ ∀ w, Glo5 w → Calls Tryz.prog 14 #[.string s, .int .i64 0] w (An p T q 0 w) := by
  have h := fun w hg => parse_rc s 0 w hg (by omega) (Nat.zero_le _)
  cases hR : (rec5 s.data.toList (fuelOf s)).ob 0 0 with
  | none =>
    left
    intro w hg
    have h := h w hg
    rw [hR] at h
    exact h
  | some R =>
    obtain ⟨p, T, q⟩ := R
    by_cases hg0 : 0 ≤ goodV p T 0 0
    · right
      have he := (eq_all s (at_eq s) (fuelOf s)).1 0 0 0 (Nat.zero_le _) (by omega) (by omega) (by omega)
      rw [hR] at he
      have hq : q ≤ s.size := by
        cases hQ : (recQ s.data.toList (fuelOf s)).ob (blanksV s.data.toList 0) 0 with
        | none =>
          rw [hQ] at he
          unfold fV at he
          simp only at he
          have hg1 : 0 ≤ goodV p T ((0 : Nat) : Int) 0 := hg0
          rw [if_pos hg1] at he
          cases he
        | some R' =>
          obtain ⟨p', T', q'⟩ := R'
          rw [hQ] at he
          unfold fV at he
          simp only at he
          have hg1 : 0 ≤ goodV p T ((0 : Nat) : Int) 0 := hg0
          rw [if_pos hg1] at he
          split at he
          · simp only [Option.some.injEq, Prod.mk.injEq] at he
            have := (bd_q s (fuelOf s) _ _ _ _ _ hQ).2
            omega
          · cases he
      have hb := (rec_bn s.data.toList (fuelOf s)).1 0 0 p T q hR
      have hlt := (rec_lt s.data.toList (fuelOf s)).1 0 0 p T q hR
      refine ⟨p, T, q, good_pos p T hg0, by omega, hlt, hq, fun w hg => (h w hg).mono fun e w' hh => ?_⟩
      rw [hR] at hh
      unfold PaR at hh
      dsimp only at hh
      rw [if_pos hg0] at hh
      obtain ⟨⟨ka, kc, ia, ic, he, hin⟩, hb⟩ := hh
      exact ⟨⟨ka, kc, ia, ic, he, hin.sub (fresh_sub _ _)⟩, hb⟩
    · left
      intro w hg
      have h := h w hg
      rw [hR] at h
      unfold PaR at h
      dsimp only at h
      simp only [if_neg hg0] at h
      exact h
theorem prV_good (p : Pay) (T : BT Pay) (hg : 0 < goodV p T 0 0) (hl : (objT p T).length ≤ 1048576) : prV p T = .tuple #[.string ⟨(objT p T).toArray⟩, .int .i64 0] := by
  unfold prV
  rw [decide_eq_true hg, if_pos rfl, if_pos hl]
theorem prV_cases (p : Pay) (T : BT Pay) : (0 < goodV p T 0 0 ∧ (objT p T).length ≤ 1048576 ∧ prV p T = .tuple #[.string ⟨(objT p T).toArray⟩, .int .i64 0]) ∨ ∃ E : Int, (E = 2 ∨ E = 50) ∧ prV p T = .tuple #[.string ⟨#[]⟩, .int .i64 E] := by
  by_cases hg : 0 < goodV p T 0 0
  · by_cases hl : (objT p T).length ≤ 1048576
    · exact Or.inl ⟨hg, hl, prV_good p T hg hl⟩
    · right
      refine ⟨2, Or.inl rfl, ?_⟩
      unfold prV
      rw [decide_eq_true hg, if_pos rfl, if_neg hl]
  · right
    refine ⟨50, Or.inr rfl, ?_⟩
    unfold prV
    rw [decide_eq_false hg, if_neg (by simp)]
end Go.Proofs.YtalmcdbdibpgkaaGreatDoor
