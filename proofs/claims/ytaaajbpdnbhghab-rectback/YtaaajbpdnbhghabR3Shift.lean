/-
  What rect's Shift answers.
-/
import Derived.Test.YtaaajbpdnbhghabR3IfMay
import Derived.Lib.MinMax
namespace Go.Proofs.Ytaaajbpdnbhghab
open Go.RowKit

theorem shift_any (a0 a1 a2 a3 dx dy : Int) (w : World) :
    Calls Try.prog 4 #[.agg #[.int .i64 a0, .int .i64 a1, .int .i64 a2, .int .i64 a3], .int .i64 dx, .int .i64 dy] w fun e w' => e = .returned (.tuple #[.agg #[.int .i64 (tl (shiftQ a0 a1 a2 a3 dx dy) (a0 + dx)), .int .i64 (tl (shiftQ a0 a1 a2 a3 dx dy) (a1 + dy)), .int .i64 (tl (shiftQ a0 a1 a2 a3 dx dy) (a2 + dx)), .int .i64 (tl (shiftQ a0 a1 a2 a3 dx dy) (a3 + dy))], .bool (shiftQ a0 a1 a2 a3 dx dy)]) ∧ Below w.heap.size w w' := by
  cases ha : mayB a0 a1 a2 a3
  · rw [show shiftQ a0 a1 a2 a3 dx dy = false by simp [shiftQ, ha]]
    simp only [tl_f rfl]
    go_enter Try.func4, Try.ntmps4
    go_wp2_with fail
    refine (may_any _ _ _ _ _).mono ?_; rintro e w1 ⟨rfl, hb⟩; obtain ⟨hc, hf⟩ := bcell hb
    go_wp2_with fail
    exact bodyPost_ret (v := .tuple #[.agg #[_, _, _, _], _]) (by simp [results, Try.results4, go_sem, hc]) rfl ⟨rfl, below_st4 (below_in2 hb) (by omega) _ _ _ _⟩
  cases h1 : inB dx
  · rw [show shiftQ a0 a1 a2 a3 dx dy = false by simp [shiftQ, h1]]
    simp only [tl_f rfl]
    go_enter Try.func4, Try.ntmps4
    go_wp2_with fail
    refine (may_any _ _ _ _ _).mono ?_; rintro e w1 ⟨rfl, hb⟩; obtain ⟨hc, hf⟩ := bcell hb
    go_wp2_with fail
    refine (in_any _ _).mono ?_; rintro e w' ⟨rfl, rfl⟩
    go_wp2_with fail
    exact bodyPost_ret (v := .tuple #[.agg #[_, _, _, _], _]) (by simp [results, Try.results4, go_sem, hc]) rfl ⟨rfl, below_st4 (below_in2 hb) (by omega) _ _ _ _⟩
  cases h2 : inB dy
  · rw [show shiftQ a0 a1 a2 a3 dx dy = false by simp [shiftQ, h2]]
    simp only [tl_f rfl]
    go_enter Try.func4, Try.ntmps4
    go_wp2_with fail
    refine (may_any _ _ _ _ _).mono ?_; rintro e w1 ⟨rfl, hb⟩; obtain ⟨hc, hf⟩ := bcell hb
    go_wp2_with fail
    refine (in_any _ _).mono ?_; rintro e w' ⟨rfl, rfl⟩
    go_wp2_with fail
    refine (in_any _ _).mono ?_; rintro e w' ⟨rfl, rfl⟩
    go_wp2_with fail
    exact bodyPost_ret (v := .tuple #[.agg #[_, _, _, _], _]) (by simp [results, Try.results4, go_sem, hc]) rfl ⟨rfl, below_st4 (below_in2 hb) (by omega) _ _ _ _⟩
  rw [show shiftQ a0 a1 a2 a3 dx dy = mayB (a0 + dx) (a1 + dy) (a2 + dx) (a3 + dy) by simp [shiftQ, ha, h1, h2]]
  obtain ⟨⟨_, _⟩, ⟨_, _⟩, ⟨_, _⟩, ⟨_, _⟩, _, _⟩ := mayB_bd ha
  obtain ⟨_, _⟩ := inB_bd h1
  obtain ⟨_, _⟩ := inB_bd h2
  go_enter Try.func4, Try.ntmps4
  go_wp2_with fail
  refine (may_any _ _ _ _ _).mono ?_; rintro e w1 ⟨rfl, hb⟩; obtain ⟨hc, hf⟩ := bcell hb
  go_wp2_with fail
  refine (in_any _ _).mono ?_; rintro e w' ⟨rfl, rfl⟩
  go_wp2_with fail
  refine (in_any _ _).mono ?_; rintro e w' ⟨rfl, rfl⟩
  go_wp2_with fail
  refine (ifMay_any _ _ _ _ _).mono ?_; rintro e w1 ⟨rfl, hb2⟩; replace hb := below_tr hb hb2; clear hb2 hc hf; obtain ⟨hc, hf⟩ := bcell hb
  go_wp2_with fail
  exact bodyPost_ret (v := .tuple #[.agg #[_, _, _, _], _]) (by simp [results, Try.results4, go_sem, hc]) rfl ⟨rfl, below_st4 (below_in2 hb) (by omega) _ _ _ _⟩
end Go.Proofs.Ytaaajbpdnbhghab
