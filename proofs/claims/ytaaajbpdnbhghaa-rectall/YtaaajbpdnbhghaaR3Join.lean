/-
  What rect's Join answers.
-/
import Derived.Test.YtaaajbpdnbhghaaR3IfMay
import Derived.Lib.MinMax
namespace Go.Proofs.Ytaaajbpdnbhghaa
open Go.RowKit

theorem join_any (a0 a1 a2 a3 b0 b1 b2 b3 : Int) (w : World) :
    Calls Try.prog 11 #[.agg #[.int .i64 a0, .int .i64 a1, .int .i64 a2, .int .i64 a3], .agg #[.int .i64 b0, .int .i64 b1, .int .i64 b2, .int .i64 b3]] w fun e w' => e = .returned (.tuple #[.agg #[.int .i64 (tl (joinQ a0 a1 a2 a3 b0 b1 b2 b3) (min a0 b0)), .int .i64 (tl (joinQ a0 a1 a2 a3 b0 b1 b2 b3) (min a1 b1)), .int .i64 (tl (joinQ a0 a1 a2 a3 b0 b1 b2 b3) (max a2 b2)), .int .i64 (tl (joinQ a0 a1 a2 a3 b0 b1 b2 b3) (max a3 b3))], .bool (joinQ a0 a1 a2 a3 b0 b1 b2 b3)]) ∧ Below w.heap.size w w' := by
  cases ha : mayB a0 a1 a2 a3
  · rw [show joinQ a0 a1 a2 a3 b0 b1 b2 b3 = false by simp [joinQ, ha]]
    simp only [tl_f rfl]
    go_enter Try.func11, Try.ntmps11
    go_wp2_with fail
    refine (may_any _ _ _ _ _).mono ?_; rintro e w1 ⟨rfl, hb⟩; obtain ⟨hc, hf⟩ := bcell hb
    go_wp2_with fail
    exact bodyPost_ret (v := .tuple #[.agg #[_, _, _, _], _]) (by simp [results, Try.results11, go_sem, hc]) rfl ⟨rfl, below_st4 (below_in3 hb) (by omega) _ _ _ _⟩
  cases hB : mayB b0 b1 b2 b3
  · rw [show joinQ a0 a1 a2 a3 b0 b1 b2 b3 = false by simp [joinQ, hB]]
    simp only [tl_f rfl]
    go_enter Try.func11, Try.ntmps11
    go_wp2_with fail
    refine (may_any _ _ _ _ _).mono ?_; rintro e w1 ⟨rfl, hb⟩; obtain ⟨hc, hf⟩ := bcell hb
    go_wp2_with fail
    refine (may_any _ _ _ _ _).mono ?_; rintro e w1 ⟨rfl, hb2⟩; replace hb := below_tr hb hb2; clear hb2 hc hf; obtain ⟨hc, hf⟩ := bcell hb
    go_wp2_with fail
    exact bodyPost_ret (v := .tuple #[.agg #[_, _, _, _], _]) (by simp [results, Try.results11, go_sem, hc]) rfl ⟨rfl, below_st4 (below_in3 hb) (by omega) _ _ _ _⟩
  rw [show joinQ a0 a1 a2 a3 b0 b1 b2 b3 = true by simp [joinQ, ha, hB]]
  simp only [tl_t rfl]
  go_enter Try.func11, Try.ntmps11
  go_wp2_with fail
  refine (may_any _ _ _ _ _).mono ?_; rintro e w1 ⟨rfl, hb⟩; obtain ⟨hc, hf⟩ := bcell hb
  go_wp2_with fail
  refine (may_any _ _ _ _ _).mono ?_; rintro e w1 ⟨rfl, hb2⟩; replace hb := below_tr hb hb2; clear hb2 hc hf; obtain ⟨hc, hf⟩ := bcell hb
  go_wp2_with fail
  exact bodyPost_ret (v := .tuple #[.agg #[_, _, _, _], _]) (by simp [results, Try.results11, go_sem, hc]) rfl ⟨rfl, below_st4 (below_in3 hb) (by omega) _ _ _ _⟩
end Go.Proofs.Ytaaajbpdnbhghaa
