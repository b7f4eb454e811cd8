/-
  What rect's Inset answers.
-/
import Derived.Test.YtaaajbpdnbhghabR3IfMay
import Derived.Lib.MinMax
namespace Go.Proofs.Ytaaajbpdnbhghab
open Go.RowKit

theorem inset_any (a0 a1 a2 a3 d : Int) (w : World) :
    Calls Try.prog 6 #[.agg #[.int .i64 a0, .int .i64 a1, .int .i64 a2, .int .i64 a3], .int .i64 d] w fun e w' => e = .returned (.tuple #[.agg #[.int .i64 (tl (insetQ a0 a1 a2 a3 d) (a0 + d)), .int .i64 (tl (insetQ a0 a1 a2 a3 d) (a1 + d)), .int .i64 (tl (insetQ a0 a1 a2 a3 d) (a2 - d)), .int .i64 (tl (insetQ a0 a1 a2 a3 d) (a3 - d))], .bool (insetQ a0 a1 a2 a3 d)]) ∧ Below w.heap.size w w' := by
  cases ha : mayB a0 a1 a2 a3
  · rw [show insetQ a0 a1 a2 a3 d = false by simp [insetQ, ha]]
    simp only [tl_f rfl]
    go_enter Try.func6, Try.ntmps6
    go_wp2_with fail
    refine (may_any _ _ _ _ _).mono ?_; rintro e w1 ⟨rfl, hb⟩; obtain ⟨hc, hf⟩ := bcell hb
    go_wp2_with fail
    exact bodyPost_ret (v := .tuple #[.agg #[_, _, _, _], _]) (by simp [results, Try.results6, go_sem, hc]) rfl ⟨rfl, below_st4 (below_in2 hb) (by omega) _ _ _ _⟩
  cases h1 : inB d
  · rw [show insetQ a0 a1 a2 a3 d = false by simp [insetQ, h1]]
    simp only [tl_f rfl]
    go_enter Try.func6, Try.ntmps6
    go_wp2_with fail
    refine (may_any _ _ _ _ _).mono ?_; rintro e w1 ⟨rfl, hb⟩; obtain ⟨hc, hf⟩ := bcell hb
    go_wp2_with fail
    refine (in_any _ _).mono ?_; rintro e w' ⟨rfl, rfl⟩
    go_wp2_with fail
    exact bodyPost_ret (v := .tuple #[.agg #[_, _, _, _], _]) (by simp [results, Try.results6, go_sem, hc]) rfl ⟨rfl, below_st4 (below_in2 hb) (by omega) _ _ _ _⟩
  rw [show insetQ a0 a1 a2 a3 d = mayB (a0 + d) (a1 + d) (a2 - d) (a3 - d) by simp [insetQ, ha, h1]]
  obtain ⟨⟨_, _⟩, ⟨_, _⟩, ⟨_, _⟩, ⟨_, _⟩, _, _⟩ := mayB_bd ha
  obtain ⟨_, _⟩ := inB_bd h1
  go_enter Try.func6, Try.ntmps6
  go_wp2_with fail
  refine (may_any _ _ _ _ _).mono ?_; rintro e w1 ⟨rfl, hb⟩; obtain ⟨hc, hf⟩ := bcell hb
  go_wp2_with fail
  refine (in_any _ _).mono ?_; rintro e w' ⟨rfl, rfl⟩
  go_wp2_with fail
  refine (ifMay_any _ _ _ _ _).mono ?_; rintro e w1 ⟨rfl, hb2⟩; replace hb := below_tr hb hb2; clear hb2 hc hf; obtain ⟨hc, hf⟩ := bcell hb
  go_wp2_with fail
  exact bodyPost_ret (v := .tuple #[.agg #[_, _, _, _], _]) (by simp [results, Try.results6, go_sem, hc]) rfl ⟨rfl, below_st4 (below_in2 hb) (by omega) _ _ _ _⟩
end Go.Proofs.Ytaaajbpdnbhghab
