/-
  What rect.ifMay answers.
-/
import Derived.Test.YtaaajbpdnbhghaaR3May
namespace Go.Proofs.Ytaaajbpdnbhghaa
open Go.RowKit

theorem ifMay_any (x0 y0 x1 y1 : Int) (w : World) :
    Calls Try.prog 27 #[.agg #[.int .i64 x0, .int .i64 y0, .int .i64 x1, .int .i64 y1]] w fun e w' => e = .returned (.tuple #[.agg #[.int .i64 (tl (mayB x0 y0 x1 y1) x0), .int .i64 (tl (mayB x0 y0 x1 y1) y0), .int .i64 (tl (mayB x0 y0 x1 y1) x1), .int .i64 (tl (mayB x0 y0 x1 y1) y1)], .bool (mayB x0 y0 x1 y1)]) ∧ Below w.heap.size w w' := by
  cases hm : mayB x0 y0 x1 y1
  · simp only [tl_f rfl]
    go_enter Try.func27, Try.ntmps27
    go_wp2_with (go_at_call 15; refine (may_any _ _ _ _ _).mono ?_; rintro e w1 ⟨rfl, hb⟩; obtain ⟨hc, hf⟩ := bcell hb; have hz : w.heap.size + 1 < w1.heap.size := by have := hb.size; simp at this; omega)
    exact bodyPost_ret (v := .tuple #[.agg #[.int .i64 0, .int .i64 0, .int .i64 0, .int .i64 0], .bool false]) (by simp [results, Try.results27, go_sem, hc]) rfl ⟨rfl, below_st4 (below_in2 hb) (by omega) _ _ _ _⟩
  · simp only [tl_t rfl]
    go_enter Try.func27, Try.ntmps27
    go_wp2_with (go_at_call 15; refine (may_any _ _ _ _ _).mono ?_; rintro e w1 ⟨rfl, hb⟩; obtain ⟨hc, hf⟩ := bcell hb; have hz : w.heap.size + 1 < w1.heap.size := by have := hb.size; simp at this; omega)
    exact bodyPost_ret (v := .tuple #[.agg #[.int .i64 x0, .int .i64 y0, .int .i64 x1, .int .i64 y1], .bool true]) (by simp [results, Try.results27, go_sem, hc]) rfl ⟨rfl, below_st4 (below_in2 hb) (by omega) _ _ _ _⟩
end Go.Proofs.Ytaaajbpdnbhghaa
