/-
  What rect's Of answers.
-/
import Derived.Test.YtaaajbpdnbhghaaR3IfMay
import Derived.Lib.MinMax
namespace Go.Proofs.Ytaaajbpdnbhghaa
open Go.RowKit

theorem of_any (x0 y0 x1 y1 : Int) (w : World) :
    Calls Try.prog 18 #[.int .i64 x0, .int .i64 y0, .int .i64 x1, .int .i64 y1] w fun e w' => e = .returned (.tuple #[.agg #[.int .i64 (tl (mayB (min x0 x1) (min y0 y1) (max x0 x1) (max y0 y1)) (min x0 x1)), .int .i64 (tl (mayB (min x0 x1) (min y0 y1) (max x0 x1) (max y0 y1)) (min y0 y1)), .int .i64 (tl (mayB (min x0 x1) (min y0 y1) (max x0 x1) (max y0 y1)) (max x0 x1)), .int .i64 (tl (mayB (min x0 x1) (min y0 y1) (max x0 x1) (max y0 y1)) (max y0 y1))], .bool (mayB (min x0 x1) (min y0 y1) (max x0 x1) (max y0 y1))]) ∧ Below w.heap.size w w' := by
  go_enter Try.func18, Try.ntmps18
  go_wp2_with fail
  refine (ifMay_any _ _ _ _ _).mono ?_; rintro e w1 ⟨rfl, hb⟩; obtain ⟨hc, hf⟩ := bcell hb
  go_wp2_with fail
  exact bodyPost_ret (v := .tuple #[.agg #[_, _, _, _], _]) (by simp [results, Try.results18, go_sem, hc]) rfl ⟨rfl, below_st4 (below_in1 hb) (by omega) _ _ _ _⟩
end Go.Proofs.Ytaaajbpdnbhghaa
