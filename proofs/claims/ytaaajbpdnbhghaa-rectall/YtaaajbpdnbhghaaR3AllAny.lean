/-
  What both All answer, of any list; and append to an empty list of rectangles.
-/
import Derived.Test.YtaaajbpdnbhghaaR3RAll
import Derived.OwnWalk
import Derived.Deep.AppendSrc
import Derived.Deep.Draws
import Derived.Lib.AppendZeros
namespace Go.Proofs.Ytaaajbpdnbhghaa
open Go.RowKit

theorem all_none (a : Option Addr) (cap : Nat) (w : World) :
    Calls Try.prog 24 #[.slice a 0 cap] w fun e w' => e = .returned (.tuple #[.agg #[.int .i64 0, .int .i64 0, .int .i64 0, .int .i64 0], .bool false]) ∧ Below w.heap.size w w' := by
  have hB := hide ((Below.refl w.heap.size w).alloc (Nat.le_refl _) (.cells #[.int .i64 0, .int .i64 0, .int .i64 0, .int .i64 0] 23))
  go_enter Try.func24, Try.ntmps24
  go_wp2_with fail
  exact bodyPost_ret (v := .tuple #[.agg #[.int .i64 0, .int .i64 0, .int .i64 0, .int .i64 0], .bool false]) (by simp [results, Try.results24, go_sem]) rfl ⟨rfl, hB.out⟩
theorem rall_none (a : Option Addr) (cap : Nat) (w : World) :
    Calls Try.prog 25 #[.slice a 0 cap] w fun e w' => e = .returned (.tuple #[.agg #[.int .i64 0, .int .i64 0, .int .i64 0, .int .i64 0], .bool false]) ∧ Below w.heap.size w w' := by
  have hB := hide ((Below.refl w.heap.size w).alloc (Nat.le_refl _) (.cells #[.int .i64 0, .int .i64 0, .int .i64 0, .int .i64 0] 23))
  go_enter Try.func25, Try.ntmps25
  go_wp2_with fail
  exact bodyPost_ret (v := .tuple #[.agg #[.int .i64 0, .int .i64 0, .int .i64 0, .int .i64 0], .bool false]) (by simp [results, Try.results25, go_sem]) rfl ⟨rfl, hB.out⟩
theorem all_any (a : Option Addr) (n cap : Nat) (zs : List Int) (w : World) (hl : zs.length = n * 4) (h1 : n ≤ 200) (hL : Lst w a zs) :
    Calls Try.prog 24 #[.slice a n cap] w fun e w' => e = .returned (.tuple #[.agg #[.int .i64 (tl (allB zs n) (ac0 zs (n - 1))), .int .i64 (tl (allB zs n) (ac1 zs (n - 1))), .int .i64 (tl (allB zs n) (ac2 zs (n - 1))), .int .i64 (tl (allB zs n) (ac3 zs (n - 1)))], .bool (allB zs n)]) ∧ Below w.heap.size w w' := by
  by_cases h0 : 0 < n
  · rcases hL with h | ⟨b, off, rfl, hb, hcell⟩
    · rw [h] at hl; simp at hl; omega
    rw [show allB zs n = mayAll zs n by simp [allB, h0]]
    exact all_some b off n cap zs w hl h0 h1 hb hcell
  · obtain rfl : n = 0 := by omega
    rw [show allB zs 0 = false by simp [allB]]
    simp only [tl_f rfl]
    exact all_none a cap w
theorem rall_any (a : Option Addr) (n cap : Nat) (zs : List Int) (w : World) (hl : zs.length = n * 4) (h1 : n ≤ 200) (hL : Lst w a zs) :
    Calls Try.prog 25 #[.slice a n cap] w fun e w' => e = .returned (.tuple #[.agg #[.int .i64 (tl (allB zs n) (ac0 zs (n - 1))), .int .i64 (tl (allB zs n) (ac1 zs (n - 1))), .int .i64 (tl (allB zs n) (ac2 zs (n - 1))), .int .i64 (tl (allB zs n) (ac3 zs (n - 1)))], .bool (allB zs n)]) ∧ Below w.heap.size w w' := by
  by_cases h0 : 0 < n
  · rcases hL with h | ⟨b, off, rfl, hb, hcell⟩
    · rw [h] at hl; simp at hl; omega
    rw [show allB zs n = mayAll zs n by simp [allB, h0]]
    exact rall_some b off n cap zs w hl h0 h1 hb hcell
  · obtain rfl : n = 0 := by omega
    rw [show allB zs 0 = false by simp [allB]]
    simp only [tl_f rfl]
    exact rall_none a cap w

theorem info_rect : (Try.prog.info? 23).map (fun i => (i.zero, i.size, i.bytes)) = some (some (.agg #[.int .i64 0, .int .i64 0, .int .i64 0, .int .i64 0]), 4, 32) := by kernel_rfl
theorem newCell (zs : List Int) (i : Nat) (h : i < zs.length) (rest : Array Value) : (((zs.map (Value.int .i64)).toArray ++ rest)[i]?) = some (.int .i64 (zs.getD i 0)) := by
  rw [Array.getElem?_append_left (by simpa using h)]
  simp [List.getElem?_eq_getElem h, List.getD_eq_getElem?_getD]

/- append([]api.Rect{}, l...), l of n rectangles, n from 1 on -/
theorem append_some (w : World) (b off n c : Nat) (zs : List Int) (hz : zs.length = n * 4) (h0 : 0 < n) (h : n ≤ 200) (hb : b < w.heap.size)
    (hcell : ∀ i, i < zs.length → w.cell? ⟨b, off + i, none⟩ = some (.int .i64 (zs.getD i 0))) :
    ∃ c' rest, n ≤ c' ∧ c' ≤ 9223372036854775807 ∧
    (Builtin.append_ #[35, 35] 35 #[.slice (some ⟨w.heap.size, 0, none⟩) 0 0, .slice (some ⟨b, off, none⟩) n c]).run Try.prog (w.alloc (.cells #[] 23)) =
      .ok (.slice (some ⟨w.heap.size + 1, 0, none⟩) n c') (((w.alloc (.cells #[] 23)).drew).alloc (.cells ((zs.map (Value.int .i64)).toArray ++ rest) 23)) := by
  obtain ⟨i0, hi, hz0, hz1, hz2⟩ := info_parts info_rect
  have hs : Src Try.prog i0.size 35 (.slice (some ⟨b, off, none⟩) n c) n (zs.map (Value.int .i64)) (w.alloc (.cells #[] 23)) := by
    refine Src.ofSlice (w.alloc (.cells #[] 23)) Try.underlying35 ⟨b, off, none⟩ n c _ (by rw [hz1]; simp [hz]) ?_ (ints_oneCell .i64 zs)
    intro j u hu
    have hj : j < zs.length := by
      have := List.getElem?_eq_some_iff.1 hu
      simpa using this.1
    rw [Go.WideShapes.add_plain, World.cell?_alloc_lt _ _ _ hb, hcell j hj]
    rw [List.getElem?_map, List.getElem?_eq_getElem hj] at hu
    simp at hu
    rw [← hu, List.getD_eq_getElem?_getD, List.getElem?_eq_getElem hj]
    rfl
  have hr := run_append_grow_src (P := Try.prog) (w.alloc (.cells #[] 23)) 35 35 35 23 i0 (.agg #[.int .i64 0, .int .i64 0, .int .i64 0, .int .i64 0]) Try.underlying35 hi hz0 (some ⟨w.heap.size, 0, none⟩) 0 0 [] (run_firstCells_some _ i0.size 0 _ 0 0 [] (by simp) (by simp)) _ n _ hs (by omega) (by omega)
    (by rw [hz2]; have := growslice_fits (need := 0 + n) (old := 0) (bytes := 32) (by omega) (by omega); exact this)
  simp only [Nat.zero_add, List.nil_append] at hr
  have hs2 : (w.alloc (.cells #[] 23)).heap.size = w.heap.size + 1 := by simp
  rw [hs2] at hr
  exact ⟨_, _, grownCap_ge _ _ _ _, by have := grownCap_le_maxLen (w.alloc (.cells #[] 23)) n 0 23 (by simp only [maxLen]; omega); simpa only [maxLen] using this, hr⟩
/- the same, of none -/
theorem append_none (w : World) (a : Option Addr) (c : Nat) :
    (Builtin.append_ #[35, 35] 35 #[.slice (some ⟨w.heap.size, 0, none⟩) 0 0, .slice a 0 c]).run Try.prog (w.alloc (.cells #[] 23)) =
      .ok (.slice (some ⟨w.heap.size, 0, none⟩) 0 0) (w.alloc (.cells #[] 23)) := by
  obtain ⟨i0, hi, hz0, hz1, hz2⟩ := info_parts info_rect
  have hs : Src Try.prog i0.size 35 (.slice a 0 c) 0 [] (w.alloc (.cells #[] 23)) := by
    cases a with
    | none => exact Src.ofNil _ Try.underlying35 c
    | some x => exact Src.ofSlice _ Try.underlying35 x 0 c [] (by simp) (by simp) (by simp)
  have hr := run_append_room_src (P := Try.prog) (w.alloc (.cells #[] 23)) 35 35 35 23 i0 Try.underlying35 hi w.heap.size 0 0 0 _ 0 [] hs (by omega) (by simp) (by simp)
  simpa [World.setCells] using hr

/- the copy: one equation for both -/
theorem copy_any (w : World) (a : Option Addr) (n c : Nat) (zs : List Int) (hz : zs.length = n * 4) (h : n ≤ 200) (hL : Lst w a zs) :
    ∃ g c' w', (Builtin.append_ #[35, 35] 35 #[.slice (some ⟨w.heap.size, 0, none⟩) 0 0, .slice a n c]).run Try.prog (w.alloc (.cells #[] 23)) = .ok (.slice (some ⟨g, 0, none⟩) n c') w' ∧
      Below w.heap.size w w' ∧ w.heap.size ≤ g ∧ g < w'.heap.size ∧ n ≤ c' ∧ c' ≤ 9223372036854775807 ∧ Lst w' (some ⟨g, 0, none⟩) zs := by
  by_cases h0 : 0 < n
  · rcases hL with hL | ⟨b, off, rfl, hb, hcell⟩
    · rw [hL] at hz; simp at hz; omega
    obtain ⟨c', rest, k1, k2, hr⟩ := append_some w b off n c zs hz h0 h hb hcell
    have b1 : Below w.heap.size w ((w.alloc (.cells #[] 23)).drew) := ((Below.refl _ _).alloc (Nat.le_refl _) _).drew
    have hsz : ((w.alloc (.cells #[] 23)).drew).heap.size = w.heap.size + 1 := by simp
    refine ⟨_, _, _, hr, b1.alloc (by rw [hsz]; omega) _, by omega, by simp, k1, k2, ?_⟩
    refine Or.inr ⟨w.heap.size + 1, 0, rfl, by simp, fun i hi => ?_⟩
    rw [Nat.zero_add, World.cell?_alloc_at _ _ _ _ hsz.symm, newCell zs i hi]
  · obtain rfl : n = 0 := by omega
    obtain rfl : zs = [] := List.eq_nil_of_length_eq_zero (by omega)
    exact ⟨_, _, _, append_none w a c, (Below.refl _ _).alloc (Nat.le_refl _) _, by omega, by simp, by omega, by omega, Or.inl rfl⟩
end Go.Proofs.Ytaaajbpdnbhghaa
