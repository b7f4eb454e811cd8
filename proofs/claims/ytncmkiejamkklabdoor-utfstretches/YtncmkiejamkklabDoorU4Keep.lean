/-
  What colophonkeep's Ints answers: a copy of at most so many, in new memory.
-/
import Derived.Test.YtncmkiejamkklabDoorU4Row
import Derived.WalkKit
import Derived.Outline
import Derived.OwnWalk
import Derived.Deep.AppendSrc
import Derived.Deep.Draws
import Derived.WalkSmall
import Derived.Lib.AppendZeros
namespace Go.Proofs.YtncmkiejamkklabDoor
open Go.RowKit

theorem newCell (zs : List Int) (i : Nat) (h : i < zs.length) (rest : Array Value) : (((zs.map (Value.int .i64)).toArray ++ rest)[i]?) = some (.int .i64 (zs.getD i 0)) := by
  rw [Array.getElem?_append_left (by simpa using h)]
  simp [List.getElem?_eq_getElem h, List.getD_eq_getElem?_getD]

/- append([]int{}, l...), l of n ints, n from 1 on -/
theorem append_some (w : World) (b off n c : Nat) (zs : List Int) (hz : zs.length = n) (h0 : 0 < n) (h : n ≤ 4096) (hb : b < w.heap.size)
    (hcell : ∀ i, i < zs.length → w.cell? ⟨b, off + i, none⟩ = some (.int .i64 (zs.getD i 0))) :
    ∃ c' rest, n ≤ c' ∧ c' ≤ 9223372036854775807 ∧
    (Builtin.append_ #[22, 22] 22 #[.slice (some ⟨w.heap.size, 0, none⟩) 0 0, .slice (some ⟨b, off, none⟩) n c]).run Tryd.prog (w.alloc (.cells #[] 3)) =
      .ok (.slice (some ⟨w.heap.size + 1, 0, none⟩) n c') (((w.alloc (.cells #[] 3)).drew).alloc (.cells ((zs.map (Value.int .i64)).toArray ++ rest) 3)) := by
  obtain ⟨i0, hi, hz0, hz1, hz2⟩ := info_parts info_int
  have hs : Src Tryd.prog i0.size 22 (.slice (some ⟨b, off, none⟩) n c) n (zs.map (Value.int .i64)) (w.alloc (.cells #[] 3)) := by
    refine Src.ofSlice (w.alloc (.cells #[] 3)) Tryd.underlying22 ⟨b, off, none⟩ n c _ (by rw [hz1]; simp [hz]) ?_ (ints_oneCell .i64 zs)
    intro j u hu
    have hj : j < zs.length := by
      have := List.getElem?_eq_some_iff.1 hu
      simpa using this.1
    rw [Go.WideShapes.add_plain, World.cell?_alloc_lt _ _ _ hb, hcell j hj]
    rw [List.getElem?_map, List.getElem?_eq_getElem hj] at hu
    simp at hu
    rw [← hu, List.getD_eq_getElem?_getD, List.getElem?_eq_getElem hj]
    rfl
  have hr := run_append_grow_src (P := Tryd.prog) (w.alloc (.cells #[] 3)) 22 22 22 3 i0 (.int .i64 0) Tryd.underlying22 hi hz0 (some ⟨w.heap.size, 0, none⟩) 0 0 [] (run_firstCells_some _ i0.size 0 _ 0 0 [] (by simp) (by simp)) _ n _ hs (by omega) (by omega)
    (by rw [hz2]; have := growslice_fits (need := 0 + n) (old := 0) (bytes := 8) (by omega) (by omega); exact this)
  simp only [Nat.zero_add, List.nil_append] at hr
  have hs2 : (w.alloc (.cells #[] 3)).heap.size = w.heap.size + 1 := by simp
  rw [hs2] at hr
  exact ⟨_, _, grownCap_ge _ _ _ _, by have := grownCap_le_maxLen (w.alloc (.cells #[] 3)) n 0 3 (by simp only [maxLen]; omega); simpa only [maxLen] using this, hr⟩
/- the same, of none -/
theorem append_none (w : World) (a : Option Addr) (c : Nat) :
    (Builtin.append_ #[22, 22] 22 #[.slice (some ⟨w.heap.size, 0, none⟩) 0 0, .slice a 0 c]).run Tryd.prog (w.alloc (.cells #[] 3)) =
      .ok (.slice (some ⟨w.heap.size, 0, none⟩) 0 0) (w.alloc (.cells #[] 3)) := by
  obtain ⟨i0, hi, hz0, hz1, hz2⟩ := info_parts info_int
  have hs : Src Tryd.prog i0.size 22 (.slice a 0 c) 0 [] (w.alloc (.cells #[] 3)) := by
    cases a with
    | none => exact Src.ofNil _ Tryd.underlying22 c
    | some x => exact Src.ofSlice _ Tryd.underlying22 x 0 c [] (by simp) (by simp) (by simp)
  have hr := run_append_room_src (P := Tryd.prog) (w.alloc (.cells #[] 3)) 22 22 22 3 i0 Tryd.underlying22 hi w.heap.size 0 0 0 _ 0 [] hs (by omega) (by simp) (by simp)
  simpa [World.setCells] using hr

/- Ints: a copy of at most 'most' -/
def Copied (w w' : World) (v : Value) (zs : List Int) : Prop :=
  ∃ g c, v = .slice (some ⟨g, 0, none⟩) zs.length c ∧ Below w.heap.size w w' ∧ w.heap.size ≤ g ∧ g < w'.heap.size ∧ zs.length ≤ c ∧ c ≤ 9223372036854775807 ∧ Lst w' (some ⟨g, 0, none⟩) zs

theorem copied_some (w : World) (zs : List Int) (n c : Nat) (hn : zs.length = n) (rest : Array Value) (h1 : n ≤ c) (h2 : c ≤ 9223372036854775807) :
    Copied w (((w.alloc (.cells #[] 3)).drew).alloc (.cells ((zs.map (Value.int .i64)).toArray ++ rest) 3)) (.slice (some ⟨w.heap.size + 1, 0, none⟩) n c) zs := by
  have b1 : Below w.heap.size w ((w.alloc (.cells #[] 3)).drew) := ((Below.refl _ _).alloc (Nat.le_refl _) _).drew
  have hsz : ((w.alloc (.cells #[] 3)).drew).heap.size = w.heap.size + 1 := by simp
  refine ⟨w.heap.size + 1, c, by rw [hn], b1.alloc (by rw [hsz]; omega) _, by omega, by simp, by omega, h2, ?_⟩
  refine Or.inr ⟨w.heap.size + 1, 0, rfl, by simp, fun i hi => ?_⟩
  rw [Nat.zero_add, World.cell?_alloc_at _ _ _ _ hsz.symm, newCell zs i hi]
theorem copied_none (w : World) : Copied w (w.alloc (.cells #[] 3)) (.slice (some ⟨w.heap.size, 0, none⟩) 0 0) [] :=
  ⟨w.heap.size, 0, rfl, (Below.refl _ _).alloc (Nat.le_refl _) _, by omega, by simp, by simp, by omega, Or.inl rfl⟩

set_option maxRecDepth 100000 in
theorem ints_any (a : Option Addr) (len cap most : Nat) (zs : List Int) (w : World) (hl : zs.length = len) (h1 : len ≤ cap) (h2 : cap ≤ 9223372036854775807) (hL : Lst w a zs) (m1 : 1 ≤ most) (m2 : most ≤ 4096) :
    Calls Tryd.prog 4 #[.slice a len cap, .int .i64 (most : Int)] w fun e w' => ∃ v, e = .returned v ∧ Copied w w' v (zs.take most) := by
  have h3 := h2
  clear h2
  by_cases h0 : len = 0
  · obtain rfl : zs = [] := List.eq_nil_of_length_eq_zero (by omega)
    subst h0
    rw [List.take_nil]
    have hr := hide (append_none w a cap)
    have hk := hide (copied_none w)
    have t1 : decide ((most : Int) < ((0 : Nat) : Int)) = false := by simp
    clear hL hl h1 h3 m2
    go_enter Tryd.func4, Tryd.ntmps4
    go_wp2_with (at_builtin; refine Lib.wpList_append_run _ rfl _ _ _ _ rfl _ _ rfl rfl _ _ hr.out ?_)
    go_ret
    exact ⟨_, rfl, hk.out⟩
  rcases hL with hL | ⟨b, off, rfl, hb, hcell⟩
  · rw [hL] at hl; simp at hl; omega
  by_cases hm : len ≤ most
  · rw [List.take_of_length_le (by omega)]
    obtain ⟨c', rest, k1, k2, hr⟩ := append_some w b off len cap zs hl (by omega) (by omega) hb hcell
    have hr := hide hr
    have hk := hide (copied_some w zs len c' hl rest k1 k2)
    have t1 : decide ((most : Int) < (len : Int)) = false := by simp; omega
    clear hcell hl
    go_enter Tryd.func4, Tryd.ntmps4
    go_wp2_with (at_builtin; refine Lib.wpList_append_run _ rfl _ _ _ _ rfl _ _ rfl rfl _ _ hr.out ?_)
    go_ret
    exact ⟨_, rfl, hk.out⟩
  · have hl2 : (zs.take most).length = most := by rw [List.length_take]; omega
    have hL2 : Lst w (some ⟨b, off, none⟩) (zs.take most) := Lst.take (Or.inr ⟨b, off, rfl, hb, hcell⟩) most
    have hcell2 : ∀ i, i < (zs.take most).length → w.cell? ⟨b, off + i, none⟩ = some (.int .i64 ((zs.take most).getD i 0)) := by
      rcases hL2 with h | ⟨b', off', e, _, h⟩
      · rw [h] at hl2; simp at hl2; omega
      · simp only [Option.some.injEq, Addr.mk.injEq] at e
        obtain ⟨rfl, rfl, _⟩ := e
        exact h
    obtain ⟨ys, hys⟩ : ∃ ys, zs.take most = ys := ⟨_, rfl⟩
    rw [hys] at hl2 hcell2 hL2 ⊢
    obtain ⟨c', rest, k1, k2, hr⟩ := append_some w b off most cap ys hl2 (by omega) (by omega) hb hcell2
    have hr := hide hr
    have hk := hide (copied_some w ys most c' hl2 rest k1 k2)
    have t1 : decide ((most : Int) < (len : Int)) = true := by simp; omega
    have t2 : (most : Int) ≤ (cap : Int) := by omega
    clear hcell hl hcell2 hL2 hl2 hys
    go_enter Tryd.func4, Tryd.ntmps4
    go_wp2_with (at_builtin; refine Lib.wpList_append_run _ rfl _ _ _ _ rfl _ _ rfl rfl _ _ hr.out ?_)
    go_ret
    exact ⟨_, rfl, hk.out⟩
end Go.Proofs.YtncmkiejamkklabDoor
