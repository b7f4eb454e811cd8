/-
  Joined: M9Cp, F12A.
-/
import Derived.Deep.AppendSrc
import Derived.Deep.CutRange
import Derived.Test.YthnpnkiomknkeaaDoorC08
import Derived.Test.YthnpnkiomknkeaaDoorC20
namespace Go.Proofs.YthnpnkiomknkeaaDoor
open Go.RowKit Go.Deep
set_option linter.unusedVariables false
theorem newCell9 (zs : List Int) (i : Nat) (h : i < zs.length) (rest : Array Value) : (((zs.map (Value.int .i64)).toArray ++ rest)[i]?) = some (.int .i64 (zs.getD i 0)) := by
  rw [Array.getElem?_append_left (by simpa using h)]
  simp [List.getElem?_eq_getElem h, List.getD_eq_getElem?_getD]
theorem app_copy (w : World) (a : Option Addr) (n c H : Nat) (zs : List Int) (hz : zs.length = n) (h : n ≤ 100000) (hL : Lst w a zs) (hH : w.heap.size = H) :
    ∃ g c' w', (Builtin.append_ #[23, 23] 23 #[.slice (some ⟨H, 0, none⟩) 0 0, .slice a n c]).run Tryd.prog (w.alloc (.cells #[] 3)) = .ok (.slice (some ⟨g, 0, none⟩) n c') w' ∧ Lst w' (some ⟨g, 0, none⟩) zs ∧ w.heap.size ≤ g ∧ Below w.heap.size w w' := by
  subst hH
  obtain ⟨i0, hi, hz0, hz1, hz2⟩ := info_parts5 info_int
  rcases Nat.eq_zero_or_pos n with h0 | h0
  · subst h0
    obtain rfl : zs = [] := List.eq_nil_of_length_eq_zero hz
    have hs : Src Tryd.prog i0.size 23 (.slice a 0 c) 0 [] (w.alloc (.cells #[] 3)) := by
      cases a with
      | none => exact Src.ofNil _ Tryd.underlying23 c
      | some x => exact Src.ofSlice _ Tryd.underlying23 x 0 c [] (by simp) (by simp) (by simp)
    have hr := run_append_room_src (P := Tryd.prog) (w.alloc (.cells #[] 3)) 23 23 23 3 i0 Tryd.underlying23 hi w.heap.size 0 0 0 _ 0 [] hs (by omega) (by simp) (by simp)
    refine ⟨w.heap.size, 0, w.alloc (.cells #[] 3), by simpa [World.setCells] using hr, Or.inl rfl, Nat.le_refl _, (Below.refl _ _).alloc (Nat.le_refl _) _⟩
  · rcases hL with hz' | ⟨b, off, rfl, hb, hcell⟩
    · rw [hz'] at hz; simp at hz; omega
    have hs : Src Tryd.prog i0.size 23 (.slice (some ⟨b, off, none⟩) n c) n (zs.map (Value.int .i64)) (w.alloc (.cells #[] 3)) := by
      refine Src.ofSlice (w.alloc (.cells #[] 3)) Tryd.underlying23 ⟨b, off, none⟩ n c _ (by rw [hz1]; simp [hz]) ?_ (ints_oneCell .i64 zs)
      intro j u hu
      have hj : j < zs.length := by
        have := List.getElem?_eq_some_iff.1 hu
        simpa using this.1
      rw [Go.WideShapes.add_plain, World.cell?_alloc_lt _ _ _ hb, hcell j hj]
      rw [List.getElem?_map, List.getElem?_eq_getElem hj] at hu
      simp at hu
      rw [← hu, List.getD_eq_getElem?_getD, List.getElem?_eq_getElem hj]
      rfl
    have hr := run_append_grow_src (P := Tryd.prog) (w.alloc (.cells #[] 3)) 23 23 23 3 i0 (.int .i64 0) Tryd.underlying23 hi hz0 (some ⟨w.heap.size, 0, none⟩) 0 0 [] (run_firstCells_some _ i0.size 0 _ 0 0 [] (by simp) (by simp)) _ n _ hs (by omega) (by omega)
      (by rw [hz2]; have := growslice_fits (need := 0 + n) (old := 0) (bytes := 8) (by omega) (by omega); exact this)
    simp only [Nat.zero_add, List.nil_append] at hr
    have hs2 : (w.alloc (.cells #[] 3)).heap.size = w.heap.size + 1 := by simp
    rw [hs2] at hr
    have b1 : Below w.heap.size w ((w.alloc (.cells #[] 3)).drew) := ((Below.refl _ _).alloc (Nat.le_refl _) _).drew
    have hsz : ((w.alloc (.cells #[] 3)).drew).heap.size = w.heap.size + 1 := by simp
    refine ⟨_, _, _, hr, Or.inr ⟨w.heap.size + 1, 0, rfl, by simp, fun i hi => ?_⟩, by omega, b1.alloc (by rw [hsz]; omega) _⟩
    rw [Nat.zero_add, World.cell?_alloc_at _ _ _ _ hsz.symm, newCell9 zs i hi]
theorem Lst.other {w : World} {p b o : Nat} {zs : List Int} (h : Lst w (some ⟨p, 0, none⟩) zs) (hne : p ≠ b) (v : Value) : Lst (w.setCell ⟨b, o, none⟩ v) (some ⟨p, 0, none⟩) zs := by
  rcases h with h | ⟨c, off, h1, h2, h3⟩
  · exact Or.inl h
  · obtain ⟨rfl, rfl⟩ : p = c ∧ 0 = off := by simpa using h1
    refine Or.inr ⟨p, 0, rfl, by simp [World.setCell]; exact h2, fun i hi => ?_⟩
    rw [World.cell?_of_block (w := w) (Below.heap_setCell _ _ _ _ hne)]
    exact h3 i hi
theorem Lst.but {w w' : World} {p b : Nat} {zs : List Int} (h : Lst w (some ⟨p, 0, none⟩) zs) (hb : But b w w') (hne : p ≠ b) : Lst w' (some ⟨p, 0, none⟩) zs := by
  rcases h with h | ⟨c, off, h1, h2, h3⟩
  · exact Or.inl h
  · obtain ⟨rfl, rfl⟩ : p = c ∧ 0 = off := by simpa using h1
    refine Or.inr ⟨p, 0, rfl, Nat.lt_of_lt_of_le h2 hb.size, fun i hi => ?_⟩
    rw [World.cell?_of_block (w := w) (hb.block p h2 hne)]
    exact h3 i hi
end Go.Proofs.YthnpnkiomknkeaaDoor
namespace Go.Proofs.YthnpnkiomknkeaaDoor.F12
open Go.RowKit Go.Deep
set_option linter.unusedVariables false
set_option linter.unusedSimpArgs false
abbrev fcs (m : Mt) (va vb vg vc : Value) : Array Value := #[.int .i64 m.up, .int .i64 m.sc, .int .i64 m.de, .int .i64 m.ga, .int .i64 m.b0, .int .i64 m.b1, .int .i64 m.b2, .int .i64 m.b3, .bool m.lg, va, vb, vg, vc]
end Go.Proofs.YthnpnkiomknkeaaDoor.F12
