/-
  Spans that came in, as they lie; their copy; what the law's same answers.
-/
import Derived.Test.YthgpchjkeidilaaC11Wk
import Derived.ProofKit
import Derived.OpenShut
import Derived.Lib.SmallJoins
import Derived.Deep.Slices
import Derived.Deep.Strs
import Derived.BigRegion
namespace Go.Proofs.Ythgpchjkeidilaa
open Go.ChangeShapes Go.WideShapes Go.RowKit Go.Joins Go.Deep
set_option linter.unusedVariables false

theorem cellsCh : Try.prog.cellsOf 31 = 3 := by kernel_rfl
theorem cellsInt : Try.prog.cellsOf 3 = 1 := by kernel_rfl
theorem cell_ltC {w : World} {b o : Nat} {v : Value} (h : w.cell? ⟨b, o, none⟩ = some v) : b < w.heap.size := by
  by_cases hb : b < w.heap.size
  · exact hb
  · unfold World.cell? at h
    rw [Array.getElem?_eq_none (by show w.heap.size ≤ b; omega)] at h
    simp at h
/- spans that came in -/
structure CIn (w : World) (a : Option Addr) (n : Nat) (cs : List Ch) : Prop where
  len : cs.length = n
  most : n ≤ 9223372036854775807
  lst : CLst w a cs
  rng : ∀ i, i < cs.length → RC (cs.getD i c0)
section
variable {H : Type} {enc : TypeId × Value → H} {W : World} {r : Reach} {base b0 : Nat} {sp : Nat → Bool} {held : Bool} {v : Value} {d : DataW H} {p : List MemPlace}
theorem int_cellC {n : Nat} {c : Value} {y : DataW H × List MemPlace} (h : DataW.trod enc Try.prog W base sp held n 3 [c] = some y) : ∃ a, c = .int .i64 a ∧ R64 a := by
  obtain ⟨a, e, _, wa⟩ := DataW.trod_int Try.underlying3 h
  simp only [List.cons.injEq, and_true] at e
  exact ⟨a, e, (bounds_i64 wa).1, (bounds_i64 wa).2⟩
def comp3 (q : Ch) : Nat → Int
  | 0 => q.f
  | 1 => q.l
  | _ => q.g
theorem chars_at {x : Addr} {len : Nat} {q : Nat → Ch}
    (hq : ∀ i, i < len → (W.cell? (x.add (i * 3)) = some (.int .i64 (q i).f) ∧ W.cell? (x.add (i * 3 + 1)) = some (.int .i64 (q i).l) ∧ W.cell? (x.add (i * 3 + 2)) = some (.int .i64 (q i).g)) ∧ RC (q i)) :
    ∀ i, i < ((List.range (len * 3)).map fun j => comp3 (q (j / 3)) (j % 3)).length → W.cell? (x.add i) = some (.int .i64 (((List.range (len * 3)).map fun j => comp3 (q (j / 3)) (j % 3)).getD i 0)) := by
  intro i hi
  simp only [List.length_map, List.length_range] at hi
  rw [List.getD_eq_getElem?_getD, List.getElem?_map, List.getElem?_range hi]
  simp only [Option.map_some, Option.getD_some]
  obtain ⟨⟨h0, h1, h2⟩, _⟩ := hq (i / 3) (by omega)
  have hm : i % 3 < 3 := Nat.mod_lt _ (by omega)
  have he : i = i / 3 * 3 + i % 3 := by omega
  generalize i % 3 = k at *
  generalize i / 3 = n at *
  subst he
  match k, hm with
  | 0, _ => exact h0
  | 1, _ => exact h1
  | 2, _ => exact h2
theorem open_chars (hv : Value.okWide Try.prog W r b0 22 v) (h : DataW.Trod enc Try.prog W base sp held 22 v d p) :
    ∃ a n c cs, v = .slice a n c ∧ CIn W a n cs := by
  obtain ⟨a, len, cap, rfl⟩ := okWide_slice Try.underlying22 hv
  refine ⟨a, len, cap, ?_⟩
  obtain ⟨fuel, hf⟩ := h
  rcases open_slice Try.underlying22 hf with ⟨hcs, _⟩ | ⟨x, len', cap', m, n, D, Pl, hcs, _, hl, hm, hmm, _, hx⟩
  · simp [Value.cells] at hcs
    obtain ⟨rfl, rfl, rfl⟩ := hcs
    exact ⟨[], rfl, ⟨rfl, by omega, Or.inl rfl, fun i hi => by simp at hi⟩⟩
  · simp [Value.cells] at hcs
    obtain ⟨rfl, rfl, rfl⟩ := hcs
    have hlm : len ≤ m := by rw [hmm]; split <;> omega
    have each : ∀ i, i < len → ∃ q : Ch, (W.cell? (x.add (i * 3)) = some (.int .i64 q.f) ∧ W.cell? (x.add (i * 3 + 1)) = some (.int .i64 q.l) ∧ W.cell? (x.add (i * 3 + 2)) = some (.int .i64 q.g)) ∧ RC q := by
      intro i hi
      obtain ⟨cs', h1, h2⟩ := hx i (by omega)
      rw [cellsCh] at h1
      obtain ⟨_, hlen, hcell⟩ := World.cells?_some h1
      obtain ⟨y0, y1, y2, k, _, _, g0, g1, g2⟩ := trod_struct3 Try.underlying31 h2
      match cs', hlen with
      | [v0, v1, v2], _ =>
        have e0 := hcell 0 (by omega)
        have e1 := hcell 1 (by omega)
        have e2 := hcell 2 (by omega)
        rw [add_add] at e0 e1 e2
        obtain ⟨z0, rfl, r0⟩ := int_cellC (by simpa [cellsInt] using g0)
        obtain ⟨z1, rfl, r1⟩ := int_cellC (by simpa [cellsInt] using g1)
        obtain ⟨z2, rfl, r2⟩ := int_cellC (by simpa [cellsInt] using g2)
        exact ⟨⟨z0, z1, z2⟩, ⟨by simpa using e0, by simpa using e1, by simpa using e2⟩, r0, r1, r2⟩
    haveI : Inhabited Ch := ⟨c0⟩
    obtain ⟨q, hq⟩ := choose_lt each
    have hc := chars_at hq
    have hlen : ((List.range len).map q).length = len := by simp
    have hget : ∀ i, i < len → ((List.range len).map q).getD i c0 = q i := fun i hi => by
      rw [List.getD_eq_getElem?_getD, List.getElem?_map, List.getElem?_range hi]; rfl
    refine ⟨(List.range len).map q, rfl, ⟨hlen, by unfold maxLen at hm; omega, ?_, fun i hi => by rw [hget i (by simpa using hi)]; exact (hq i (by simpa using hi)).2⟩⟩
    by_cases h0 : len = 0
    · exact Or.inl (by rw [h0]; rfl)
    · obtain ⟨b, off, rfl, _⟩ := ints_at hc (by simp; omega)
      refine Or.inr ⟨b, off, rfl, ?_, fun i hi => ?_⟩
      · have := (hq 0 (by omega)).1.1
        rw [add_plain] at this
        exact cell_ltC this
      · rw [hlen] at hi
        rw [hget i hi]
        have := (hq i hi).1
        rw [add_plain, add_plain, add_plain] at this
        exact this
end
/- the copy of a list: append([]api.Chars{}, l...) -/
theorem copy_some (w : World) (b off n c : Nat) (cs : List Ch) (hz : cs.length = n) (h0 : 0 < n) (h : n ≤ 100000) (hb : b < w.heap.size)
    (hcell : ∀ i, i < cs.length → w.cell? ⟨b, off + i * 3, none⟩ = some (.int .i64 (cs.getD i c0).f) ∧ w.cell? ⟨b, off + i * 3 + 1, none⟩ = some (.int .i64 (cs.getD i c0).l) ∧ w.cell? ⟨b, off + i * 3 + 2, none⟩ = some (.int .i64 (cs.getD i c0).g)) :
    ∃ c' rest, n ≤ c' ∧
    (Builtin.append_ #[22, 22] 22 #[.slice (some ⟨w.heap.size, 0, none⟩) 0 0, .slice (some ⟨b, off, none⟩) n c]).run Try.prog (w.alloc (.cells #[] 31)) =
      .ok (.slice (some ⟨w.heap.size + 1, 0, none⟩) n c') (((w.alloc (.cells #[] 31)).drew).alloc (.cells (((fl3 cs).map (Value.int .i64)).toArray ++ rest) 31)) := by
  obtain ⟨i0, hi, hz0, hz1, hz2⟩ := info_parts5 info_ch
  have hflat : ∀ j, j < (fl3 cs).length → w.cell? ⟨b, off + j, none⟩ = some (.int .i64 ((fl3 cs).getD j 0)) := fun j hj => by
    rw [fl3_len] at hj
    obtain ⟨a0, a1, a2⟩ := hcell (j / 3) (by omega)
    obtain ⟨e0, e1, e2⟩ := fl3_at cs (j / 3) (by omega)
    have hm : j % 3 < 3 := Nat.mod_lt _ (by omega)
    have he : j = j / 3 * 3 + j % 3 := by omega
    generalize j % 3 = k at *
    generalize j / 3 = m at *
    subst he
    match k, hm with
    | 0, _ => rw [Nat.add_zero, e0]; exact a0
    | 1, _ => rw [e1, ← Nat.add_assoc]; exact a1
    | 2, _ => rw [e2, ← Nat.add_assoc]; exact a2
  have hs : Src Try.prog i0.size 22 (.slice (some ⟨b, off, none⟩) n c) n ((fl3 cs).map (Value.int .i64)) (w.alloc (.cells #[] 31)) := by
    refine Src.ofSlice (w.alloc (.cells #[] 31)) Try.underlying22 ⟨b, off, none⟩ n c _ (by rw [hz1]; simp [fl3_len, hz]) ?_ (ints_oneCell .i64 (fl3 cs))
    intro j u hu
    have hj : j < (fl3 cs).length := by
      have := List.getElem?_eq_some_iff.1 hu
      simpa using this.1
    rw [Go.WideShapes.add_plain, World.cell?_alloc_lt _ _ _ hb, hflat j hj]
    rw [List.getElem?_map, List.getElem?_eq_getElem hj] at hu
    simp at hu
    rw [← hu, List.getD_eq_getElem?_getD, List.getElem?_eq_getElem hj]
    rfl
  have hr := run_append_grow_src (P := Try.prog) (w.alloc (.cells #[] 31)) 22 22 22 31 i0 (.agg #[.int .i64 0, .int .i64 0, .int .i64 0]) Try.underlying22 hi hz0 (some ⟨w.heap.size, 0, none⟩) 0 0 [] (run_firstCells_some _ i0.size 0 _ 0 0 [] (by simp) (by simp)) _ n _ hs (by omega) (by omega)
    (by rw [hz2]; have := growslice_fits (need := 0 + n) (old := 0) (bytes := 24) (by omega) (by omega); exact this)
  simp only [Nat.zero_add, List.nil_append] at hr
  have hs2 : (w.alloc (.cells #[] 31)).heap.size = w.heap.size + 1 := by simp
  rw [hs2] at hr
  exact ⟨_, _, grownCap_ge _ _ _ _, hr⟩
theorem copy_none (w : World) (a : Option Addr) (c : Nat) :
    (Builtin.append_ #[22, 22] 22 #[.slice (some ⟨w.heap.size, 0, none⟩) 0 0, .slice a 0 c]).run Try.prog (w.alloc (.cells #[] 31)) =
      .ok (.slice (some ⟨w.heap.size, 0, none⟩) 0 0) (w.alloc (.cells #[] 31)) := by
  obtain ⟨i0, hi, hz0, hz1, hz2⟩ := info_parts5 info_ch
  have hs : Src Try.prog i0.size 22 (.slice a 0 c) 0 [] (w.alloc (.cells #[] 31)) := by
    cases a with
    | none => exact Src.ofNil _ Try.underlying22 c
    | some x => exact Src.ofSlice _ Try.underlying22 x 0 c [] (by simp) (by simp) (by simp)
  have hr := run_append_room_src (P := Try.prog) (w.alloc (.cells #[] 31)) 22 22 22 31 i0 Try.underlying22 hi w.heap.size 0 0 0 _ 0 [] hs (by omega) (by simp) (by simp)
  simpa [World.setCells] using hr
theorem copy_any (w : World) (a : Option Addr) (n c : Nat) (cs : List Ch) (hz : cs.length = n) (h : n ≤ 100000) (hL : CLst w a cs) :
    ∃ g c' w', (Builtin.append_ #[22, 22] 22 #[.slice (some ⟨w.heap.size, 0, none⟩) 0 0, .slice a n c]).run Try.prog (w.alloc (.cells #[] 31)) = .ok (.slice (some ⟨g, 0, none⟩) n c') w' ∧
      Below w.heap.size w w' ∧ CLst w' (some ⟨g, 0, none⟩) cs := by
  by_cases h0 : 0 < n
  · rcases hL with hL | ⟨b, off, rfl, hb, hcell⟩
    · rw [hL] at hz; simp at hz; omega
    obtain ⟨c', rest, k1, hr⟩ := copy_some w b off n c cs hz h0 h hb hcell
    have b1 : Below w.heap.size w ((w.alloc (.cells #[] 31)).drew) := ((Below.refl _ _).alloc (Nat.le_refl _) _).drew
    have hsz : ((w.alloc (.cells #[] 31)).drew).heap.size = w.heap.size + 1 := by simp
    refine ⟨_, _, _, hr, b1.alloc (by rw [hsz]; omega) _, ?_⟩
    have hnew : ∀ j, j < (fl3 cs).length → (((w.alloc (.cells #[] 31)).drew).alloc (.cells (((fl3 cs).map (Value.int .i64)).toArray ++ rest) 31)).cell? ⟨w.heap.size + 1, j, none⟩ = some (.int .i64 ((fl3 cs).getD j 0)) := fun j hj => by
      rw [World.cell?_alloc_at _ _ _ _ hsz.symm, Array.getElem?_append_left (by simpa using hj)]
      simp [List.getElem?_eq_getElem hj, List.getD_eq_getElem?_getD]
    refine Or.inr ⟨w.heap.size + 1, 0, rfl, by simp, fun i hi => ?_⟩
    obtain ⟨e0, e1, e2⟩ := fl3_at cs i hi
    have hl := fl3_len cs
    rw [Nat.zero_add]
    exact ⟨by rw [hnew _ (by omega), e0], by rw [hnew _ (by omega), e1], by rw [hnew _ (by omega), e2]⟩
  · obtain rfl : n = 0 := by omega
    obtain rfl : cs = [] := List.eq_nil_of_length_eq_zero (by omega)
    exact ⟨_, _, _, copy_none w a c, (Below.refl _ _).alloc (Nat.le_refl _) _, Or.inl rfl⟩
end Go.Proofs.Ythgpchjkeidilaa
