/-
  Marks that came in, as they lie.
-/
import Derived.Test.YthhhepbflggojaaDoorE15Y
import Derived.ProofKit
import Derived.OpenShut
import Derived.ChangeSlices
import Derived.ChangeArms
import Derived.Lib.SmallJoins
import Derived.Deep.Slices
namespace Go.Proofs.YthhhepbflggojaaDoor.E15
open Go.ChangeShapes Go.WideShapes Go.RowKit Go.Joins Go.Deep
set_option linter.unusedVariables false
set_option linter.unusedSimpArgs false

abbrev i64 (x : Int) : Prop := -9223372036854775808 ≤ x ∧ x ≤ 9223372036854775807
theorem cells_int : Tryd.prog.cellsOf 3 = 1 := by kernel_rfl
theorem bytes_int : Tryd.prog.bytesOf 3 = 8 := by kernel_rfl
theorem cells_ints : Tryd.prog.cellsOf 34 = 1 := by kernel_rfl
theorem cells_rect : Tryd.prog.cellsOf 36 = 4 := by kernel_rfl
theorem cells_mark : Tryd.prog.cellsOf 38 = 10 := by kernel_rfl
theorem len7 {α : Type} {l : List α} (h : l.length = 7) : ∃ a b c d e f g, l = [a, b, c, d, e, f, g] := by
  match l, h with
  | [a, b, c, d, e, f, g], _ => exact ⟨a, b, c, d, e, f, g, rfl⟩
theorem len4 {α : Type} {l : List α} (h : l.length = 4) : ∃ a b c d, l = [a, b, c, d] := by
  match l, h with
  | [a, b, c, d], _ => exact ⟨a, b, c, d, rfl⟩
theorem len10 {α : Type} {l : List α} (h : l.length = 10) : ∃ a b c d e f g i j k, l = [a, b, c, d, e, f, g, i, j, k] := by
  match l, h with
  | [a, b, c, d, e, f, g, i, j, k], _ => exact ⟨a, b, c, d, e, f, g, i, j, k, rfl⟩
theorem cell_ltM {w : World} {b o : Nat} {v : Value} (h : w.cell? ⟨b, o, none⟩ = some v) : b < w.heap.size := by
  by_cases hb : b < w.heap.size
  · exact hb
  · unfold World.cell? at h
    rw [Array.getElem?_eq_none (by show w.heap.size ≤ b; omega)] at h
    simp at h
/- a mark's numbers are in the range of Go's ints -/
structure MkR (m : Mk) : Prop where
  k : i64 m.k
  f : i64 m.f
  s : i64 m.s
  x : i64 m.x
  y : i64 m.y
  r0 : i64 m.r0
  r1 : i64 m.r1
  r2 : i64 m.r2
  r3 : i64 m.r3
  gs : ∀ x ∈ m.gs, i64 x
  len : m.gs.length ≤ 17592186044416
structure MsIn (w : World) (a : Option Addr) (n : Nat) (ms : List Mk) : Prop where
  len : ms.length = n
  most : n ≤ 9223372036854775807
  lst : MLst w a ms
  rng : ∀ m ∈ ms, MkR m
section
variable {H : Type} {enc : TypeId × Value → H} {W : World} {r : Reach} {base b0 : Nat} {sp : Nat → Bool} {held : Bool} {v : Value} {d : DataW H} {p : List MemPlace}
theorem wts0 {P : Program} {t : TypeId} {ts : List TypeId} {d : DataW H} {r : List (DataW H)} (h : (DataW.weightsEach P (t :: ts) (d :: r)).all (· ≤ reachBytes) = true) : ∀ k ∈ d.weights P t, k ≤ reachBytes := fun k hk => by
  simpa using List.all_eq_true.1 h k (by simp only [DataW.weightsEach]; exact List.mem_append_left _ hk)
theorem wts1 {P : Program} {t u : TypeId} {ts : List TypeId} {c d : DataW H} {r : List (DataW H)} (h : (DataW.weightsEach P (t :: u :: ts) (c :: d :: r)).all (· ≤ reachBytes) = true) : ∀ k ∈ d.weights P u, k ≤ reachBytes := fun k hk => by
  simpa using List.all_eq_true.1 h k (by simp only [DataW.weightsEach]; exact List.mem_append_right _ (List.mem_append_left _ hk))
theorem int_cellM {n : Nat} {c : Value} {y : DataW H × List MemPlace} (h : DataW.trod enc Tryd.prog W base sp held n 3 [c] = some y) : ∃ a, c = .int .i64 a ∧ i64 a := by
  obtain ⟨a, e, _, wa⟩ := DataW.trod_int Tryd.underlying3 h
  simp only [List.cons.injEq, and_true] at e
  exact ⟨a, e, bounds_i64 wa⟩
theorem ints_cellM {n : Nat} {c : Value} {y : DataW H × List MemPlace} (hf : DataW.trod enc Tryd.prog W base sp held n 34 [c] = some y) (hw9 : ∀ k ∈ y.1.weights Tryd.prog 34, k ≤ reachBytes) : ∃ a cap zs, c = .slice a zs.length cap ∧ Lst W a zs ∧ zs.length ≤ 17592186044416 ∧ ∀ x ∈ zs, i64 x := by
  rcases open_ints Tryd.underlying34 Tryd.underlying3 (by kernel_rfl) hf with ⟨hcs, _⟩ | ⟨x, len', cap', zs, hcs, _, hl, hm, hzl, hx, hc, hw⟩
  · simp at hcs
    exact ⟨none, 0, [], hcs, Or.inl rfl, by simp, by simp⟩
  · simp at hcs
    have hwt := hw9 (((lits .i64 (zs.take len') : List (DataW H)).length + (lits .i64 (zs.drop len') : List (DataW H)).length) * 8) (by rw [hx]; simp only [DataW.weights, Tryd.underlying34, bytes_int]; exact List.mem_cons_self)
    simp only [lits, List.length_map, List.length_take, List.length_drop, reachBytes] at hwt
    have hlz : len' ≤ zs.length := by rw [hzl]; split <;> omega
    have htl : (zs.take len').length = len' := by rw [List.length_take]; omega
    refine ⟨some x, cap', zs.take len', by rw [htl]; exact hcs, ?_, by rw [htl]; omega, fun n hn => bounds_i64 (hw n (List.mem_of_mem_take hn))⟩
    by_cases hz : zs.length = 0
    · rw [List.eq_nil_of_length_eq_zero hz]; exact Or.inl (by simp)
    · obtain ⟨b, off, rfl, hc'⟩ := ints_at hc (by omega)
      have : Lst W (some ⟨b, off, none⟩) zs := Or.inr ⟨b, off, rfl, cell_ltM (hc' 0 (by omega)), hc'⟩
      exact this.take len'
set_option maxRecDepth 100000 in
theorem mark_cells {n : Nat} {cs : List Value} {y : DataW H × List MemPlace} (hf : DataW.trod enc Tryd.prog W base sp held n 38 cs = some y) (hw : ∀ k ∈ y.1.weights Tryd.prog 38, k ≤ reachBytes) :
    ∃ m ga gc, cs = (mcs m (.slice ga m.gs.length gc)).toList ∧ Lst W ga m.gs ∧ MkR m := by
  obtain ⟨xs, m, _, hyx, hlen, hxl, hfs⟩ := DataW.trod_struct Tryd.underlying38 hf
  rw [cells_mark] at hlen
  obtain ⟨a0, a1, a2, a3, a4, a5, a6, a7, a8, a9, hcs⟩ := len10 hlen
  obtain ⟨x0, x1, x2, x3, x4, x5, x6, rfl⟩ := len7 (show xs.length = 7 from hxl)
  have hyx := congrArg Prod.fst hyx
  simp only at hyx
  have hw5 : ∀ k ∈ x5.1.weights Tryd.prog 34, k ≤ reachBytes := fun k hk => hw k (by
    rw [hyx]
    simp only [List.map_cons, List.map_nil, DataW.weights, Tryd.underlying38, DataW.weightsEach, List.mem_append]
    right; right; right; right; right; left; exact hk)
  rw [hcs] at hfs
  have g0 := hfs 0 _ rfl
  have g1 := hfs 1 _ rfl
  have g2 := hfs 2 _ rfl
  have g3 := hfs 3 _ rfl
  have g4 := hfs 4 _ rfl
  have g5 := hfs 5 _ rfl
  have g6 := hfs 6 _ rfl
  simp [cells_int, cells_ints, cells_rect] at g0 g1 g2 g3 g4 g5 g6
  obtain ⟨k, rfl, w0⟩ := int_cellM g0
  obtain ⟨f, rfl, w1⟩ := int_cellM g1
  obtain ⟨s, rfl, w2⟩ := int_cellM g2
  obtain ⟨x, rfl, w3⟩ := int_cellM g3
  obtain ⟨yy, rfl, w4⟩ := int_cellM g4
  obtain ⟨ga, gc, zs, rfl, l1, l2, l3⟩ := ints_cellM g5 hw5
  obtain ⟨ys, m', _, _, hl4, hyl, hy⟩ := DataW.trod_struct Tryd.underlying36 g6
  obtain ⟨z0, z1, z2, z3, rfl⟩ := len4 (show ys.length = 4 from hyl)
  have y0 := hy 0 _ rfl
  have y1 := hy 1 _ rfl
  have y2 := hy 2 _ rfl
  have y3 := hy 3 _ rfl
  simp [cells_int] at y0 y1 y2 y3
  obtain ⟨r0, rfl, v0⟩ := int_cellM y0
  obtain ⟨r1, rfl, v1⟩ := int_cellM y1
  obtain ⟨r2, rfl, v2⟩ := int_cellM y2
  obtain ⟨r3, rfl, v3⟩ := int_cellM y3
  exact ⟨⟨k, f, s, x, yy, zs, r0, r1, r2, r3⟩, ga, gc, hcs, l1, ⟨w0, w1, w2, w3, w4, v0, v1, v2, v3, l3, l2⟩⟩
set_option maxRecDepth 100000 in
theorem mark_rows (n : Nat) : ∀ (es : List (DataW H × List MemPlace)) (b off : Nat), (∀ i, i < es.length → (W.cells? base ⟨b, off + i * 10, none⟩ 10).bind (DataW.trod enc Tryd.prog W base sp held n 38) = es[i]?) →
    (∀ k ∈ DataW.weightsAll Tryd.prog 38 (es.map (·.1)), k ≤ reachBytes) →
    ∃ l : List Mk, l.length = es.length ∧ (∀ m ∈ l, MkR m) ∧ ∀ i, i < l.length → ∃ ga gc, MAt W b (off + i * 10) (l.getD i m0) ga gc
  | [], _, _, _, _ => ⟨[], rfl, by simp, by simp⟩
  | e :: es, b, off, h, hw => by
    simp only [List.map_cons, DataW.weightsAll] at hw
    have h0 := h 0 (by simp)
    simp only [Nat.zero_mul, Nat.add_zero, List.getElem?_cons_zero] at h0
    obtain ⟨cs, hc, ht⟩ := Option.bind_eq_some_iff.1 h0
    obtain ⟨m, ga, gc, rfl, hL, hR⟩ := mark_cells ht (fun k hk => hw k (List.mem_append_left _ hk))
    obtain ⟨l, hl, ho, hA⟩ := mark_rows n es b (off + 10) (fun i hi => by
      have := h (i + 1) (by simp; omega)
      rw [show off + (i + 1) * 10 = off + 10 + i * 10 by omega] at this
      simpa using this) (fun k hk => hw k (List.mem_append_right _ hk))
    obtain ⟨_, _, hcell⟩ := World.cells?_some hc
    have g : ∀ j, j < 10 → W.cell? ⟨b, off + j, none⟩ = (mcs m (.slice ga m.gs.length gc)).toList[j]? := fun j hj => by rw [← Go.WideShapes.add_plain]; exact hcell j hj
    refine ⟨m :: l, by simp [hl], fun x hx => ?_, fun i hi => ?_⟩
    · rcases List.mem_cons.1 hx with rfl | hx
      · exact hR
      · exact ho x hx
    · cases i with
      | zero =>
        rw [Nat.zero_mul, Nat.add_zero]
        exact ⟨ga, gc, ⟨g 0 (by omega), g 1 (by omega), g 2 (by omega), g 3 (by omega), g 4 (by omega), g 5 (by omega), g 6 (by omega), g 7 (by omega), g 8 (by omega), g 9 (by omega), hL⟩⟩
      | succ i =>
        have := hA i (by simpa using hi)
        rw [show off + (i + 1) * 10 = off + 10 + i * 10 by omega]
        simpa using this
set_option maxRecDepth 100000 in
theorem open_marks (hv : Value.okWide Tryd.prog W r b0 22 v) (h : DataW.Trod enc Tryd.prog W base sp held 22 v d p) (hw : ∀ k ∈ d.weights Tryd.prog 22, k ≤ reachBytes) :
    ∃ a n c ms, v = .slice a n c ∧ MsIn W a n ms := by
  obtain ⟨a, len, cap, rfl⟩ := okWide_slice Tryd.underlying22 hv
  refine ⟨a, len, cap, ?_⟩
  obtain ⟨fuel, hf⟩ := h
  rcases DataW.trod_slice Tryd.underlying22 hf with ⟨hcs, _⟩ | ⟨a', len', cap', elems, rest, n', hn', hcs, hx, _, hl, hmx, hel, hei, _, _⟩
  · simp [Value.cells] at hcs
    obtain ⟨rfl, rfl, rfl⟩ := hcs
    exact ⟨[], rfl, ⟨rfl, by omega, Or.inl rfl, by simp⟩⟩
  · simp [Value.cells] at hcs
    obtain ⟨rfl, rfl, rfl⟩ := hcs
    unfold maxLen at hmx
    have hx := congrArg Prod.fst hx
    simp only at hx
    have hwa : ∀ k ∈ DataW.weightsAll Tryd.prog 38 (elems.map (·.1)), k ≤ reachBytes := fun k hk => hw k (by rw [hx]; simp only [DataW.weights, Tryd.underlying22]; exact List.mem_cons_of_mem _ (List.mem_append_left _ hk))
    rcases Nat.eq_zero_or_pos len with h0 | h0
    · subst h0
      exact ⟨[], rfl, ⟨rfl, by omega, Or.inl rfl, by simp⟩⟩
    · obtain ⟨b, off, spot⟩ := a'
      have h00 := hei 0 h0
      rw [List.getElem?_eq_getElem (by omega), cells_mark] at h00
      obtain ⟨cs0, hc0, _⟩ := Option.bind_eq_some_iff.1 h00
      obtain ⟨_, hcl, hcell⟩ := World.cells?_some hc0
      have hc00 := hcell 0 (by omega)
      have hspot : spot = none := by
        cases cs0 with
        | nil => simp at hcl
        | cons y ys =>
          simp only [List.getElem?_cons_zero] at hc00
          simpa [Addr.add] using World.cell?_spot hc00
      subst hspot
      have hb : b < W.heap.size := by
        have := World.cells?_block hc0 (by omega)
        simpa [Addr.add] using this
      obtain ⟨l, hl1, hl2, hl3⟩ := mark_rows n' elems b off (fun i hi => by
        have := hei i (by omega)
        rw [cells_mark, Go.WideShapes.add_plain] at this
        exact this) hwa
      exact ⟨l, rfl, ⟨by omega, by omega, Or.inr ⟨b, off, rfl, hb, hl3⟩, hl2⟩⟩
end
end Go.Proofs.YthhhepbflggojaaDoor.E15
