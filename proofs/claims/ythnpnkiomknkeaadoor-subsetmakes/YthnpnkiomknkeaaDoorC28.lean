/-
  Joined: F12U, F12Lz.
-/
import Derived.BigRegion
import Derived.ChangeArms
import Derived.ChangeSlices
import Derived.Deep.Slices
import Derived.Deep.Strs
import Derived.Lib.SmallJoins
import Derived.OpenShut
import Derived.ProofKit
import Derived.SizedLaws
import Derived.SliceStrings
import Derived.Test.YthnpnkiomknkeaaDoorC17
import Derived.Test.YthnpnkiomknkeaaDoorC22
import Derived.Test.YthnpnkiomknkeaaDoorC25
namespace Go.Proofs.YthnpnkiomknkeaaDoor.F12
open Go.ChangeShapes Go.WideShapes Go.RowKit Go.Joins Go.Deep
set_option linter.unusedVariables false
set_option linter.unusedSimpArgs false
theorem cells_str : Tryd.prog.cellsOf 9 = 1 := by kernel_rfl
theorem cells_strs : Tryd.prog.cellsOf 26 = 1 := by kernel_rfl
theorem cells_ch : Tryd.prog.cellsOf 70 = 3 := by kernel_rfl
theorem cells_chs : Tryd.prog.cellsOf 27 = 1 := by kernel_rfl
theorem cells_face : Tryd.prog.cellsOf 29 = 13 := by kernel_rfl
theorem bytes_str : Tryd.prog.bytesOf 9 = 16 := by kernel_rfl
theorem len13 {α : Type} {l : List α} (h : l.length = 13) : ∃ a b c d e f g i j k m n o, l = [a, b, c, d, e, f, g, i, j, k, m, n, o] := by
  match l, h with
  | [a, b, c, d, e, f, g, i, j, k, m, n, o], _ => exact ⟨a, b, c, d, e, f, g, i, j, k, m, n, o, rfl⟩
structure FIn (w : World) (m : Mt) (aa ab ga ca : Option Addr) (gs : List ByteArray) (cs : List C11.Ch) : Prop where
  up : i64 m.up
  ma : m.ad.length ≤ 9223372036854775807
  mb : m.be.length ≤ 9223372036854775807
  la : Lst w aa m.ad
  lb : Lst w ab m.be
  xa : ∀ x ∈ m.ad, i64 x
  xb : ∀ x ∈ m.be, i64 x
  mg : gs.length ≤ 8796093022208
  lg : G10.SLst w ga gs
  sg : ∀ x ∈ gs, x.size ≤ 140737488351232
  mc : cs.length ≤ 9223372036854775807
  lc : C11.CLst w ca cs
  rc : ∀ i, i < cs.length → C11.RC (cs.getD i C11.c0)
section
variable {H : Type} {enc : TypeId × Value → H} {W : World} {base : Nat} {sp : Nat → Bool} {held : Bool}
set_option maxRecDepth 100000 in
theorem met_cells {n : Nat} {cs : List Value} {y : DataW H × List MemPlace} (hf : DataW.trod enc Tryd.prog W base sp held n 25 cs = some y) :
    ∃ m aa na ca ab nb cb, cs = (mcs m (.slice aa na ca) (.slice ab nb cb)).toList ∧ MIn W m aa na ab nb := by
  obtain ⟨xs, m, _, _, hlen, hxl, hfs⟩ := DataW.trod_struct Tryd.underlying25 hf
  rw [cells_met] at hlen
  obtain ⟨a0, a1, a2, a3, a4, a5, a6, a7, a8, a9, a10, hcs⟩ := len11 hlen
  obtain ⟨x0, x1, x2, x3, x4, x5, x6, x7, rfl⟩ := len8 (show xs.length = 8 from hxl)
  rw [hcs] at hfs
  have g0 := hfs 0 _ rfl
  have g1 := hfs 1 _ rfl
  have g2 := hfs 2 _ rfl
  have g3 := hfs 3 _ rfl
  have g4 := hfs 4 _ rfl
  have g5 := hfs 5 _ rfl
  have g6 := hfs 6 _ rfl
  have g7 := hfs 7 _ rfl
  simp [cells_int, cells_bool, cells_ints, cells_box] at g0 g1 g2 g3 g4 g5 g6 g7
  obtain ⟨up, rfl, w0⟩ := int_cell9 g0
  obtain ⟨sc, rfl, _⟩ := int_cell9 g1
  obtain ⟨de, rfl, _⟩ := int_cell9 g2
  obtain ⟨ga, rfl, _⟩ := int_cell9 g3
  obtain ⟨ys, m', _, _, _, hyl, hy⟩ := DataW.trod_array Tryd.underlying22 g4
  have y0 := hy 0 (by omega)
  have y1 := hy 1 (by omega)
  have y2 := hy 2 (by omega)
  have y3 := hy 3 (by omega)
  rw [List.getElem?_eq_getElem (by omega)] at y0 y1 y2 y3
  simp [cells_int] at y0 y1 y2 y3
  obtain ⟨b0, rfl, _⟩ := int_cell9 y0
  obtain ⟨b1, rfl, _⟩ := int_cell9 y1
  obtain ⟨b2, rfl, _⟩ := int_cell9 y2
  obtain ⟨b3, rfl, _⟩ := int_cell9 y3
  obtain ⟨lg, e5, _⟩ := DataW.trod_bool Tryd.underlying4 g5
  simp at e5
  subst e5
  obtain ⟨aa, ca, ad, rfl, l1, l2, l3⟩ := ints_cell g6
  obtain ⟨ab, cb, be, rfl, k1, k2, k3⟩ := ints_cell g7
  exact ⟨⟨up, sc, de, ga, b0, b1, b2, b3, lg, ad, be⟩, aa, ad.length, ca, ab, be.length, cb, hcs, ⟨w0, rfl, rfl, l2, k2, l1, k1, l3, k3⟩⟩
set_option maxRecDepth 100000 in
theorem str_rows (n : Nat) : ∀ (es : List (DataW H × List MemPlace)) (b off : Nat), (∀ i, i < es.length → (W.cells? base ⟨b, off + i, none⟩ 1).bind (DataW.trod enc Tryd.prog W base sp held n 9) = es[i]?) →
    (∀ k ∈ DataW.weightsAll Tryd.prog 9 (es.map (·.1)), k ≤ reachBytes) → ∃ l : List ByteArray, l.length = es.length ∧ (∀ x ∈ l, x.size ≤ 140737488351232) ∧
      ∀ i, i < l.length → W.cell? ⟨b, off + i, none⟩ = some (.string (l.getD i ⟨#[]⟩))
  | [], _, _, _, _ => ⟨[], rfl, by simp, by simp⟩
  | e :: es, b, off, h, hw => by
    have h0 := h 0 (by simp)
    simp only [Nat.add_zero, List.getElem?_cons_zero] at h0
    obtain ⟨cs, hc, ht⟩ := Option.bind_eq_some_iff.1 h0
    simp only [List.map_cons, DataW.weightsAll] at hw
    obtain ⟨s, e0, f0, _⟩ := DataW.trod_string Tryd.underlying9 ht
    obtain ⟨l, hl, hs, hR⟩ := str_rows n es b (off + 1) (fun i hi => by
      have := h (i + 1) (by simp; omega)
      rw [show off + (i + 1) = off + 1 + i by omega] at this
      simpa using this) (fun k hk => hw k (List.mem_append_right _ hk))
    obtain ⟨_, _, hcell⟩ := World.cells?_some hc
    have g := hcell 0 (by omega)
    rw [Go.WideShapes.add_plain, Nat.add_zero, e0] at g
    have hsz : s.size ≤ 140737488351232 := by
      have h1 := hw s.data.toList.length (List.mem_append_left _ (by rw [f0]; simp [DataW.weights, Tryd.underlying9]))
      unfold reachBytes at h1
      rw [← Lib.size_eq] at h1
      omega
    refine ⟨s :: l, by simp [hl], fun x hx => ?_, fun i hi => ?_⟩
    · rcases List.mem_cons.1 hx with rfl | hx
      · exact hsz
      · exact hs x hx
    · cases i with
      | zero => rw [Nat.add_zero]; simpa using g
      | succ i =>
        have := hR i (by simpa using hi)
        rw [show off + (i + 1) = off + 1 + i by omega]
        simpa using this
set_option maxRecDepth 100000 in
theorem strs_cell {fuel : Nat} {c : Value} {y : DataW H × List MemPlace} (hf : DataW.trod enc Tryd.prog W base sp held fuel 26 [c] = some y) (hw : ∀ k ∈ y.1.weights Tryd.prog 26, k ≤ reachBytes) :
    ∃ a cap l, c = .slice a (l : List ByteArray).length cap ∧ l.length ≤ 8796093022208 ∧ G10.SLst W a l ∧ ∀ x ∈ l, x.size ≤ 140737488351232 := by
  rcases DataW.trod_slice Tryd.underlying26 hf with ⟨hcs, _⟩ | ⟨a', len, cap, elems, rest, n', hn', hcs, hx, _, hl, hmx, hel, hei, _, _⟩
  · simp at hcs
    exact ⟨none, 0, [], hcs, by simp, Or.inl rfl, by simp⟩
  · simp at hcs
    have hx := congrArg Prod.fst hx
    simp only at hx
    have hwt := hw ((elems.length + rest.length) * 16) (by rw [hx]; simp only [DataW.weights, Tryd.underlying26, bytes_str, List.length_map]; exact List.mem_cons_self)
    have hwa : ∀ k ∈ DataW.weightsAll Tryd.prog 9 (elems.map (·.1)), k ≤ reachBytes := fun k hk => hw k (by rw [hx]; simp only [DataW.weights, Tryd.underlying26]; exact List.mem_cons_of_mem _ (List.mem_append_left _ hk))
    simp only [reachBytes] at hwt
    rcases Nat.eq_zero_or_pos len with h0 | h0
    · subst h0
      exact ⟨some a', cap, [], hcs, by simp, Or.inl rfl, by simp⟩
    · obtain ⟨b, off, spot⟩ := a'
      have h00 := hei 0 h0
      rw [List.getElem?_eq_getElem (by omega), cells_str] at h00
      obtain ⟨cs0, hc0, _⟩ := Option.bind_eq_some_iff.1 h00
      obtain ⟨_, hcl, hcell⟩ := World.cells?_some hc0
      have hc00 := hcell 0 (by omega)
      have hspot : spot = none := by
        cases cs0 with
        | nil => simp at hcl
        | cons y ys =>
          simp only [List.getElem?_cons_zero] at hc00
          simpa [Addr.add] using World.cell?_spot hc00
      subst hspot
      have hb : b < W.heap.size := by
        have := World.cells?_block hc0 (by omega)
        simpa [Addr.add] using this
      obtain ⟨l, hl1, hl2, hl3⟩ := str_rows n' elems b off (fun i hi => by
        have := hei i (by omega)
        rw [cells_str, Nat.mul_one, Go.WideShapes.add_plain] at this
        exact this) hwa
      exact ⟨some ⟨b, off, none⟩, cap, l, by rw [hl1, hel]; exact hcs, by omega, Or.inr ⟨b, off, rfl, hb, hl3⟩, hl2⟩
theorem int_cellC {n : Nat} {c : Value} {y : DataW H × List MemPlace} (h : DataW.trod enc Tryd.prog W base sp held n 3 [c] = some y) : ∃ a, c = .int .i64 a ∧ C11.R64 a := by
  obtain ⟨a, e, _, wa⟩ := DataW.trod_int Tryd.underlying3 h
  simp only [List.cons.injEq, and_true] at e
  exact ⟨a, e, (bounds_i64 wa).1, (bounds_i64 wa).2⟩
def comp3 (q : C11.Ch) : Nat → Int
  | 0 => q.f
  | 1 => q.l
  | _ => q.g
theorem chars_at {x : Addr} {len : Nat} {q : Nat → C11.Ch}
    (hq : ∀ i, i < len → (W.cell? (x.add (i * 3)) = some (.int .i64 (q i).f) ∧ W.cell? (x.add (i * 3 + 1)) = some (.int .i64 (q i).l) ∧ W.cell? (x.add (i * 3 + 2)) = some (.int .i64 (q i).g)) ∧ C11.RC (q i)) :
    ∀ i, i < ((List.range (len * 3)).map fun j => comp3 (q (j / 3)) (j % 3)).length → W.cell? (x.add i) = some (.int .i64 (((List.range (len * 3)).map fun j => comp3 (q (j / 3)) (j % 3)).getD i 0)) := by
  intro i hi
  simp only [List.length_map, List.length_range] at hi
  rw [List.getD_eq_getElem?_getD, List.getElem?_map, List.getElem?_range hi]
  simp only [Option.map_some, Option.getD_some]
  obtain ⟨⟨h0, h1, h2⟩, _⟩ := hq (i / 3) (by omega)
  have hm : i % 3 < 3 := Nat.mod_lt _ (by omega)
  have he : i = i / 3 * 3 + i % 3 := by omega
  generalize i % 3 = k at *
  generalize i / 3 = n at *
  subst he
  match k, hm with
  | 0, _ => exact h0
  | 1, _ => exact h1
  | 2, _ => exact h2
set_option maxRecDepth 100000 in
theorem chars_cell {fuel : Nat} {c : Value} {y : DataW H × List MemPlace} (hf : DataW.trod enc Tryd.prog W base sp held fuel 27 [c] = some y) :
    ∃ a cap cs, c = .slice a (cs : List C11.Ch).length cap ∧ cs.length ≤ 9223372036854775807 ∧ C11.CLst W a cs ∧ ∀ i, i < cs.length → C11.RC (cs.getD i C11.c0) := by
  rcases open_slice Tryd.underlying27 hf with ⟨hcs, _⟩ | ⟨x, len, cap', m, n, D, Pl, hcs, _, hl, hm, hmm, _, hx⟩
  · simp at hcs
    exact ⟨none, 0, [], hcs, by simp, Or.inl rfl, fun i hi => by simp at hi⟩
  · simp at hcs
    have hlm : len ≤ m := by rw [hmm]; split <;> omega
    have each : ∀ i, i < len → ∃ q : C11.Ch, (W.cell? (x.add (i * 3)) = some (.int .i64 q.f) ∧ W.cell? (x.add (i * 3 + 1)) = some (.int .i64 q.l) ∧ W.cell? (x.add (i * 3 + 2)) = some (.int .i64 q.g)) ∧ C11.RC q := by
      intro i hi
      obtain ⟨cs', h1, h2⟩ := hx i (by omega)
      rw [cells_ch] at h1
      obtain ⟨_, hlen, hcell⟩ := World.cells?_some h1
      obtain ⟨y0, y1, y2, k, _, _, g0, g1, g2⟩ := trod_struct3 Tryd.underlying70 h2
      match cs', hlen with
      | [v0, v1, v2], _ =>
        have e0 := hcell 0 (by omega)
        have e1 := hcell 1 (by omega)
        have e2 := hcell 2 (by omega)
        rw [add_add] at e0 e1 e2
        obtain ⟨z0, rfl, r0⟩ := int_cellC (by simpa [cells_int] using g0)
        obtain ⟨z1, rfl, r1⟩ := int_cellC (by simpa [cells_int] using g1)
        obtain ⟨z2, rfl, r2⟩ := int_cellC (by simpa [cells_int] using g2)
        exact ⟨⟨z0, z1, z2⟩, ⟨by simpa using e0, by simpa using e1, by simpa using e2⟩, r0, r1, r2⟩
    haveI : Inhabited C11.Ch := ⟨C11.c0⟩
    obtain ⟨q, hq⟩ := choose_lt each
    have hc := chars_at hq
    have hlen : ((List.range len).map q).length = len := by simp
    have hget : ∀ i, i < len → ((List.range len).map q).getD i C11.c0 = q i := fun i hi => by
      rw [List.getD_eq_getElem?_getD, List.getElem?_map, List.getElem?_range hi]; rfl
    refine ⟨some x, cap', (List.range len).map q, by rw [hlen]; exact hcs, by rw [hlen]; unfold maxLen at hm; omega, ?_, fun i hi => by rw [hget i (by simpa using hi)]; exact (hq i (by simpa using hi)).2⟩
    by_cases h0 : len = 0
    · exact Or.inl (by rw [h0]; rfl)
    · obtain ⟨b, off, rfl, _⟩ := ints_at hc (by simp; omega)
      refine Or.inr ⟨b, off, rfl, ?_, fun i hi => ?_⟩
      · have := (hq 0 (by omega)).1.1
        rw [add_plain] at this
        exact cell_lt9 this
      · rw [hlen] at hi
        rw [hget i hi]
        have := (hq i hi).1
        rw [add_plain, add_plain, add_plain] at this
        exact this
set_option maxRecDepth 100000 in
theorem face_cells {n : Nat} {cs : List Value} {y : DataW H × List MemPlace} (hf : DataW.trod enc Tryd.prog W base sp held n 29 cs = some y) (hw : ∀ k ∈ y.1.weights Tryd.prog 29, k ≤ reachBytes) :
    ∃ m aa ab ga ca ka kb kg kc gs chs, cs = (fcs m (.slice aa m.ad.length ka) (.slice ab m.be.length kb) (.slice ga (gs : List ByteArray).length kg) (.slice ca (chs : List C11.Ch).length kc)).toList ∧ FIn W m aa ab ga ca gs chs := by
  obtain ⟨y0, y1, y2, k, rfl, hlen, g0, g1, g2⟩ := trod_struct3 Tryd.underlying29 hf
  rw [cells_face] at hlen
  obtain ⟨a0, a1, a2, a3, a4, a5, a6, a7, a8, a9, a10, a11, a12, hcs⟩ := len13 hlen
  rw [hcs] at g0 g1 g2
  simp [cells_met, cells_strs, cells_chs] at g0 g1 g2
  have hw1 : ∀ k ∈ y1.1.weights Tryd.prog 26, k ≤ reachBytes := fun k hk => hw k (by
    simp only [DataW.weights, Tryd.underlying29, DataW.weightsEach, List.map_cons, List.map_nil, List.mem_append]
    right; left; exact hk)
  obtain ⟨m, aa, na, ka, ab, nb, kb, e0, hM⟩ := met_cells g0
  obtain ⟨ga, kg, gs, e1, hg1, hg2, hg3⟩ := strs_cell g1 hw1
  obtain ⟨ca, kc, chs, e2, hc1, hc2, hc3⟩ := chars_cell g2
  obtain ⟨u0, ua, ub, ma, mb, la, lb, xa, xb⟩ := hM
  subst ua ub
  refine ⟨m, aa, ab, ga, ca, ka, kb, kg, kc, gs, chs, ?_, ⟨u0, ma, mb, la, lb, xa, xb, hg1, hg2, hg3, hc1, hc2, hc3⟩⟩
  rw [hcs, show [a0, a1, a2, a3, a4, a5, a6, a7, a8, a9, a10, a11, a12] = [a0, a1, a2, a3, a4, a5, a6, a7, a8, a9, a10] ++ [a11, a12] from rfl, e0, e1, e2]
  rfl
theorem wts0 {P : Program} {t : TypeId} {ts : List TypeId} {d : DataW H} {r : List (DataW H)} (h : (DataW.weightsEach P (t :: ts) (d :: r)).all (· ≤ reachBytes) = true) : ∀ k ∈ d.weights P t, k ≤ reachBytes := fun k hk => by
  simpa using List.all_eq_true.1 h k (by simp only [DataW.weightsEach]; exact List.mem_append_left _ hk)
variable {r : Reach} {b0 : Nat} {v : Value} {d : DataW H} {pl : List MemPlace}
set_option maxRecDepth 100000 in
theorem open_face (hv : Value.okWide Tryd.prog W r b0 29 v) (h : DataW.Trod enc Tryd.prog W base sp held 29 v d pl) (hw : ∀ k ∈ d.weights Tryd.prog 29, k ≤ reachBytes) :
    ∃ m aa ab ga ca ka kb kg kc gs chs, v = .agg (fcs m (.slice aa m.ad.length ka) (.slice ab m.be.length kb) (.slice ga (gs : List ByteArray).length kg) (.slice ca (chs : List C11.Ch).length kc)) ∧ FIn W m aa ab ga ca gs chs := by
  simp only [Value.okWide, Tryd.underlying29] at hv
  obtain ⟨cs, rfl, _, _⟩ := hv
  obtain ⟨fuel, hf⟩ := h
  obtain ⟨m, aa, ab, ga, ca, ka, kb, kg, kc, gs, chs, e, hF⟩ := face_cells hf hw
  refine ⟨m, aa, ab, ga, ca, ka, kb, kg, kc, gs, chs, ?_, hF⟩
  have : cs.toList = (fcs m (.slice aa m.ad.length ka) (.slice ab m.be.length kb) (.slice ga gs.length kg) (.slice ca chs.length kc)).toList := e
  cases cs
  simp only at this
  subst this
  rfl
end
end Go.Proofs.YthnpnkiomknkeaaDoor.F12
namespace Go.Proofs.YthnpnkiomknkeaaDoor.F12
open Go.RowKit Go.Deep
set_option linter.unusedVariables false
set_option linter.unusedSimpArgs false
theorem lsum_tot : ∀ (gs : List ByteArray) (n : Nat), lsum gs n ≤ 30000 → lsum gs n = n + G10.totS gs
  | [], n, _ => by simp [lsum, G10.totS]
  | g :: gs, n, h => by
    unfold lsum at h ⊢
    split at h
    · rename_i hn
      rw [if_pos hn]
      have := lsum_tot gs (n + g.size) h
      have e2 : G10.totS (g :: gs) = g.size + G10.totS gs := by unfold G10.totS; simp
      omega
    · omega
theorem tot_ge {gs : List ByteArray} {g : ByteArray} (h : g ∈ gs) : g.size ≤ G10.totS gs := by
  induction gs with
  | nil => cases h
  | cons x gs ih =>
    have e2 : G10.totS (x :: gs) = x.size + G10.totS gs := by unfold G10.totS; simp
    rcases List.mem_cons.1 h with rfl | h
    · omega
    · have := ih h; omega
theorem lrg_in {gs : List ByteArray} {ng nc na nb : Nat} (h : lrgB (lsum gs 0) ng nc na nb = false) (hng : gs.length = ng) : ng ≤ 200 ∧ nc ≤ 200 ∧ na ≤ 200 ∧ nb ≤ 200 ∧ (∀ g ∈ gs, g.size ≤ 30000) ∧ (G10.jg gs).length ≤ 1048576 := by
  unfold lrgB at h
  simp only [Bool.or_eq_false_iff, decide_eq_false_iff_not] at h
  obtain ⟨h1, h2, h3, h4, h5⟩ := h
  have ht := lsum_tot gs 0 (by omega)
  have hj := G10.jg_le gs
  refine ⟨by omega, by omega, by omega, by omega, fun g hg => ?_, by omega⟩
  have := tot_ge hg
  omega
theorem FIn.met {w u : World} {m : Mt} {aa ab ga ca : Option Addr} {gs : List ByteArray} {cs : List C11.Ch} {na nb : Nat} (h : FIn w m aa ab ga ca gs cs) (ha : m.ad.length = na) (hb : m.be.length = nb) (hu : Below w.heap.size w u) : MIn u m aa na ab nb := by
  subst ha hb
  exact ⟨h.up, rfl, rfl, h.ma, h.mb, h.la.below hu, h.lb.below hu, h.xa, h.xb⟩
end Go.Proofs.YthnpnkiomknkeaaDoor.F12
