/-
  Joined: F12U, F12Lz, F12V, F12Q.
-/
import Derived.BigRegion
import Derived.ChangeArms
import Derived.ChangeSlices
import Derived.Deep.CutRange
import Derived.Deep.Slices
import Derived.Deep.Strs
import Derived.Lib.SmallJoins
import Derived.OpenShut
import Derived.ProofKit
import Derived.SizedLaws
import Derived.SliceStrings
import Derived.Test.YtpdfpbbamnhkfaaGreatDoorV29
import Derived.Test.YtpdfpbbamnhkfaaGreatDoorV37
import Derived.Test.YtpdfpbbamnhkfaaGreatDoorV48
namespace Go.Proofs.YtpdfpbbamnhkfaaGreatDoor.F12
open Go.ChangeShapes Go.WideShapes Go.RowKit Go.Joins Go.Deep
set_option linter.unusedVariables false
set_option linter.unusedSimpArgs false
theorem cells_str : Tryz.prog.cellsOf 9 = 1 := by kernel_rfl
theorem cells_strs : Tryz.prog.cellsOf 26 = 1 := by kernel_rfl
theorem cells_ch : Tryz.prog.cellsOf 106 = 3 := by kernel_rfl
theorem cells_chs : Tryz.prog.cellsOf 27 = 1 := by kernel_rfl
theorem cells_face : Tryz.prog.cellsOf 29 = 13 := by kernel_rfl
theorem bytes_str : Tryz.prog.bytesOf 9 = 16 := by kernel_rfl
theorem len13 {α : Type} {l : List α} (h : l.length = 13) : ∃ a b c d e f g i j k m n o, l = [a, b, c, d, e, f, g, i, j, k, m, n, o] := by
  match l, h with
  | [a, b, c, d, e, f, g, i, j, k, m, n, o], _ => exact ⟨a, b, c, d, e, f, g, i, j, k, m, n, o, rfl⟩
structure FIn (w : World) (m : Mt) (aa ab ga ca : Option Addr) (gs : List ByteArray) (cs : List C11.Ch) : Prop where
  up : i64 m.up
  ma : m.ad.length ≤ 9223372036854775807
  mb : m.be.length ≤ 9223372036854775807
  la : Lst w aa m.ad
  lb : Lst w ab m.be
  xa : ∀ x ∈ m.ad, i64 x
  xb : ∀ x ∈ m.be, i64 x
  mg : gs.length ≤ 8796093022208
  lg : G10.SLst w ga gs
  sg : ∀ x ∈ gs, x.size ≤ 140737488351232
  mc : cs.length ≤ 9223372036854775807
  lc : C11.CLst w ca cs
  rc : ∀ i, i < cs.length → C11.RC (cs.getD i C11.c0)
section
variable {H : Type} {enc : TypeId × Value → H} {W : World} {base : Nat} {sp : Nat → Bool} {held : Bool}
set_option maxRecDepth 100000 in
theorem met_cells {n : Nat} {cs : List Value} {y : DataW H × List MemPlace} (hf : DataW.trod enc Tryz.prog W base sp held n 25 cs = some y) :
    ∃ m aa na ca ab nb cb, cs = (mcs m (.slice aa na ca) (.slice ab nb cb)).toList ∧ MIn W m aa na ab nb := by
  obtain ⟨xs, m, _, _, hlen, hxl, hfs⟩ := DataW.trod_struct Tryz.underlying25 hf
  rw [cells_met] at hlen
  obtain ⟨a0, a1, a2, a3, a4, a5, a6, a7, a8, a9, a10, hcs⟩ := len11 hlen
  obtain ⟨x0, x1, x2, x3, x4, x5, x6, x7, rfl⟩ := len8 (show xs.length = 8 from hxl)
  rw [hcs] at hfs
  have g0 := hfs 0 _ rfl
  have g1 := hfs 1 _ rfl
  have g2 := hfs 2 _ rfl
  have g3 := hfs 3 _ rfl
  have g4 := hfs 4 _ rfl
  have g5 := hfs 5 _ rfl
  have g6 := hfs 6 _ rfl
  have g7 := hfs 7 _ rfl
  simp [cells_int, cells_bool, cells_ints, cells_box] at g0 g1 g2 g3 g4 g5 g6 g7
  obtain ⟨up, rfl, w0⟩ := int_cell9 g0
  obtain ⟨sc, rfl, _⟩ := int_cell9 g1
  obtain ⟨de, rfl, _⟩ := int_cell9 g2
  obtain ⟨ga, rfl, _⟩ := int_cell9 g3
  obtain ⟨ys, m', _, _, _, hyl, hy⟩ := DataW.trod_array Tryz.underlying22 g4
  have y0 := hy 0 (by omega)
  have y1 := hy 1 (by omega)
  have y2 := hy 2 (by omega)
  have y3 := hy 3 (by omega)
  rw [List.getElem?_eq_getElem (by omega)] at y0 y1 y2 y3
  simp [cells_int] at y0 y1 y2 y3
  obtain ⟨b0, rfl, _⟩ := int_cell9 y0
  obtain ⟨b1, rfl, _⟩ := int_cell9 y1
  obtain ⟨b2, rfl, _⟩ := int_cell9 y2
  obtain ⟨b3, rfl, _⟩ := int_cell9 y3
  obtain ⟨lg, e5, _⟩ := DataW.trod_bool Tryz.underlying4 g5
  simp at e5
  subst e5
  obtain ⟨aa, ca, ad, rfl, l1, l2, l3⟩ := ints_cell g6
  obtain ⟨ab, cb, be, rfl, k1, k2, k3⟩ := ints_cell g7
  exact ⟨⟨up, sc, de, ga, b0, b1, b2, b3, lg, ad, be⟩, aa, ad.length, ca, ab, be.length, cb, hcs, ⟨w0, rfl, rfl, l2, k2, l1, k1, l3, k3⟩⟩
set_option maxRecDepth 100000 in
theorem str_rows (n : Nat) : ∀ (es : List (DataW H × List MemPlace)) (b off : Nat), (∀ i, i < es.length → (W.cells? base ⟨b, off + i, none⟩ 1).bind (DataW.trod enc Tryz.prog W base sp held n 9) = es[i]?) →
    (∀ k ∈ DataW.weightsAll Tryz.prog 9 (es.map (·.1)), k ≤ reachBytes) → ∃ l : List ByteArray, l.length = es.length ∧ (∀ x ∈ l, x.size ≤ 140737488351232) ∧
      ∀ i, i < l.length → W.cell? ⟨b, off + i, none⟩ = some (.string (l.getD i ⟨#[]⟩))
  | [], _, _, _, _ => ⟨[], rfl, by simp, by simp⟩
  | e :: es, b, off, h, hw => by
    have h0 := h 0 (by simp)
    simp only [Nat.add_zero, List.getElem?_cons_zero] at h0
    obtain ⟨cs, hc, ht⟩ := Option.bind_eq_some_iff.1 h0
    simp only [List.map_cons, DataW.weightsAll] at hw
    obtain ⟨s, e0, f0, _⟩ := DataW.trod_string Tryz.underlying9 ht
    obtain ⟨l, hl, hs, hR⟩ := str_rows n es b (off + 1) (fun i hi => by
      have := h (i + 1) (by simp; omega)
      rw [show off + (i + 1) = off + 1 + i by omega] at this
      simpa using this) (fun k hk => hw k (List.mem_append_right _ hk))
    obtain ⟨_, _, hcell⟩ := World.cells?_some hc
    have g := hcell 0 (by omega)
    rw [Go.WideShapes.add_plain, Nat.add_zero, e0] at g
    have hsz : s.size ≤ 140737488351232 := by
      have h1 := hw s.data.toList.length (List.mem_append_left _ (by rw [f0]; simp [DataW.weights, Tryz.underlying9]))
      unfold reachBytes at h1
      rw [← Lib.size_eq] at h1
      omega
    refine ⟨s :: l, by simp [hl], fun x hx => ?_, fun i hi => ?_⟩
    · rcases List.mem_cons.1 hx with rfl | hx
      · exact hsz
      · exact hs x hx
    · cases i with
      | zero => rw [Nat.add_zero]; simpa using g
      | succ i =>
        have := hR i (by simpa using hi)
        rw [show off + (i + 1) = off + 1 + i by omega]
        simpa using this
set_option maxRecDepth 100000 in
theorem strs_cell {fuel : Nat} {c : Value} {y : DataW H × List MemPlace} (hf : DataW.trod enc Tryz.prog W base sp held fuel 26 [c] = some y) (hw : ∀ k ∈ y.1.weights Tryz.prog 26, k ≤ reachBytes) :
    ∃ a cap l, c = .slice a (l : List ByteArray).length cap ∧ l.length ≤ 8796093022208 ∧ G10.SLst W a l ∧ ∀ x ∈ l, x.size ≤ 140737488351232 := by
  rcases DataW.trod_slice Tryz.underlying26 hf with ⟨hcs, _⟩ | ⟨a', len, cap, elems, rest, n', hn', hcs, hx, _, hl, hmx, hel, hei, _, _⟩
  · simp at hcs
    exact ⟨none, 0, [], hcs, by simp, Or.inl rfl, by simp⟩
  · simp at hcs
    have hx := congrArg Prod.fst hx
    simp only at hx
    have hwt := hw ((elems.length + rest.length) * 16) (by rw [hx]; simp only [DataW.weights, Tryz.underlying26, bytes_str, List.length_map]; exact List.mem_cons_self)
    have hwa : ∀ k ∈ DataW.weightsAll Tryz.prog 9 (elems.map (·.1)), k ≤ reachBytes := fun k hk => hw k (by rw [hx]; simp only [DataW.weights, Tryz.underlying26]; exact List.mem_cons_of_mem _ (List.mem_append_left _ hk))
    simp only [reachBytes] at hwt
    rcases Nat.eq_zero_or_pos len with h0 | h0
    · subst h0
      exact ⟨some a', cap, [], hcs, by simp, Or.inl rfl, by simp⟩
    · obtain ⟨b, off, spot⟩ := a'
      have h00 := hei 0 h0
      rw [List.getElem?_eq_getElem (by omega), cells_str] at h00
      obtain ⟨cs0, hc0, _⟩ := Option.bind_eq_some_iff.1 h00
      obtain ⟨_, hcl, hcell⟩ := World.cells?_some hc0
      have hc00 := hcell 0 (by omega)
      have hspot : spot = none := by
        cases cs0 with
        | nil => simp at hcl
        | cons y ys =>
          simp only [List.getElem?_cons_zero] at hc00
          simpa [Addr.add] using World.cell?_spot hc00
      subst hspot
      have hb : b < W.heap.size := by
        have := World.cells?_block hc0 (by omega)
        simpa [Addr.add] using this
      obtain ⟨l, hl1, hl2, hl3⟩ := str_rows n' elems b off (fun i hi => by
        have := hei i (by omega)
        rw [cells_str, Nat.mul_one, Go.WideShapes.add_plain] at this
        exact this) hwa
      exact ⟨some ⟨b, off, none⟩, cap, l, by rw [hl1, hel]; exact hcs, by omega, Or.inr ⟨b, off, rfl, hb, hl3⟩, hl2⟩
theorem int_cellC {n : Nat} {c : Value} {y : DataW H × List MemPlace} (h : DataW.trod enc Tryz.prog W base sp held n 3 [c] = some y) : ∃ a, c = .int .i64 a ∧ C11.R64 a := by
  obtain ⟨a, e, _, wa⟩ := DataW.trod_int Tryz.underlying3 h
  simp only [List.cons.injEq, and_true] at e
  exact ⟨a, e, (bounds_i64 wa).1, (bounds_i64 wa).2⟩
def comp3 (q : C11.Ch) : Nat → Int
  | 0 => q.f
  | 1 => q.l
  | _ => q.g
theorem chars_at {x : Addr} {len : Nat} {q : Nat → C11.Ch}
    (hq : ∀ i, i < len → (W.cell? (x.add (i * 3)) = some (.int .i64 (q i).f) ∧ W.cell? (x.add (i * 3 + 1)) = some (.int .i64 (q i).l) ∧ W.cell? (x.add (i * 3 + 2)) = some (.int .i64 (q i).g)) ∧ C11.RC (q i)) :
    ∀ i, i < ((List.range (len * 3)).map fun j => comp3 (q (j / 3)) (j % 3)).length → W.cell? (x.add i) = some (.int .i64 (((List.range (len * 3)).map fun j => comp3 (q (j / 3)) (j % 3)).getD i 0)) := by
  intro i hi
  simp only [List.length_map, List.length_range] at hi
  rw [List.getD_eq_getElem?_getD, List.getElem?_map, List.getElem?_range hi]
  simp only [Option.map_some, Option.getD_some]
  obtain ⟨⟨h0, h1, h2⟩, _⟩ := hq (i / 3) (by omega)
  have hm : i % 3 < 3 := Nat.mod_lt _ (by omega)
  have he : i = i / 3 * 3 + i % 3 := by omega
  generalize i % 3 = k at *
  generalize i / 3 = n at *
  subst he
  match k, hm with
  | 0, _ => exact h0
  | 1, _ => exact h1
  | 2, _ => exact h2
set_option maxRecDepth 100000 in
theorem chars_cell {fuel : Nat} {c : Value} {y : DataW H × List MemPlace} (hf : DataW.trod enc Tryz.prog W base sp held fuel 27 [c] = some y) :
    ∃ a cap cs, c = .slice a (cs : List C11.Ch).length cap ∧ cs.length ≤ 9223372036854775807 ∧ C11.CLst W a cs ∧ ∀ i, i < cs.length → C11.RC (cs.getD i C11.c0) := by
  rcases open_slice Tryz.underlying27 hf with ⟨hcs, _⟩ | ⟨x, len, cap', m, n, D, Pl, hcs, _, hl, hm, hmm, _, hx⟩
  · simp at hcs
    exact ⟨none, 0, [], hcs, by simp, Or.inl rfl, fun i hi => by simp at hi⟩
  · simp at hcs
    have hlm : len ≤ m := by rw [hmm]; split <;> omega
    have each : ∀ i, i < len → ∃ q : C11.Ch, (W.cell? (x.add (i * 3)) = some (.int .i64 q.f) ∧ W.cell? (x.add (i * 3 + 1)) = some (.int .i64 q.l) ∧ W.cell? (x.add (i * 3 + 2)) = some (.int .i64 q.g)) ∧ C11.RC q := by
      intro i hi
      obtain ⟨cs', h1, h2⟩ := hx i (by omega)
      rw [cells_ch] at h1
      obtain ⟨_, hlen, hcell⟩ := World.cells?_some h1
      obtain ⟨y0, y1, y2, k, _, _, g0, g1, g2⟩ := trod_struct3 Tryz.underlying106 h2
      match cs', hlen with
      | [v0, v1, v2], _ =>
        have e0 := hcell 0 (by omega)
        have e1 := hcell 1 (by omega)
        have e2 := hcell 2 (by omega)
        rw [add_add] at e0 e1 e2
        obtain ⟨z0, rfl, r0⟩ := int_cellC (by simpa [cells_int] using g0)
        obtain ⟨z1, rfl, r1⟩ := int_cellC (by simpa [cells_int] using g1)
        obtain ⟨z2, rfl, r2⟩ := int_cellC (by simpa [cells_int] using g2)
        exact ⟨⟨z0, z1, z2⟩, ⟨by simpa using e0, by simpa using e1, by simpa using e2⟩, r0, r1, r2⟩
    haveI : Inhabited C11.Ch := ⟨C11.c0⟩
    obtain ⟨q, hq⟩ := choose_lt each
    have hc := chars_at hq
    have hlen : ((List.range len).map q).length = len := by simp
    have hget : ∀ i, i < len → ((List.range len).map q).getD i C11.c0 = q i := fun i hi => by
      rw [List.getD_eq_getElem?_getD, List.getElem?_map, List.getElem?_range hi]; rfl
    refine ⟨some x, cap', (List.range len).map q, by rw [hlen]; exact hcs, by rw [hlen]; unfold maxLen at hm; omega, ?_, fun i hi => by rw [hget i (by simpa using hi)]; exact (hq i (by simpa using hi)).2⟩
    by_cases h0 : len = 0
    · exact Or.inl (by rw [h0]; rfl)
    · obtain ⟨b, off, rfl, _⟩ := ints_at hc (by simp; omega)
      refine Or.inr ⟨b, off, rfl, ?_, fun i hi => ?_⟩
      · have := (hq 0 (by omega)).1.1
        rw [add_plain] at this
        exact cell_lt9 this
      · rw [hlen] at hi
        rw [hget i hi]
        have := (hq i hi).1
        rw [add_plain, add_plain, add_plain] at this
        exact this
set_option maxRecDepth 100000 in
theorem face_cells {n : Nat} {cs : List Value} {y : DataW H × List MemPlace} (hf : DataW.trod enc Tryz.prog W base sp held n 29 cs = some y) (hw : ∀ k ∈ y.1.weights Tryz.prog 29, k ≤ reachBytes) :
    ∃ m aa ab ga ca ka kb kg kc gs chs, cs = (fcs m (.slice aa m.ad.length ka) (.slice ab m.be.length kb) (.slice ga (gs : List ByteArray).length kg) (.slice ca (chs : List C11.Ch).length kc)).toList ∧ FIn W m aa ab ga ca gs chs := by
  obtain ⟨y0, y1, y2, k, rfl, hlen, g0, g1, g2⟩ := trod_struct3 Tryz.underlying29 hf
  rw [cells_face] at hlen
  obtain ⟨a0, a1, a2, a3, a4, a5, a6, a7, a8, a9, a10, a11, a12, hcs⟩ := len13 hlen
  rw [hcs] at g0 g1 g2
  simp [cells_met, cells_strs, cells_chs] at g0 g1 g2
  have hw1 : ∀ k ∈ y1.1.weights Tryz.prog 26, k ≤ reachBytes := fun k hk => hw k (by
    simp only [DataW.weights, Tryz.underlying29, DataW.weightsEach, List.map_cons, List.map_nil, List.mem_append]
    right; left; exact hk)
  obtain ⟨m, aa, na, ka, ab, nb, kb, e0, hM⟩ := met_cells g0
  obtain ⟨ga, kg, gs, e1, hg1, hg2, hg3⟩ := strs_cell g1 hw1
  obtain ⟨ca, kc, chs, e2, hc1, hc2, hc3⟩ := chars_cell g2
  obtain ⟨u0, ua, ub, ma, mb, la, lb, xa, xb⟩ := hM
  subst ua ub
  refine ⟨m, aa, ab, ga, ca, ka, kb, kg, kc, gs, chs, ?_, ⟨u0, ma, mb, la, lb, xa, xb, hg1, hg2, hg3, hc1, hc2, hc3⟩⟩
  rw [hcs, show [a0, a1, a2, a3, a4, a5, a6, a7, a8, a9, a10, a11, a12] = [a0, a1, a2, a3, a4, a5, a6, a7, a8, a9, a10] ++ [a11, a12] from rfl, e0, e1, e2]
  rfl
theorem wts0 {P : Program} {t : TypeId} {ts : List TypeId} {d : DataW H} {r : List (DataW H)} (h : (DataW.weightsEach P (t :: ts) (d :: r)).all (· ≤ reachBytes) = true) : ∀ k ∈ d.weights P t, k ≤ reachBytes := fun k hk => by
  simpa using List.all_eq_true.1 h k (by simp only [DataW.weightsEach]; exact List.mem_append_left _ hk)
variable {r : Reach} {b0 : Nat} {v : Value} {d : DataW H} {pl : List MemPlace}
set_option maxRecDepth 100000 in
theorem open_face (hv : Value.okWide Tryz.prog W r b0 29 v) (h : DataW.Trod enc Tryz.prog W base sp held 29 v d pl) (hw : ∀ k ∈ d.weights Tryz.prog 29, k ≤ reachBytes) :
    ∃ m aa ab ga ca ka kb kg kc gs chs, v = .agg (fcs m (.slice aa m.ad.length ka) (.slice ab m.be.length kb) (.slice ga (gs : List ByteArray).length kg) (.slice ca (chs : List C11.Ch).length kc)) ∧ FIn W m aa ab ga ca gs chs := by
  simp only [Value.okWide, Tryz.underlying29] at hv
  obtain ⟨cs, rfl, _, _⟩ := hv
  obtain ⟨fuel, hf⟩ := h
  obtain ⟨m, aa, ab, ga, ca, ka, kb, kg, kc, gs, chs, e, hF⟩ := face_cells hf hw
  refine ⟨m, aa, ab, ga, ca, ka, kb, kg, kc, gs, chs, ?_, hF⟩
  have : cs.toList = (fcs m (.slice aa m.ad.length ka) (.slice ab m.be.length kb) (.slice ga gs.length kg) (.slice ca chs.length kc)).toList := e
  cases cs
  simp only at this
  subst this
  rfl
end
end Go.Proofs.YtpdfpbbamnhkfaaGreatDoor.F12
namespace Go.Proofs.YtpdfpbbamnhkfaaGreatDoor.F12
open Go.RowKit Go.Deep
set_option linter.unusedVariables false
set_option linter.unusedSimpArgs false
theorem lsum_tot : ∀ (gs : List ByteArray) (n : Nat), lsum gs n ≤ 30000 → lsum gs n = n + G10.totS gs
  | [], n, _ => by simp [lsum, G10.totS]
  | g :: gs, n, h => by
    unfold lsum at h ⊢
    split at h
    · rename_i hn
      rw [if_pos hn]
      have := lsum_tot gs (n + g.size) h
      have e2 : G10.totS (g :: gs) = g.size + G10.totS gs := by unfold G10.totS; simp
      omega
    · omega
theorem tot_ge {gs : List ByteArray} {g : ByteArray} (h : g ∈ gs) : g.size ≤ G10.totS gs := by
  induction gs with
  | nil => cases h
  | cons x gs ih =>
    have e2 : G10.totS (x :: gs) = x.size + G10.totS gs := by unfold G10.totS; simp
    rcases List.mem_cons.1 h with rfl | h
    · omega
    · have := ih h; omega
theorem lrg_in {gs : List ByteArray} {ng nc na nb : Nat} (h : lrgB (lsum gs 0) ng nc na nb = false) (hng : gs.length = ng) : ng ≤ 200 ∧ nc ≤ 200 ∧ na ≤ 200 ∧ nb ≤ 200 ∧ (∀ g ∈ gs, g.size ≤ 30000) ∧ (G10.jg gs).length ≤ 1048576 := by
  unfold lrgB at h
  simp only [Bool.or_eq_false_iff, decide_eq_false_iff_not] at h
  obtain ⟨h1, h2, h3, h4, h5⟩ := h
  have ht := lsum_tot gs 0 (by omega)
  have hj := G10.jg_le gs
  refine ⟨by omega, by omega, by omega, by omega, fun g hg => ?_, by omega⟩
  have := tot_ge hg
  omega
end Go.Proofs.YtpdfpbbamnhkfaaGreatDoor.F12
namespace Go.Proofs.YtpdfpbbamnhkfaaGreatDoor.F12
open Go.RowKit Go.Deep
set_option linter.unusedVariables false
set_option maxHeartbeats 2000000 in
theorem cp_new (m : Mt) (aa ab : Option Addr) (na ca nb cb : Nat) (w : World) (hna : m.ad.length = na) (hnb : m.be.length = nb) (hma : na ≤ 100000) (hmb : nb ≤ 100000) (hA : Lst w aa m.ad) (hB : Lst w ab m.be) :
    Calls Tryz.prog 29 #[.agg (mcs m (.slice aa na ca) (.slice ab nb cb))] w fun e w' => ∃ p q cp cq, e = .returned (.agg (mcs m (.slice (some ⟨p, 0, none⟩) na cp) (.slice (some ⟨q, 0, none⟩) nb cq))) ∧ Lst w' (some ⟨p, 0, none⟩) m.ad ∧ Lst w' (some ⟨q, 0, none⟩) m.be ∧ Below w.heap.size w w' ∧ w.heap.size ≤ p ∧ w.heap.size ≤ q := by
  obtain ⟨up, sc, de, ga, b0, b1, b2, b3, lg, ad, be⟩ := m
  have HA := hide (And.intro hna (And.intro hnb (And.intro hma (And.intro hmb (And.intro hA hB)))))
  clear hna hnb hma hmb hA hB
  simp only [mcs] at HA ⊢
  have b1' := (Below.refl w.heap.size w).alloc (Nat.le_refl _) (.cells #[.int .i64 up, .int .i64 sc, .int .i64 de, .int .i64 ga, .int .i64 b0, .int .i64 b1, .int .i64 b2, .int .i64 b3, .bool lg, .slice aa na ca, .slice ab nb cb] 25)
  have k1 := Blk.new w #[.int .i64 up, .int .i64 sc, .int .i64 de, .int .i64 ga, .int .i64 b0, .int .i64 b1, .int .i64 b2, .int .i64 b3, .bool lg, .slice aa na ca, .slice ab nb cb] 25
  have z1 : (w.alloc (.cells #[.int .i64 up, .int .i64 sc, .int .i64 de, .int .i64 ga, .int .i64 b0, .int .i64 b1, .int .i64 b2, .int .i64 b3, .bool lg, .slice aa na ca, .slice ab nb cb] 25)).heap.size = w.heap.size + 1 := by simp
  have bb2 := (Below.refl (w.alloc (.cells #[.int .i64 up, .int .i64 sc, .int .i64 de, .int .i64 ga, .int .i64 b0, .int .i64 b1, .int .i64 b2, .int .i64 b3, .bool lg, .slice aa na ca, .slice ab nb cb] 25)).heap.size (w.alloc (.cells #[.int .i64 up, .int .i64 sc, .int .i64 de, .int .i64 ga, .int .i64 b0, .int .i64 b1, .int .i64 b2, .int .i64 b3, .bool lg, .slice aa na ca, .slice ab nb cb] 25))).alloc (Nat.le_refl _) (.cells zeroC 25)
  have k2 := Blk.new (w.alloc (.cells #[.int .i64 up, .int .i64 sc, .int .i64 de, .int .i64 ga, .int .i64 b0, .int .i64 b1, .int .i64 b2, .int .i64 b3, .bool lg, .slice aa na ca, .slice ab nb cb] 25)) zeroC 25
  have z2 : ((w.alloc (.cells #[.int .i64 up, .int .i64 sc, .int .i64 de, .int .i64 ga, .int .i64 b0, .int .i64 b1, .int .i64 b2, .int .i64 b3, .bool lg, .slice aa na ca, .slice ab nb cb] 25)).alloc (.cells zeroC 25)).heap.size = w.heap.size + 1 + 1 := by simp
  rw [z1] at k2
  have k1b := k1.below bb2
  have bv := below_t5 b1' bb2
  obtain ⟨p, cp, W1, hr1, hl1, hp1, hb1⟩ := app_copy ((w.alloc (.cells #[.int .i64 up, .int .i64 sc, .int .i64 de, .int .i64 ga, .int .i64 b0, .int .i64 b1, .int .i64 b2, .int .i64 b3, .bool lg, .slice aa na ca, .slice ab nb cb] 25)).alloc (.cells zeroC 25)) aa na ca (w.heap.size + 1 + 1) ad HA.out.1 HA.out.2.2.1 (HA.out.2.2.2.2.1.below bv) z2
  have k1c := k1b.below hb1
  have k2c := k2.below hb1
  have bw1 := below_t5 bv hb1
  have hset : But w.heap.size W1 (W1.setCell ⟨w.heap.size, 9, none⟩ (.slice (some ⟨p, 0, none⟩) na cp)) := But.setCell _ _ _ _
  have k1d : Blk (W1.setCell ⟨w.heap.size, 9, none⟩ (.slice (some ⟨p, 0, none⟩) na cp)) w.heap.size #[.int .i64 up, .int .i64 sc, .int .i64 de, .int .i64 ga, .int .i64 b0, .int .i64 b1, .int .i64 b2, .int .i64 b3, .bool lg, .slice (some ⟨p, 0, none⟩) na cp, .slice ab nb cb] 25 := by
    have := Blk.set k1c 9 (.slice (some ⟨p, 0, none⟩) na cp)
    simpa using this
  have k2d := hset.blk k2c (by omega)
  have bw2 := hset.below bw1 (Nat.le_refl _)
  have hl1d : Lst (W1.setCell ⟨w.heap.size, 9, none⟩ (.slice (some ⟨p, 0, none⟩) na cp)) (some ⟨p, 0, none⟩) ad := hl1.other (by rw [z2] at hp1; omega) _
  obtain ⟨q, cq, W2, hr2, hl2, hq2, hb2⟩ := app_copy (W1.setCell ⟨w.heap.size, 9, none⟩ (.slice (some ⟨p, 0, none⟩) na cp)) ab nb cb W1.heap.size be HA.out.2.1 HA.out.2.2.2.1 (HA.out.2.2.2.2.2.below bw2) (by simp)
  have k1e := k1d.below hb2
  have k2e := k2d.below hb2
  have bw3 := below_t5 bw2 hb2
  have zw1 : W1.heap.size = (W1.setCell ⟨w.heap.size, 9, none⟩ (.slice (some ⟨p, 0, none⟩) na cp)).heap.size := by simp
  have hxw := k1c.lt
  have hset2 : But w.heap.size W2 (W2.setCell ⟨w.heap.size, 10, none⟩ (.slice (some ⟨q, 0, none⟩) nb cq)) := But.setCell _ _ _ _
  have k1f : Blk (W2.setCell ⟨w.heap.size, 10, none⟩ (.slice (some ⟨q, 0, none⟩) nb cq)) w.heap.size #[.int .i64 up, .int .i64 sc, .int .i64 de, .int .i64 ga, .int .i64 b0, .int .i64 b1, .int .i64 b2, .int .i64 b3, .bool lg, .slice (some ⟨p, 0, none⟩) na cp, .slice (some ⟨q, 0, none⟩) nb cq] 25 := by
    have := Blk.set k1e 10 (.slice (some ⟨q, 0, none⟩) nb cq)
    simpa using this
  have k2f := hset2.blk k2e (by omega)
  have bw4 := hset2.below bw3 (Nat.le_refl _)
  have hl1f : Lst (W2.setCell ⟨w.heap.size, 10, none⟩ (.slice (some ⟨q, 0, none⟩) nb cq)) (some ⟨p, 0, none⟩) ad := (hl1d.below hb2).other (by rw [z2] at hp1; omega) _
  have hl2f : Lst (W2.setCell ⟨w.heap.size, 10, none⟩ (.slice (some ⟨q, 0, none⟩) nb cq)) (some ⟨q, 0, none⟩) be := hl2.other (by rw [← zw1] at hq2; omega) _
  have c9 := k1c.cell 9
  have f9 := k1c.frozen 9
  have d10 := k1d.cell 10
  have xlt1 := k1c.lt
  have xltd := k1d.lt
  have e10 := k1e.cell 10
  have f10 := k1e.frozen 10
  have xlt2 := k1e.lt
  simp at c9 d10 e10 xltd
  have HR1 := hide hr1
  have HR2 := hide hr2
  have HL := hide (And.intro hl1f hl2f)
  have HK := hide (And.intro k1f (And.intro k2f bw4))
  have HPQ : Hid (p ≠ w.heap.size + 1 ∧ q ≠ w.heap.size + 1 ∧ w.heap.size ≤ p ∧ w.heap.size ≤ q) := hide (by have := k2c.lt; rw [z2] at hp1; rw [← zw1] at hq2; omega)
  clear b1' k1 z1 bb2 k2 z2 k1b bv hr1 hl1 hb1 k1c k2c bw1 hset k1d k2d bw2 hl1d hr2 hl2 k1e k2e bw3 hset2 k1f k2f bw4 hl1f hl2f hp1 hq2 hb2 zw1 hxw
  go_enter Tryz.func29, Tryz.ntmps29
  go_upto_region 2 with (at_builtin; refine Lib.wpList_append_run _ rfl _ _ _ _ rfl _ _ rfl rfl _ _ HR1.out ?_)
  go_upto_region 3 with (at_builtin; refine Lib.wpList_append_run _ rfl _ _ _ _ rfl _ _ rfl rfl _ _ HR2.out ?_)
  clear c9 f9 d10 xlt1 xltd e10 f10 xlt2 HR1 HR2
  generalize W2.setCell ⟨w.heap.size, 10, none⟩ (.slice (some ⟨q, 0, none⟩) nb cq) = W3 at HL HK ⊢
  have k1 := HK.out.1
  have k2 := HK.out.2.1
  obtain ⟨r, hr⟩ : ∃ r, w.heap.size + 1 = r := ⟨_, rfl⟩
  have hrw : w.heap.size ≤ r := by omega
  have hxr : w.heap.size ≠ r := by omega
  have HRW := hide (And.intro hrw hr)
  rw [hr] at k2 ⊢
  have HK2 := hide k2
  have w0 := k1.cell 0
  have w1 := k1.cell 1
  have w2 := k1.cell 2
  have w3 := k1.cell 3
  have w4 := k1.cell 4
  have w5 := k1.cell 5
  have w6 := k1.cell 6
  have w7 := k1.cell 7
  have w8 := k1.cell 8
  have w9 := k1.cell 9
  have w10 := k1.cell 10
  have z0 := k2.cell 0
  have y0 := k2.frozen 0
  have z1 := k2.cell 1
  have y1 := k2.frozen 1
  have z2 := k2.cell 2
  have y2 := k2.frozen 2
  have z3 := k2.cell 3
  have y3 := k2.frozen 3
  have z4 := k2.cell 4
  have y4 := k2.frozen 4
  have z5 := k2.cell 5
  have y5 := k2.frozen 5
  have z6 := k2.cell 6
  have y6 := k2.frozen 6
  have z7 := k2.cell 7
  have y7 := k2.frozen 7
  have z8 := k2.cell 8
  have y8 := k2.frozen 8
  have z9 := k2.cell 9
  have y9 := k2.frozen 9
  have z10 := k2.cell 10
  have y10 := k2.frozen 10
  simp at w0 w1 w2 w3 w4 w5 w6 w7 w8 w9 w10 z0 z1 z2 z3 z4 z5 z6 z7 z8 z9 z10
  have xlt := k1.lt
  have rlt := k2.lt
  clear k1 k2 hr hrw
  go_wp2_with fail
  have hst := store11 HK2.out (.int .i64 up) (.int .i64 sc) (.int .i64 de) (.int .i64 ga) (.int .i64 b0) (.int .i64 b1) (.int .i64 b2) (.int .i64 b3) (.bool lg) (.slice (some ⟨p, 0, none⟩) na cp) (.slice (some ⟨q, 0, none⟩) nb cq)
  have hbe := hst.2.below HK.out.2.2 HRW.out.1
  have hlp := HL.out.1.but hst.2 (by have := HPQ.out; have := HRW.out.2; omega)
  have hlq := HL.out.2.but hst.2 (by have := HPQ.out; have := HRW.out.2; omega)
  clear w0 z0 y0 w1 z1 y1 w2 z2 y2 w3 z3 y3 w4 z4 y4 w5 z5 y5 w6 z6 y6 w7 z7 y7 w8 z8 y8 w9 z9 y9 w10 z10 y10 xlt rlt
  generalize (((((((((((W3.setCell ⟨r, 0, none⟩ (.int .i64 up)).setCell ⟨r, 1, none⟩ (.int .i64 sc)).setCell ⟨r, 2, none⟩ (.int .i64 de)).setCell ⟨r, 3, none⟩ (.int .i64 ga)).setCell ⟨r, 4, none⟩ (.int .i64 b0)).setCell ⟨r, 5, none⟩ (.int .i64 b1)).setCell ⟨r, 6, none⟩ (.int .i64 b2)).setCell ⟨r, 7, none⟩ (.int .i64 b3)).setCell ⟨r, 8, none⟩ (.bool lg)).setCell ⟨r, 9, none⟩ (.slice (some ⟨p, 0, none⟩) na cp)).setCell ⟨r, 10, none⟩ (.slice (some ⟨q, 0, none⟩) nb cq)) = Z at hst hbe hlp hlq ⊢
  have q0 := hst.1.cell 0
  have q1 := hst.1.cell 1
  have q2 := hst.1.cell 2
  have q3 := hst.1.cell 3
  have q4 := hst.1.cell 4
  have q5 := hst.1.cell 5
  have q6 := hst.1.cell 6
  have q7 := hst.1.cell 7
  have q8 := hst.1.cell 8
  have q9 := hst.1.cell 9
  have q10 := hst.1.cell 10
  simp at q0 q1 q2 q3 q4 q5 q6 q7 q8 q9 q10
  exact bodyPost_ret (v := .agg #[.int .i64 up, .int .i64 sc, .int .i64 de, .int .i64 ga, .int .i64 b0, .int .i64 b1, .int .i64 b2, .int .i64 b3, .bool lg, .slice (some ⟨p, 0, none⟩) na cp, .slice (some ⟨q, 0, none⟩) nb cq]) (by simp [results, Tryz.results29, go_sem, q0, q1, q2, q3, q4, q5, q6, q7, q8, q9, q10]) rfl ⟨p, q, cp, cq, rfl, hlp, hlq, hbe, HPQ.out.2.2.1, HPQ.out.2.2.2⟩
end Go.Proofs.YtpdfpbbamnhkfaaGreatDoor.F12
namespace Go.Proofs.YtpdfpbbamnhkfaaGreatDoor.F12
open Go.RowKit Go.Deep
set_option linter.unusedVariables false
set_option linter.unusedSimpArgs false
theorem app_C3 (u : World) (H : Nat) (a : Option Addr) (n c : Nat) (cs : List C11.Ch) (hz : cs.length = n) (h : n ≤ 100000) (hL : C11.CLst u a cs) :
    ∃ g c' w', (Builtin.append_ #[27, 27] 27 #[.slice (some ⟨H, 0, none⟩) 0 0, .slice a n c]).run Tryz.prog u = .ok (.slice (some ⟨g, 0, none⟩) n c') w' ∧ (C11.CLst w' (some ⟨g, 0, none⟩) cs ∧ Below u.heap.size u w' ∧ (cs = [] ∨ u.heap.size ≤ g)) := by
  obtain ⟨i0, hi, hz0, hz1, hz2⟩ := info_parts5 C11.info_ch
  rcases Nat.eq_zero_or_pos n with h0 | h0
  · subst h0
    obtain rfl : cs = [] := List.eq_nil_of_length_eq_zero hz
    have hs : Src Tryz.prog i0.size 27 (.slice a 0 c) 0 [] u := by
      cases a with
      | none => exact Src.ofNil _ Tryz.underlying27 c
      | some x => exact Src.ofSlice _ Tryz.underlying27 x 0 c [] (by simp) (by simp) (by simp)
    have hr := run_append_room_src (P := Tryz.prog) u 27 27 27 106 i0 Tryz.underlying27 hi H 0 0 0 _ 0 [] hs (by omega) (by simp) (by simp)
    exact ⟨H, 0, u, by simpa [World.setCells] using hr, Or.inl rfl, Below.refl _ _, Or.inl rfl⟩
  · rcases hL with hz' | ⟨b, off, rfl, hb, hcell⟩
    · rw [hz'] at hz; simp at hz; omega
    have hflat : ∀ j, j < (C11.fl3 cs).length → u.cell? ⟨b, off + j, none⟩ = some (.int .i64 ((C11.fl3 cs).getD j 0)) := fun j hj => by
      rw [C11.fl3_len] at hj
      obtain ⟨a0, a1, a2⟩ := hcell (j / 3) (by omega)
      obtain ⟨e0, e1, e2⟩ := C11.fl3_at cs (j / 3) (by omega)
      have hm : j % 3 < 3 := Nat.mod_lt _ (by omega)
      have he : j = j / 3 * 3 + j % 3 := by omega
      generalize j % 3 = k at *
      generalize j / 3 = m at *
      subst he
      match k, hm with
      | 0, _ => rw [Nat.add_zero, e0]; exact a0
      | 1, _ => rw [e1, ← Nat.add_assoc]; exact a1
      | 2, _ => rw [e2, ← Nat.add_assoc]; exact a2
    have hs : Src Tryz.prog i0.size 27 (.slice (some ⟨b, off, none⟩) n c) n ((C11.fl3 cs).map (Value.int .i64)) u := by
      refine Src.ofSlice u Tryz.underlying27 ⟨b, off, none⟩ n c _ (by rw [hz1]; simp [C11.fl3_len, hz]) ?_ (fun v hv => by obtain ⟨x, _, rfl⟩ := List.mem_map.1 hv; rfl)
      intro j v hu
      have hj : j < (C11.fl3 cs).length := by
        have := List.getElem?_eq_some_iff.1 hu
        simpa using this.1
      rw [Go.WideShapes.add_plain, hflat j hj]
      rw [List.getElem?_map, List.getElem?_eq_getElem hj] at hu
      simp at hu
      rw [← hu, List.getD_eq_getElem?_getD, List.getElem?_eq_getElem hj]
      rfl
    have hr := run_append_grow_src (P := Tryz.prog) u 27 27 27 106 i0 (.agg #[.int .i64 0, .int .i64 0, .int .i64 0]) Tryz.underlying27 hi hz0 (some ⟨H, 0, none⟩) 0 0 [] (run_firstCells_some _ i0.size 0 _ 0 0 [] (by simp) (by simp)) _ n _ hs (by omega) (by omega)
      (by rw [hz2]; have := growslice_fits (need := 0 + n) (old := 0) (bytes := 24) (by omega) (by omega); exact this)
    simp only [Nat.zero_add, List.nil_append] at hr
    have hsz : (u.drew).heap.size = u.heap.size := rfl
    refine ⟨_, _, _, hr, ?_, (bdr (Below.refl _ _)).alloc (Nat.le_refl _) _, Or.inr (Nat.le_refl _)⟩
    refine Or.inr ⟨u.heap.size, 0, rfl, by simp, fun i hi => ?_⟩
    obtain ⟨e0, e1, e2⟩ := C11.fl3_at cs i hi
    have hl := C11.fl3_len cs
    have key : ∀ (rest : Array Value) (j : Nat), j < (C11.fl3 cs).length → (((C11.fl3 cs).map (Value.int .i64)).toArray ++ rest)[j]? = some (.int .i64 ((C11.fl3 cs).getD j 0)) := fun rest j hj => by
      rw [Array.getElem?_append_left (by simpa using hj)]
      simp [List.getElem?_eq_getElem hj, List.getD_eq_getElem?_getD]
    rw [Nat.zero_add, World.cell?_alloc_at _ _ _ _ hsz.symm, World.cell?_alloc_at _ _ _ _ hsz.symm, World.cell?_alloc_at _ _ _ _ hsz.symm]
    exact ⟨by rw [key _ _ (by omega), e0], by rw [key _ _ (by omega), e1], by rw [key _ _ (by omega), e2]⟩
theorem step_append_ex {P : Program} (w : World) {ops : Array Oper} {o : Oper} {a : Act} {K : Act → World → Prop} {Q : Exit → Act → World → Prop} {E : Prop} (hgd : o.guard = none) (s x : Operand) (t tn : TypeId)
    (ho : o.op = .call { callee := .builtin .append, args := #[s, x], argTypes := #[t, tn] }) (vs vx : Value) (hs : a.eval s = vs) (hx : a.eval x = vx) {n : Nat} {R : Nat → World → Prop}
    (hr : ∃ g c' w', (Builtin.append_ #[t, tn] o.type #[vs, vx]).run P w = .ok (.slice (some ⟨g, 0, none⟩) n c') w' ∧ R g w') (h : ∀ g c' w', R g w' → K (a.put o.dst (.slice (some ⟨g, 0, none⟩) n c')) w') :
    if Region.wanted o (yielded ops a.tmps) = true then Oper.wp P o a w K Q else E := by
  obtain ⟨g, c', w', h1, h2⟩ := hr
  rw [if_pos (by simp [Region.wanted, hgd])]
  exact Lib.wp_append_run w s x t tn ho vs vx hs hx _ w' h1 (h g c' w' h2)
def CoR (m : Mt) (gs : List ByteArray) (cs : List C11.Ch) (na nb ng nc : Nat) (w : World) (e : Ending) (w' : World) : Prop := ∃ p q g c kp kq kg' kc', e = .returned (.agg (fcs m (.slice (some ⟨p, 0, none⟩) na kp) (.slice (some ⟨q, 0, none⟩) nb kq) (.slice (some ⟨g, 0, none⟩) ng kg') (.slice (some ⟨c, 0, none⟩) nc kc'))) ∧ Lst w' (some ⟨p, 0, none⟩) m.ad ∧ Lst w' (some ⟨q, 0, none⟩) m.be ∧ G10.SLst w' (some ⟨g, 0, none⟩) gs ∧ C11.CLst w' (some ⟨c, 0, none⟩) cs ∧ Below w.heap.size w w'
set_option maxRecDepth 8000 in
set_option maxHeartbeats 8000000 in
theorem copy_any (m : Mt) (aa ab ga ca : Option Addr) (na nb ng nc ka kb kg kc : Nat) (gs : List ByteArray) (cs : List C11.Ch) (w : World) (hna : m.ad.length = na) (hnb : m.be.length = nb) (hng : gs.length = ng) (hnc : cs.length = nc) (hma : na ≤ 100000) (hmb : nb ≤ 100000) (hmg : ng ≤ 100000) (hmc : nc ≤ 100000) (hA : Lst w aa m.ad) (hB : Lst w ab m.be) (hG : G10.SLst w ga gs) (hC : C11.CLst w ca cs) :
    Calls Tryz.prog 11 #[.agg (fcs m (.slice aa na ka) (.slice ab nb kb) (.slice ga ng kg) (.slice ca nc kc))] w (CoR m gs cs na nb ng nc w) := by
  have CM := hide (fun (u : World) (hu : Below w.heap.size w u) => cp_new m aa ab na ka nb kb u hna hnb hma hmb (hA.below hu) (hB.below hu))
  have CS := hide (fun (u : World) (H : Nat) (hu : Below w.heap.size w u) => app_S2 u H ga ng kg gs hng hmg (hG.below hu))
  have CC := hide (fun (u : World) (H : Nat) (hu : Below w.heap.size w u) => app_C3 u H ca nc kc cs hnc hmc (hC.below hu))
  have b1 := (Below.refl w.heap.size w).alloc (Nat.le_refl _) (.cells (fcs m (.slice aa na ka) (.slice ab nb kb) (.slice ga ng kg) (.slice ca nc kc)) 29)
  have k1 := Blk.new w (fcs m (.slice aa na ka) (.slice ab nb kb) (.slice ga ng kg) (.slice ca nc kc)) 29
  have z1 : (w.alloc (.cells (fcs m (.slice aa na ka) (.slice ab nb kb) (.slice ga ng kg) (.slice ca nc kc)) 29)).heap.size = w.heap.size + 1 := by simp
  obtain ⟨up, sc, de, gap, b0, b1', b2, b3, lg, ad, be⟩ := m
  simp only [mcs, fcs] at CM b1 k1 z1 ⊢
  clear hna hnb hng hnc hma hmb hmg hmc hA hB hG hC
  go_enter Tryz.func11, Tryz.ntmps11
  go_wp2_with fail
  rw [← z1]
  generalize w.alloc (.cells #[.int .i64 up, .int .i64 sc, .int .i64 de, .int .i64 gap, .int .i64 b0, .int .i64 b1', .int .i64 b2, .int .i64 b3, .bool lg, .slice aa na ka, .slice ab nb kb, .slice ga ng kg, .slice ca nc kc] 29) = U at b1 k1 z1 ⊢
  have bU := (Below.refl U.heap.size U).alloc (Nat.le_refl _) (.cells zf 29)
  have kZ := Blk.new U zf 29
  have k2 := k1.below bU
  have b2' := below_t5 b1 bU
  generalize U.alloc (.cells zf 29) = V at bU kZ k2 b2' ⊢
  obtain ⟨F, hF⟩ : ∃ F, w.heap.size = F := ⟨_, rfl⟩
  obtain ⟨R, hR⟩ : ∃ R, U.heap.size = R := ⟨_, rfl⟩
  rw [hF] at k2
  rw [hR] at kZ ⊢
  have KS : Hid (∀ x, Blk x F #[.int .i64 up, .int .i64 sc, .int .i64 de, .int .i64 gap, .int .i64 b0, .int .i64 b1', .int .i64 b2, .int .i64 b3, .bool lg, .slice aa na ka, .slice ab nb kb, .slice ga ng kg, .slice ca nc kc] 29 → F < x.heap.size ∧ x.cell? ⟨F, 0, none⟩ = some (.int .i64 up) ∧ x.cell? ⟨F, 1, none⟩ = some (.int .i64 sc) ∧ x.cell? ⟨F, 2, none⟩ = some (.int .i64 de) ∧ x.cell? ⟨F, 3, none⟩ = some (.int .i64 gap) ∧ x.cell? ⟨F, 4, none⟩ = some (.int .i64 b0) ∧ x.cell? ⟨F, 5, none⟩ = some (.int .i64 b1') ∧ x.cell? ⟨F, 6, none⟩ = some (.int .i64 b2) ∧ x.cell? ⟨F, 7, none⟩ = some (.int .i64 b3) ∧ x.cell? ⟨F, 8, none⟩ = some (.bool lg) ∧ x.cell? ⟨F, 9, none⟩ = some (.slice aa na ka) ∧ x.cell? ⟨F, 10, none⟩ = some (.slice ab nb kb) ∧ x.cell? ⟨F, 11, none⟩ = some (.slice ga ng kg) ∧ x.cell? ⟨F, 12, none⟩ = some (.slice ca nc kc)) := hide fun x hx => by
    have k := hx
    exact ⟨k.lt, by simpa using k.cell 0, by simpa using k.cell 1, by simpa using k.cell 2, by simpa using k.cell 3, by simpa using k.cell 4, by simpa using k.cell 5, by simpa using k.cell 6, by simpa using k.cell 7, by simpa using k.cell 8, by simpa using k.cell 9, by simpa using k.cell 10, by simpa using k.cell 11, by simpa using k.cell 12⟩
  have HKF := hide k2
  have HNE : Hid (F ≠ R) := hide (by omega)
  have HX := hide (Below.refl V.heap.size V)
  have HBV := hide b2'
  have HKZ := hide kZ
  have KEEP : Hid (∀ x : World, Below V.heap.size V x → True) := hide (fun _ _ => trivial)
  have HWR : Hid (w.heap.size ≤ R) := hide (by omega)
  have HRV : Hid (R < V.heap.size) := hide kZ.lt
  have HFR : Hid (w.heap.size = F ∧ U.heap.size = R) := hide ⟨hF, hR⟩
  have CM1 := hide (fun (u : World) (hu : Below V.heap.size V u) => CM.out u (below_t5 b2' hu))
  have CS1 := hide (fun (u : World) (H : Nat) (hu : Below V.heap.size V u) => CS.out u H (below_t5 b2' hu))
  have CC1 := hide (fun (u : World) (H : Nat) (hu : Below V.heap.size V u) => CC.out u H (below_t5 b2' hu))
  rw [hF]
  clear b1 k1 z1 bU kZ k2 b2' hF hR CM CS CC
  go_region_held3 (fun x => F < x.heap.size ∧ x.cell? ⟨F, 0, none⟩ = some (.int .i64 up) ∧ x.cell? ⟨F, 1, none⟩ = some (.int .i64 sc) ∧ x.cell? ⟨F, 2, none⟩ = some (.int .i64 de) ∧ x.cell? ⟨F, 3, none⟩ = some (.int .i64 gap) ∧ x.cell? ⟨F, 4, none⟩ = some (.int .i64 b0) ∧ x.cell? ⟨F, 5, none⟩ = some (.int .i64 b1') ∧ x.cell? ⟨F, 6, none⟩ = some (.int .i64 b2) ∧ x.cell? ⟨F, 7, none⟩ = some (.int .i64 b3) ∧ x.cell? ⟨F, 8, none⟩ = some (.bool lg) ∧ x.cell? ⟨F, 9, none⟩ = some (.slice aa na ka) ∧ x.cell? ⟨F, 10, none⟩ = some (.slice ab nb kb) ∧ x.cell? ⟨F, 11, none⟩ = some (.slice ga ng kg) ∧ x.cell? ⟨F, 12, none⟩ = some (.slice ca nc kc)) ((refine KS.out _ ?_; repeat (first | refine Blk.other ?_ HNE.out _ _ | (refine Blk.below HKF.out ?_; repeat (first | exact HX.out | refine ba ?_ _ | refine bdr ?_))))) ((first | (go_at_call 29; refine (CM1.out _ ?_).mono ?_; (repeat (first | exact HX.out | refine ba ?_ _ | refine bdr ?_)); rintro e wy ⟨p, q, cp, cq, rfl, hl1, hl2, hy, hp1, hq1⟩; (try clear r0 r1 r2 r3 r4 r5 r6 r7 r8 r9 r10 r11 r12 z0 z1 z2 z3 z4 z5 z6 z7 z8 z9 z10 z11 z12 rlt); have HX0 := HX; have HK0 := KEEP; replace HX := hide (show Below V.heap.size V wy from below_t5 (by repeat (first | exact HX0.out | refine ba ?_ _ | refine bdr ?_)) hy); replace KEEP := hide (fun (x : World) (hx : Below wy.heap.size wy x) => And.intro (HK0.out x (below_t5 (below_t5 (by repeat (first | exact Below.refl _ _ | refine ba ?_ _ | refine bdr ?_)) hy) hx)) (And.intro (hl1.below hx) (hl2.below hx))); have HPQ := hide (And.intro (Nat.le_trans (show Below V.heap.size V _ from (by repeat (first | exact HX0.out | refine ba ?_ _ | refine bdr ?_))).size hp1) (Nat.le_trans (show Below V.heap.size V _ from (by repeat (first | exact HX0.out | refine ba ?_ _ | refine bdr ?_))).size hq1)); clear HX0 HK0 hl1 hl2 hy hp1 hq1; have kR := HKZ.out.below HX.out; have r0 := kR.cell 0; have z0 := kR.frozen 0; have r1 := kR.cell 1; have z1 := kR.frozen 1; have r2 := kR.cell 2; have z2 := kR.frozen 2; have r3 := kR.cell 3; have z3 := kR.frozen 3; have r4 := kR.cell 4; have z4 := kR.frozen 4; have r5 := kR.cell 5; have z5 := kR.frozen 5; have r6 := kR.cell 6; have z6 := kR.frozen 6; have r7 := kR.cell 7; have z7 := kR.frozen 7; have r8 := kR.cell 8; have z8 := kR.frozen 8; have r9 := kR.cell 9; have z9 := kR.frozen 9; have r10 := kR.cell 10; have z10 := kR.frozen 10; have r11 := kR.cell 11; have z11 := kR.frozen 11; have r12 := kR.cell 12; have z12 := kR.frozen 12; simp at r0 r1 r2 r3 r4 r5 r6 r7 r8 r9 r10 r11 r12; have rlt := kR.lt; clear kR) | (refine step_append_ex _ (by rfl) _ _ _ _ rfl _ _ (by rfl) (by rfl) (CS1.out _ _ ?_) ?_; (repeat (first | exact HX.out | refine ba ?_ _ | refine bdr ?_)); rintro g gc wq ⟨hl, hy⟩; (try clear r0 r1 r2 r3 r4 r5 r6 r7 r8 r9 r10 r11 r12 z0 z1 z2 z3 z4 z5 z6 z7 z8 z9 z10 z11 z12 rlt); have HX0 := HX; have HK0 := KEEP; replace HX := hide (show Below V.heap.size V wq from below_t5 (by repeat (first | exact HX0.out | refine ba ?_ _ | refine bdr ?_)) hy); replace KEEP := hide (fun (x : World) (hx : Below wq.heap.size wq x) => And.intro (HK0.out x (below_t5 (below_t5 (by repeat (first | exact Below.refl _ _ | refine ba ?_ _ | refine bdr ?_)) hy) hx)) (hl.below hx)); clear HX0 HK0 hl hy; have kR := HKZ.out.below HX.out; have r0 := kR.cell 0; have z0 := kR.frozen 0; have r1 := kR.cell 1; have z1 := kR.frozen 1; have r2 := kR.cell 2; have z2 := kR.frozen 2; have r3 := kR.cell 3; have z3 := kR.frozen 3; have r4 := kR.cell 4; have z4 := kR.frozen 4; have r5 := kR.cell 5; have z5 := kR.frozen 5; have r6 := kR.cell 6; have z6 := kR.frozen 6; have r7 := kR.cell 7; have z7 := kR.frozen 7; have r8 := kR.cell 8; have z8 := kR.frozen 8; have r9 := kR.cell 9; have z9 := kR.frozen 9; have r10 := kR.cell 10; have z10 := kR.frozen 10; have r11 := kR.cell 11; have z11 := kR.frozen 11; have r12 := kR.cell 12; have z12 := kR.frozen 12; simp at r0 r1 r2 r3 r4 r5 r6 r7 r8 r9 r10 r11 r12; have rlt := kR.lt; clear kR) | (refine step_append_ex _ (by rfl) _ _ _ _ rfl _ _ (by rfl) (by rfl) (CC1.out _ _ ?_) ?_; (repeat (first | exact HX.out | refine ba ?_ _ | refine bdr ?_)); rintro c ccp wz ⟨hl, hy, hc1⟩; (try clear r0 r1 r2 r3 r4 r5 r6 r7 r8 r9 r10 r11 r12 z0 z1 z2 z3 z4 z5 z6 z7 z8 z9 z10 z11 z12 rlt); have HX0 := HX; have HK0 := KEEP; replace HX := hide (show Below V.heap.size V wz from below_t5 (by repeat (first | exact HX0.out | refine ba ?_ _ | refine bdr ?_)) hy); replace KEEP := hide (fun (x : World) (hx : Below wz.heap.size wz x) => And.intro (HK0.out x (below_t5 (below_t5 (by repeat (first | exact Below.refl _ _ | refine ba ?_ _ | refine bdr ?_)) hy) hx)) (hl.below hx)); have HCF := hide (hc1.imp id (fun h => Nat.le_trans (show Below V.heap.size V _ from (by repeat (first | exact HX0.out | refine ba ?_ _ | refine bdr ?_))).size h)); clear HX0 HK0 hl hy hc1; have kR := HKZ.out.below HX.out; have r0 := kR.cell 0; have z0 := kR.frozen 0; have r1 := kR.cell 1; have z1 := kR.frozen 1; have r2 := kR.cell 2; have z2 := kR.frozen 2; have r3 := kR.cell 3; have z3 := kR.frozen 3; have r4 := kR.cell 4; have z4 := kR.frozen 4; have r5 := kR.cell 5; have z5 := kR.frozen 5; have r6 := kR.cell 6; have z6 := kR.frozen 6; have r7 := kR.cell 7; have z7 := kR.frozen 7; have r8 := kR.cell 8; have z8 := kR.frozen 8; have r9 := kR.cell 9; have z9 := kR.frozen 9; have r10 := kR.cell 10; have z10 := kR.frozen 10; have r11 := kR.cell 11; have z11 := kR.frozen 11; have r12 := kR.cell 12; have z12 := kR.frozen 12; simp at r0 r1 r2 r3 r4 r5 r6 r7 r8 r9 r10 r11 r12; have rlt := kR.lt; clear kR)))
  all_goals (
    have kR := HKZ.out.below HX.out
    have hst := store13 kR (.int .i64 up) (.int .i64 sc) (.int .i64 de) (.int .i64 gap) (.int .i64 b0) (.int .i64 b1') (.int .i64 b2) (.int .i64 b3) (.bool lg) (.slice (some ⟨p, 0, none⟩) na cp) (.slice (some ⟨q, 0, none⟩) nb cq) (.slice (some ⟨g, 0, none⟩) ng gc) (.slice (some ⟨c, 0, none⟩) nc ccp)
    have hl := KEEP.out _ (Below.refl _ _)
    have hbe := hst.2.below (below_t5 HBV.out HX.out) HWR.out
    have hrv := HRV.out
    have hpq := HPQ.out
    have u1 := hl.1.1.2.1.but hst.2 (by omega)
    have u2 := hl.1.1.2.2.but hst.2 (by omega)
    have u3 := slst_but hl.1.2 hst.2 kR (fun _ _ => nos)
    have u4 := clst_but hl.2 hst.2 (HCF.out.imp id (fun h => ⟨_, rfl, by omega⟩))
    clear r0 r1 r2 r3 r4 r5 r6 r7 r8 r9 r10 r11 r12 z0 z1 z2 z3 z4 z5 z6 z7 z8 z9 z10 z11 z12 rlt hl hrv hpq kR
    generalize (((((((((((((wz.setCell ⟨R, 0, none⟩ (.int .i64 up)).setCell ⟨R, 1, none⟩ (.int .i64 sc)).setCell ⟨R, 2, none⟩ (.int .i64 de)).setCell ⟨R, 3, none⟩ (.int .i64 gap)).setCell ⟨R, 4, none⟩ (.int .i64 b0)).setCell ⟨R, 5, none⟩ (.int .i64 b1')).setCell ⟨R, 6, none⟩ (.int .i64 b2)).setCell ⟨R, 7, none⟩ (.int .i64 b3)).setCell ⟨R, 8, none⟩ (.bool lg)).setCell ⟨R, 9, none⟩ (.slice (some ⟨p, 0, none⟩) na cp)).setCell ⟨R, 10, none⟩ (.slice (some ⟨q, 0, none⟩) nb cq)).setCell ⟨R, 11, none⟩ (.slice (some ⟨g, 0, none⟩) ng gc)).setCell ⟨R, 12, none⟩ (.slice (some ⟨c, 0, none⟩) nc ccp)) = Z at hst hbe u1 u2 u3 u4 ⊢
    have qq0 := hst.1.cell 0
    have qq1 := hst.1.cell 1
    have qq2 := hst.1.cell 2
    have qq3 := hst.1.cell 3
    have qq4 := hst.1.cell 4
    have qq5 := hst.1.cell 5
    have qq6 := hst.1.cell 6
    have qq7 := hst.1.cell 7
    have qq8 := hst.1.cell 8
    have qq9 := hst.1.cell 9
    have qq10 := hst.1.cell 10
    have qq11 := hst.1.cell 11
    have qq12 := hst.1.cell 12
    simp at qq0 qq1 qq2 qq3 qq4 qq5 qq6 qq7 qq8 qq9 qq10 qq11 qq12
    (try go_wp2_with fail)
    exact bodyPost_ret (v := .agg #[.int .i64 up, .int .i64 sc, .int .i64 de, .int .i64 gap, .int .i64 b0, .int .i64 b1', .int .i64 b2, .int .i64 b3, .bool lg, .slice (some ⟨p, 0, none⟩) na cp, .slice (some ⟨q, 0, none⟩) nb cq, .slice (some ⟨g, 0, none⟩) ng gc, .slice (some ⟨c, 0, none⟩) nc ccp]) (by simp [results, Tryz.results11, go_sem, qq0, qq1, qq2, qq3, qq4, qq5, qq6, qq7, qq8, qq9, qq10, qq11, qq12]) rfl ⟨p, q, g, c, cp, cq, gc, ccp, rfl, u1, u2, u3, u4, hbe⟩)
end Go.Proofs.YtpdfpbbamnhkfaaGreatDoor.F12
