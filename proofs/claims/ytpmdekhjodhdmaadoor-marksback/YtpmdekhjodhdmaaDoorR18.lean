/-
  Joined: K17Mo, K17Mq.
-/
import Derived.ChangeArms
import Derived.ChangeSlices
import Derived.Deep.Slices
import Derived.Lib.SmallJoins
import Derived.OpenShut
import Derived.ProofKit
import Derived.Test.YtpmdekhjodhdmaaDoorR16
namespace Go.Proofs.YtpmdekhjodhdmaaDoor.K17
open Go.ChangeShapes Go.WideShapes Go.RowKit Go.Joins Go.Deep
open Go.Proofs.YtpmdekhjodhdmaaDoor
set_option linter.unusedVariables false
set_option linter.unusedSimpArgs false
abbrev i64 (x : Int) : Prop := -9223372036854775808 ≤ x ∧ x ≤ 9223372036854775807
structure Tg where
  k : Int
  x : List UInt8
  t : List UInt8
  ps : List At
  a : Int
def tg0 : Tg := ⟨0, [], [], [], 0⟩
def GAt (w : World) (b o : Nat) (t : Tg) (aa : Option Addr) (ac : Nat) : Prop :=
  w.cell? ⟨b, o, none⟩ = some (.int .i64 t.k) ∧ w.cell? ⟨b, o + 1, none⟩ = some (.string ⟨t.x.toArray⟩) ∧ w.cell? ⟨b, o + 2, none⟩ = some (.string ⟨t.t.toArray⟩) ∧
    w.cell? ⟨b, o + 3, none⟩ = some (.slice aa t.ps.length ac) ∧ w.cell? ⟨b, o + 4, none⟩ = some (.int .i64 t.a) ∧ ALs w aa t.ps ∧ t.ps.length ≤ ac ∧ ac ≤ 9223372036854775807
def GLs (w : World) (a : Option Addr) (ts : List Tg) : Prop :=
  ts = [] ∨ ∃ b off, a = some ⟨b, off, none⟩ ∧ b < w.heap.size ∧ ∀ i, i < ts.length → ∃ aa ac, GAt w b (off + i * 5) (ts.getD i tg0) aa ac
theorem GAt.below {w w' : World} {b o : Nat} {t : Tg} {aa : Option Addr} {ac : Nat} (h : GAt w b o t aa ac) (hlt : b < w.heap.size) (hb : Below w.heap.size w w') : GAt w' b o t aa ac := by
  obtain ⟨h0, h1, h2, h3, h4, h5, h6⟩ := h
  refine ⟨?_, ?_, ?_, ?_, ?_, h5.below hb, h6⟩
  · rw [hb.cell (p := ⟨b, o, none⟩) hlt]; exact h0
  · rw [hb.cell (p := ⟨b, o + 1, none⟩) hlt]; exact h1
  · rw [hb.cell (p := ⟨b, o + 2, none⟩) hlt]; exact h2
  · rw [hb.cell (p := ⟨b, o + 3, none⟩) hlt]; exact h3
  · rw [hb.cell (p := ⟨b, o + 4, none⟩) hlt]; exact h4
theorem GLs.below {w w' : World} {a : Option Addr} {ts : List Tg} (h : GLs w a ts) (hb : Below w.heap.size w w') : GLs w' a ts := by
  rcases h with h | ⟨b, off, h1, h2, h3⟩
  · exact Or.inl h
  · exact Or.inr ⟨b, off, h1, Nat.lt_of_lt_of_le h2 hb.size, fun i hi => by obtain ⟨aa, ac, h⟩ := h3 i hi; exact ⟨aa, ac, h.below h2 hb⟩⟩
structure TgB (t : Tg) : Prop where
  k : i64 t.k
  a : i64 t.a
  hx : t.x.length ≤ 140737488351232
  ht : t.t.length ≤ 140737488351232
  n : t.ps.length ≤ 17592186044416
  ps : ∀ p ∈ t.ps, p.1.length ≤ 140737488351232 ∧ p.2.length ≤ 140737488351232
structure GIn (w : World) (a : Option Addr) (n : Nat) (ts : List Tg) : Prop where
  len : ts.length = n
  most : n ≤ 9223372036854775807
  lst : GLs w a ts
  rng : ∀ t ∈ ts, TgB t
theorem gcells_int : Tryd.prog.cellsOf 3 = 1 := by kernel_rfl
theorem gcells_str : Tryd.prog.cellsOf 9 = 1 := by kernel_rfl
theorem gcells_at : Tryd.prog.cellsOf 47 = 2 := by kernel_rfl
theorem gcells_ats : Tryd.prog.cellsOf 43 = 1 := by kernel_rfl
theorem gcells_tok : Tryd.prog.cellsOf 45 = 5 := by kernel_rfl
theorem gbytes_at : Tryd.prog.bytesOf 47 = 32 := by kernel_rfl
theorem len2 {α : Type} {l : List α} (h : l.length = 2) : ∃ a b, l = [a, b] := by
  match l, h with
  | [a, b], _ => exact ⟨a, b, rfl⟩
theorem len5 {α : Type} {l : List α} (h : l.length = 5) : ∃ a b c d e, l = [a, b, c, d, e] := by
  match l, h with
  | [a, b, c, d, e], _ => exact ⟨a, b, c, d, e, rfl⟩
theorem bs_l (s : ByteArray) : (⟨s.data.toList.toArray⟩ : ByteArray) = s := by cases s; simp
section
variable {H : Type} {enc : TypeId × Value → H} {W : World} {r : Reach} {base b0 : Nat} {sp : Nat → Bool} {held : Bool} {v : Value} {d : DataW H} {p : List MemPlace}
theorem wts0 {P : Program} {t : TypeId} {ts : List TypeId} {d : DataW H} {r : List (DataW H)} (h : (DataW.weightsEach P (t :: ts) (d :: r)).all (· ≤ reachBytes) = true) : ∀ k ∈ d.weights P t, k ≤ reachBytes := fun k hk => by
  simpa using List.all_eq_true.1 h k (by simp only [DataW.weightsEach]; exact List.mem_append_left _ hk)
theorem gint_cell {n : Nat} {c : Value} {y : DataW H × List MemPlace} (h : DataW.trod enc Tryd.prog W base sp held n 3 [c] = some y) : ∃ a, c = .int .i64 a ∧ i64 a := by
  obtain ⟨a, e, _, wa⟩ := DataW.trod_int Tryd.underlying3 h
  simp only [List.cons.injEq, and_true] at e
  exact ⟨a, e, bounds_i64 wa⟩
theorem gstr_cell {n : Nat} {c : Value} {y : DataW H × List MemPlace} (h : DataW.trod enc Tryd.prog W base sp held n 9 [c] = some y) (hw : ∀ k ∈ y.1.weights Tryd.prog 9, k ≤ reachBytes) : ∃ l : List UInt8, c = .string ⟨l.toArray⟩ ∧ l.length ≤ 140737488351232 := by
  obtain ⟨s, e, f, _⟩ := DataW.trod_string Tryd.underlying9 h
  simp only [List.cons.injEq, and_true] at e
  refine ⟨s.data.toList, by rw [bs_l]; exact e, ?_⟩
  have h1 := hw s.data.toList.length (by rw [f]; simp [DataW.weights, Tryd.underlying9])
  unfold reachBytes at h1
  omega
theorem gat_cells {n : Nat} {cs : List Value} {y : DataW H × List MemPlace} (hf : DataW.trod enc Tryd.prog W base sp held n 47 cs = some y) (hw : ∀ k ∈ y.1.weights Tryd.prog 47, k ≤ reachBytes) :
    ∃ q : At, cs = acs q ∧ q.1.length ≤ 140737488351232 ∧ q.2.length ≤ 140737488351232 := by
  obtain ⟨xs, m, _, hyx, hlen, hxl, hfs⟩ := DataW.trod_struct Tryd.underlying47 hf
  rw [gcells_at] at hlen
  obtain ⟨a0, a1, hcs⟩ := len2 hlen
  obtain ⟨x0, x1, rfl⟩ := len2 (show xs.length = 2 from hxl)
  have hyx := congrArg Prod.fst hyx
  simp only at hyx
  have hw0 : ∀ k ∈ x0.1.weights Tryd.prog 9, k ≤ reachBytes := fun k hk => hw k (by
    rw [hyx]
    simp only [List.map_cons, List.map_nil, DataW.weights, Tryd.underlying47, DataW.weightsEach, List.mem_append]
    left; exact hk)
  have hw1 : ∀ k ∈ x1.1.weights Tryd.prog 9, k ≤ reachBytes := fun k hk => hw k (by
    rw [hyx]
    simp only [List.map_cons, List.map_nil, DataW.weights, Tryd.underlying47, DataW.weightsEach, List.mem_append]
    right; left; exact hk)
  rw [hcs] at hfs
  have g0 := hfs 0 _ rfl
  have g1 := hfs 1 _ rfl
  simp [gcells_str] at g0 g1
  obtain ⟨l0, rfl, b0⟩ := gstr_cell g0 hw0
  obtain ⟨l1, rfl, b1⟩ := gstr_cell g1 hw1
  exact ⟨(l0, l1), hcs, b0, b1⟩
theorem gat_rows (n : Nat) : ∀ (es : List (DataW H × List MemPlace)) (b off : Nat), (∀ i, i < es.length → (W.cells? base ⟨b, off + i * 2, none⟩ 2).bind (DataW.trod enc Tryd.prog W base sp held n 47) = es[i]?) →
    (∀ k ∈ DataW.weightsAll Tryd.prog 47 (es.map (·.1)), k ≤ reachBytes) →
    ∃ l : List At, l.length = es.length ∧ (∀ q ∈ l, q.1.length ≤ 140737488351232 ∧ q.2.length ≤ 140737488351232) ∧ ∀ i, i < l.length → W.cell? ⟨b, off + i * 2, none⟩ = some (.string ⟨(l.getD i ([], [])).1.toArray⟩) ∧ W.cell? ⟨b, off + i * 2 + 1, none⟩ = some (.string ⟨(l.getD i ([], [])).2.toArray⟩)
  | [], _, _, _, _ => ⟨[], rfl, by simp, by simp⟩
  | e :: es, b, off, h, hw => by
    simp only [List.map_cons, DataW.weightsAll] at hw
    have h0 := h 0 (by simp)
    simp only [Nat.zero_mul, Nat.add_zero, List.getElem?_cons_zero] at h0
    obtain ⟨cs, hc, ht⟩ := Option.bind_eq_some_iff.1 h0
    obtain ⟨q, rfl, hq⟩ := gat_cells ht (fun k hk => hw k (List.mem_append_left _ hk))
    obtain ⟨l, hl, ho, hA⟩ := gat_rows n es b (off + 2) (fun i hi => by
      have := h (i + 1) (by simp; omega)
      rw [show off + (i + 1) * 2 = off + 2 + i * 2 by omega] at this
      simpa using this) (fun k hk => hw k (List.mem_append_right _ hk))
    obtain ⟨_, _, hcell⟩ := World.cells?_some hc
    have g : ∀ j, j < 2 → W.cell? ⟨b, off + j, none⟩ = (acs q)[j]? := fun j hj => by rw [← Go.WideShapes.add_plain]; exact hcell j hj
    refine ⟨q :: l, by simp [hl], fun x hx => ?_, fun i hi => ?_⟩
    · rcases List.mem_cons.1 hx with rfl | hx
      · exact hq
      · exact ho x hx
    · cases i with
      | zero =>
        rw [Nat.zero_mul, Nat.add_zero]
        exact ⟨g 0 (by omega), g 1 (by omega)⟩
      | succ i =>
        have := hA i (by simpa using hi)
        rw [show off + (i + 1) * 2 = off + 2 + i * 2 by omega]
        simpa using this
set_option maxRecDepth 100000 in
theorem gats_cell {n : Nat} {c : Value} {y : DataW H × List MemPlace} (hf : DataW.trod enc Tryd.prog W base sp held n 43 [c] = some y) (hw : ∀ k ∈ y.1.weights Tryd.prog 43, k ≤ reachBytes) :
    ∃ aa ac, ∃ ps : List At, c = .slice aa ps.length ac ∧ ALs W aa ps ∧ (ps.length ≤ ac ∧ ac ≤ 9223372036854775807) ∧ ps.length ≤ 17592186044416 ∧ ∀ q ∈ ps, q.1.length ≤ 140737488351232 ∧ q.2.length ≤ 140737488351232 := by
  rcases DataW.trod_slice Tryd.underlying43 hf with ⟨hcs, _⟩ | ⟨a', len', cap', elems, rest, n', hn', hcs, hx, _, hl, hmx, hel, hei, _, _⟩
  · simp at hcs
    exact ⟨none, 0, [], hcs, Or.inl rfl, by simp, by simp, by simp⟩
  · simp at hcs
    unfold maxLen at hmx
    have hx := congrArg Prod.fst hx
    simp only at hx
    have hwt := hw ((elems.length + rest.length) * 32) (by rw [hx]; simp only [DataW.weights, Tryd.underlying43, gbytes_at, List.length_map]; exact List.mem_cons_self)
    have hwa : ∀ k ∈ DataW.weightsAll Tryd.prog 47 (elems.map (·.1)), k ≤ reachBytes := fun k hk => hw k (by rw [hx]; simp only [DataW.weights, Tryd.underlying43]; exact List.mem_cons_of_mem _ (List.mem_append_left _ hk))
    simp only [reachBytes] at hwt
    rcases Nat.eq_zero_or_pos len' with h0 | h0
    · subst h0
      exact ⟨_, cap', [], hcs, Or.inl rfl, ⟨by simp, by omega⟩, by simp, by simp⟩
    · obtain ⟨b, off, spot⟩ := a'
      have h00 := hei 0 h0
      rw [List.getElem?_eq_getElem (by omega), gcells_at] at h00
      obtain ⟨cs0, hc0, _⟩ := Option.bind_eq_some_iff.1 h00
      obtain ⟨_, hcl, hcell⟩ := World.cells?_some hc0
      have hc00 := hcell 0 (by omega)
      have hspot : spot = none := by
        cases cs0 with
        | nil => simp at hcl
        | cons y ys =>
          simp only [List.getElem?_cons_zero] at hc00
          simpa [Addr.add] using World.cell?_spot hc00
      subst hspot
      have hb : b < W.heap.size := by
        have := World.cells?_block hc0 (by omega)
        simpa [Addr.add] using this
      obtain ⟨l, hl1, hl2, hl3⟩ := gat_rows n' elems b off (fun i hi => by
        have := hei i (by omega)
        rw [gcells_at, Go.WideShapes.add_plain] at this
        exact this) hwa
      obtain rfl : len' = l.length := by omega
      exact ⟨some ⟨b, off, none⟩, cap', l, hcs, Or.inr ⟨b, off, rfl, hb, hl3⟩, ⟨by omega, by omega⟩, by omega, hl2⟩
set_option maxRecDepth 100000 in
theorem gtok_cells {n : Nat} {cs : List Value} {y : DataW H × List MemPlace} (hf : DataW.trod enc Tryd.prog W base sp held n 45 cs = some y) (hw : ∀ k ∈ y.1.weights Tryd.prog 45, k ≤ reachBytes) :
    ∃ (t : Tg) (aa : Option Addr) (ac : Nat), cs = [.int .i64 t.k, .string ⟨t.x.toArray⟩, .string ⟨t.t.toArray⟩, .slice aa t.ps.length ac, .int .i64 t.a] ∧ (ALs W aa t.ps ∧ t.ps.length ≤ ac ∧ ac ≤ 9223372036854775807) ∧ TgB t := by
  obtain ⟨xs, m, _, hyx, hlen, hxl, hfs⟩ := DataW.trod_struct Tryd.underlying45 hf
  rw [gcells_tok] at hlen
  obtain ⟨a0, a1, a2, a3, a4, hcs⟩ := len5 hlen
  obtain ⟨x0, x1, x2, x3, x4, rfl⟩ := len5 (show xs.length = 5 from hxl)
  have hyx := congrArg Prod.fst hyx
  simp only at hyx
  have hw1 : ∀ k ∈ x1.1.weights Tryd.prog 9, k ≤ reachBytes := fun k hk => hw k (by
    rw [hyx]
    simp only [List.map_cons, List.map_nil, DataW.weights, Tryd.underlying45, DataW.weightsEach, List.mem_append]
    right; left; exact hk)
  have hw2 : ∀ k ∈ x2.1.weights Tryd.prog 9, k ≤ reachBytes := fun k hk => hw k (by
    rw [hyx]
    simp only [List.map_cons, List.map_nil, DataW.weights, Tryd.underlying45, DataW.weightsEach, List.mem_append]
    right; right; left; exact hk)
  have hw3 : ∀ k ∈ x3.1.weights Tryd.prog 43, k ≤ reachBytes := fun k hk => hw k (by
    rw [hyx]
    simp only [List.map_cons, List.map_nil, DataW.weights, Tryd.underlying45, DataW.weightsEach, List.mem_append]
    right; right; right; left; exact hk)
  rw [hcs] at hfs
  have g0 := hfs 0 _ rfl
  have g1 := hfs 1 _ rfl
  have g2 := hfs 2 _ rfl
  have g3 := hfs 3 _ rfl
  have g4 := hfs 4 _ rfl
  simp [gcells_int, gcells_str, gcells_ats] at g0 g1 g2 g3 g4
  obtain ⟨k, rfl, w0⟩ := gint_cell g0
  obtain ⟨l1, rfl, w1⟩ := gstr_cell g1 hw1
  obtain ⟨l2, rfl, w2⟩ := gstr_cell g2 hw2
  obtain ⟨aa, ac, ps, rfl, w3, w7, w4, w5⟩ := gats_cell g3 hw3
  obtain ⟨a, rfl, w6⟩ := gint_cell g4
  exact ⟨⟨k, l1, l2, ps, a⟩, aa, ac, hcs, ⟨w3, w7⟩, ⟨w0, w6, w1, w2, w4, w5⟩⟩
set_option maxRecDepth 100000 in
theorem gtok_rows (n : Nat) : ∀ (es : List (DataW H × List MemPlace)) (b off : Nat), (∀ i, i < es.length → (W.cells? base ⟨b, off + i * 5, none⟩ 5).bind (DataW.trod enc Tryd.prog W base sp held n 45) = es[i]?) →
    (∀ k ∈ DataW.weightsAll Tryd.prog 45 (es.map (·.1)), k ≤ reachBytes) →
    ∃ l : List Tg, l.length = es.length ∧ (∀ t ∈ l, TgB t) ∧ ∀ i, i < l.length → ∃ aa ac, GAt W b (off + i * 5) (l.getD i tg0) aa ac
  | [], _, _, _, _ => ⟨[], rfl, by simp, by simp⟩
  | e :: es, b, off, h, hw => by
    simp only [List.map_cons, DataW.weightsAll] at hw
    have h0 := h 0 (by simp)
    simp only [Nat.zero_mul, Nat.add_zero, List.getElem?_cons_zero] at h0
    obtain ⟨cs, hc, ht⟩ := Option.bind_eq_some_iff.1 h0
    obtain ⟨t, aa, ac, rfl, hA, hR⟩ := gtok_cells ht (fun k hk => hw k (List.mem_append_left _ hk))
    obtain ⟨l, hl, ho, hAl⟩ := gtok_rows n es b (off + 5) (fun i hi => by
      have := h (i + 1) (by simp; omega)
      rw [show off + (i + 1) * 5 = off + 5 + i * 5 by omega] at this
      simpa using this) (fun k hk => hw k (List.mem_append_right _ hk))
    obtain ⟨_, _, hcell⟩ := World.cells?_some hc
    have g : ∀ j, j < 5 → W.cell? ⟨b, off + j, none⟩ = [Value.int .i64 t.k, .string ⟨t.x.toArray⟩, .string ⟨t.t.toArray⟩, .slice aa t.ps.length ac, .int .i64 t.a][j]? := fun j hj => by rw [← Go.WideShapes.add_plain]; exact hcell j hj
    refine ⟨t :: l, by simp [hl], fun x hx => ?_, fun i hi => ?_⟩
    · rcases List.mem_cons.1 hx with rfl | hx
      · exact hR
      · exact ho x hx
    · cases i with
      | zero =>
        rw [Nat.zero_mul, Nat.add_zero]
        exact ⟨aa, ac, g 0 (by omega), g 1 (by omega), g 2 (by omega), g 3 (by omega), g 4 (by omega), hA⟩
      | succ i =>
        have := hAl i (by simpa using hi)
        rw [show off + (i + 1) * 5 = off + 5 + i * 5 by omega]
        simpa using this
set_option maxRecDepth 100000 in
theorem open_toks (hv : Value.okWide Tryd.prog W r b0 23 v) (h : DataW.Trod enc Tryd.prog W base sp held 23 v d p) (hw : ∀ k ∈ d.weights Tryd.prog 23, k ≤ reachBytes) :
    ∃ a n c ts, v = .slice a n c ∧ GIn W a n ts := by
  obtain ⟨a, len, cap, rfl⟩ := okWide_slice Tryd.underlying23 hv
  refine ⟨a, len, cap, ?_⟩
  obtain ⟨fuel, hf⟩ := h
  rcases DataW.trod_slice Tryd.underlying23 hf with ⟨hcs, _⟩ | ⟨a', len', cap', elems, rest, n', hn', hcs, hx, _, hl, hmx, hel, hei, _, _⟩
  · simp [Value.cells] at hcs
    obtain ⟨rfl, rfl, rfl⟩ := hcs
    exact ⟨[], rfl, ⟨rfl, by omega, Or.inl rfl, by simp⟩⟩
  · simp [Value.cells] at hcs
    obtain ⟨rfl, rfl, rfl⟩ := hcs
    unfold maxLen at hmx
    have hx := congrArg Prod.fst hx
    simp only at hx
    have hwa : ∀ k ∈ DataW.weightsAll Tryd.prog 45 (elems.map (·.1)), k ≤ reachBytes := fun k hk => hw k (by rw [hx]; simp only [DataW.weights, Tryd.underlying23]; exact List.mem_cons_of_mem _ (List.mem_append_left _ hk))
    rcases Nat.eq_zero_or_pos len with h0 | h0
    · subst h0
      exact ⟨[], rfl, ⟨rfl, by omega, Or.inl rfl, by simp⟩⟩
    · obtain ⟨b, off, spot⟩ := a'
      have h00 := hei 0 h0
      rw [List.getElem?_eq_getElem (by omega), gcells_tok] at h00
      obtain ⟨cs0, hc0, _⟩ := Option.bind_eq_some_iff.1 h00
      obtain ⟨_, hcl, hcell⟩ := World.cells?_some hc0
      have hc00 := hcell 0 (by omega)
      have hspot : spot = none := by
        cases cs0 with
        | nil => simp at hcl
        | cons y ys =>
          simp only [List.getElem?_cons_zero] at hc00
          simpa [Addr.add] using World.cell?_spot hc00
      subst hspot
      have hb : b < W.heap.size := by
        have := World.cells?_block hc0 (by omega)
        simpa [Addr.add] using this
      obtain ⟨l, hl1, hl2, hl3⟩ := gtok_rows n' elems b off (fun i hi => by
        have := hei i (by omega)
        rw [gcells_tok, Go.WideShapes.add_plain] at this
        exact this) hwa
      exact ⟨l, rfl, ⟨by omega, by omega, Or.inr ⟨b, off, rfl, hb, hl3⟩, hl2⟩⟩
end
end Go.Proofs.YtpmdekhjodhdmaaDoor.K17
namespace Go.Proofs.YtpmdekhjodhdmaaDoor.K17
open Go.RowKit Go.Proofs.YtpmdekhjodhdmaaDoor
open Go.Lib
set_option linter.unusedVariables false
set_option linter.unusedSimpArgs false
set_option maxRecDepth 8000
def noG (t : Tg) : Tg := { t with a := 0 }
def GAlike (ts us : List Tg) : Prop := ts.map noG = us.map noG
theorem GAlike.len {ts us : List Tg} (h : GAlike ts us) : ts.length = us.length := by have := congrArg List.length h; simpa using this
theorem GAlike.at' {ts us : List Tg} (h : GAlike ts us) (i : Nat) : (us.getD i tg0).k = (ts.getD i tg0).k ∧ (us.getD i tg0).x = (ts.getD i tg0).x ∧ (us.getD i tg0).t = (ts.getD i tg0).t ∧ (us.getD i tg0).ps = (ts.getD i tg0).ps := by
  have hg : ∀ l : List Tg, (l.map noG).getD i tg0 = noG (l.getD i tg0) := fun l => by
    rw [List.getD_eq_getElem?_getD, List.getD_eq_getElem?_getD, List.getElem?_map]
    cases l[i]? <;> rfl
  have := hg ts
  rw [h, hg us] at this
  unfold noG at this
  simp only [Tg.mk.injEq] at this
  exact ⟨this.1, this.2.1, this.2.2.1, this.2.2.2.1⟩
set_option maxHeartbeats 4000000 in
theorem gsame_any (a b : Option Addr) (ca cb n : Nat) (ts us : List Tg) (w : World) (hl : ts.length = n) (h6 : n ≤ 1048576) (ha : GLs w a ts) (hb : GLs w b us) (hA : GAlike ts us) :
    Calls Tryd.prog 19 #[.slice a n ca, .slice b n cb] w fun e w' => e = .returned (.bool true) ∧ Below w.heap.size w w' := by
  have h6' : (n : Int) ≤ 1048576 := by omega
  have HA := hide ha
  have HB := hide hb
  have HAL := hide hA
  have HL := hide hl
  have HU := hide (show us.length = n by rw [← hA.len]; exact hl)
  clear ha hb hA hl
  go_enter Tryd.func19, Tryd.ntmps19
  go_wp2_with fail
  go_loopw [5] (fun vi wr => ∃ k : Nat, vi = .int .i64 k ∧ Hid (k ≤ n ∧ Below w.heap.size w wr)) (fun vi _ => n - (RowKit.intOf vi).toNat)
  case atStart => exact ⟨0, rfl, hide ⟨by omega, Below.refl _ _⟩⟩
  case round =>
    obtain ⟨k, rfl, HK⟩ := hrel
    obtain ⟨k1, k2⟩ := HK.out
    clear HK
    by_cases hlt : k < n
    · have hlt' : (k : Int) < (n : Int) := by omega
      rcases HA.out.below k2 with h0 | ⟨b1, o1, rfl, hb1, hc1⟩
      · have := HL.out; rw [h0] at this; simp at this; omega
      rcases HB.out.below k2 with h0 | ⟨b2, o2, rfl, hb2, hc2⟩
      · have := HU.out; rw [h0] at this; simp at this; omega
      obtain ⟨aa, ac, p0, p1, p2, p3, _, hL1, hz1⟩ := hc1 k (by have := HL.out; omega)
      obtain ⟨ba, bc, r0, r1, r2, r3, _, hL2, hz2⟩ := hc2 k (by have := HU.out; omega)
      obtain ⟨e1, e2, e3, e4⟩ := HAL.out.at' k
      rw [e1] at r0; rw [e2] at r1; rw [e3] at r2; rw [e4] at r3 hL2 hz2
      generalize ts.getD k tg0 = t at *
      obtain ⟨tk, tx, tt, tps, ta⟩ := t
      simp only at p0 p1 p2 p3 r0 r1 r2 r3 hL1 hL2 hz1 hz2
      obtain ⟨X, hX⟩ : ∃ X : ByteArray, (⟨tx.toArray⟩ : ByteArray) = X := ⟨_, rfl⟩
      obtain ⟨Y, hY⟩ : ∃ X : ByteArray, (⟨tt.toArray⟩ : ByteArray) = X := ⟨_, rfl⟩
      rw [hX] at p1 r1
      rw [hY] at p2 r2
      have s1 := beq_self X
      have s2 := beq_self Y
      obtain ⟨m, hm⟩ : ∃ m, tps.length = m := ⟨_, rfl⟩
      rw [hm] at p3 r3
      have hm' : (m : Int) ≤ 9223372036854775807 := by omega
      have hkk : ((tk : Int) == tk) = true := by simp
      have K2 := hide k2
      have L1 := hide hL1
      have L2 := hide hL2
      have HMM := hide hm
      clear k2 hL1 hL2 hc1 hc2 hX hY e1 e2 e3 e4 hz1 hz2 hm
      go_wp2_with fail
      go_quiet (fail)
      go_wp2_with fail
      go_loopw [6] (fun vj wz => ∃ j : Nat, vj = .int .i64 j ∧ Hid (j ≤ m ∧ Below wr.heap.size wr wz)) (fun vj _ => m - (RowKit.intOf vj).toNat)
      case atStart => exact ⟨0, rfl, hide ⟨by omega, below_drewN' _ _⟩⟩
      case round =>
        obtain ⟨j, rfl, HJ⟩ := hrel
        obtain ⟨j1, j2⟩ := HJ.out
        clear HJ
        have p3' : wr.cell? ⟨b1, o1 + k * 5 + 3, none⟩ = some (.slice aa m ac) := by rw [j2.cell (p := ⟨b1, o1 + k * 5 + 3, none⟩) hb1]; exact p3
        have r3' : wr.cell? ⟨b2, o2 + k * 5 + 3, none⟩ = some (.slice ba m bc) := by rw [j2.cell (p := ⟨b2, o2 + k * 5 + 3, none⟩) hb2]; exact r3
        clear p0 p1 p2 p3 r0 r1 r2 r3 s1 s2 hkk
        by_cases hj : j < m
        · have hj' : (j : Int) < (m : Int) := by omega
          rcases L1.out.below j2 with h0 | ⟨c1, f1, rfl, hc1, ha1⟩
          · have := HMM.out; rw [h0] at this; simp at this; omega
          rcases L2.out.below j2 with h0 | ⟨c2, f2, rfl, hc2, ha2⟩
          · have := HMM.out; rw [h0] at this; simp at this; omega
          obtain ⟨x0, x1⟩ := ha1 j (by have := HMM.out; omega)
          obtain ⟨y0, y1⟩ := ha2 j (by have := HMM.out; omega)
          generalize tps.getD j ([], []) = q at *
          obtain ⟨q1, q2⟩ := q
          simp only at x0 x1 y0 y1
          obtain ⟨X1, hX⟩ : ∃ X : ByteArray, (⟨q1.toArray⟩ : ByteArray) = X := ⟨_, rfl⟩
          obtain ⟨Y1, hY⟩ : ∃ X : ByteArray, (⟨q2.toArray⟩ : ByteArray) = X := ⟨_, rfl⟩
          rw [hX] at x0 y0
          rw [hY] at x1 y1
          have J2 := hide j2
          clear ha1 ha2 j2 hX hY
          have s1 := beq_self X1
          have s2 := beq_self Y1
          go_wp2_with fail
          go_quiet (fail)
          go_wp2_with fail
          go_roundw
          case rel => exact ⟨j + 1, by go_num, hide ⟨by omega, J2.out.trans (below_drewN' _ _ |>.mono J2.out.size)⟩⟩
          case measure => simp [RowKit.intOf]; omega
        · have hj' : ¬ (j : Int) < (m : Int) := by omega
          have J2 := hide j2
          clear j2
          go_wp2_with fail
          go_roundw
          case rel => exact ⟨k + 1, by go_num, hide ⟨by omega, K2.out.trans (J2.out.mono K2.out.size)⟩⟩
          case measure => simp [RowKit.intOf]; omega
    · have hlt' : ¬ (k : Int) < (n : Int) := by omega
      go_wp2_with fail
      go_ret
      exact ⟨rfl, k2⟩
end Go.Proofs.YtpmdekhjodhdmaaDoor.K17
