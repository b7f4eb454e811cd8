/-
  Tables that came in: they lie one behind the other.
-/
import Derived.Test.YtgmmhlpdkoiheaaDoorS8Tc
import Derived.Deep.AppendSrc
import Derived.SliceStrings
import Derived.SizedLaws
namespace Go.Proofs.YtgmmhlpdkoiheaaDoor
open Go.ChangeShapes Go.WideShapes Go.RowKit Go.Deep
set_option linter.unusedVariables false
set_option linter.unnecessarySimpa false

theorem cells_str : Tryd.prog.cellsOf 9 = 1 := by kernel_rfl
theorem cells_tab : Tryd.prog.cellsOf 43 = 2 := by kernel_rfl
theorem bytes_tab : Tryd.prog.bytesOf 43 = 32 := by kernel_rfl
theorem len2 {α : Type} {l : List α} (h : l.length = 2) : ∃ a b, l = [a, b] := by
  match l, h with
  | [a, b], _ => exact ⟨a, b, rfl⟩
structure TIn (w : World) (a : Option Addr) (n : Nat) (l : List Tab) : Prop where
  len : l.length = n
  most : n ≤ 4398046511104
  lst : TLst w a l
  size : ∀ x ∈ l, x.1.size ≤ 140737488351232 ∧ x.2.size ≤ 140737488351232
section
variable {H : Type} {enc : TypeId × Value → H} {W : World} {base : Nat} {sp : Nat → Bool} {held : Bool}
theorem tab_cell {n : Nat} {cs : List Value} {y : DataW H × List MemPlace} (h : DataW.trod enc Tryd.prog W base sp held n 43 cs = some y) (hw : ∀ k ∈ y.1.weights Tryd.prog 43, k ≤ reachBytes) :
    ∃ s t : ByteArray, cs = [.string s, .string t] ∧ s.size ≤ 140737488351232 ∧ t.size ≤ 140737488351232 := by
  obtain ⟨xs, m, hm, rfl, hlen, hxl, hf⟩ := DataW.trod_struct Tryd.underlying43 h
  rw [cells_tab] at hlen
  obtain ⟨a0, a1, rfl⟩ := len2 hlen
  obtain ⟨x0, x1, rfl⟩ := len2 (show xs.length = 2 from hxl)
  have g0 := hf 0 _ rfl
  have g1 := hf 1 _ rfl
  simp [cells_str] at g0 g1
  obtain ⟨s, e0, f0, _⟩ := DataW.trod_string Tryd.underlying9 g0
  obtain ⟨t, e1, f1, _⟩ := DataW.trod_string Tryd.underlying9 g1
  simp at e0 e1
  subst e0 e1
  subst f0 f1
  have hw' : ∀ k ∈ [s.data.toList.length, t.data.toList.length], k ≤ reachBytes := fun k hk => hw k (by
    simp only [List.map_cons, List.map_nil, DataW.weights, Tryd.underlying43, DataW.weightsEach, List.mem_append]
    simp at hk ⊢
    exact hk)
  have h1 := hw' s.data.toList.length (by simp)
  have h2 := hw' t.data.toList.length (by simp)
  unfold reachBytes at h1 h2
  rw [← Lib.size_eq] at h1 h2
  exact ⟨s, t, rfl, by omega, by omega⟩
theorem tab_rows (n : Nat) : ∀ (es : List (DataW H × List MemPlace)) (b off : Nat), (∀ i, i < es.length → (W.cells? base ⟨b, off + i * 2, none⟩ 2).bind (DataW.trod enc Tryd.prog W base sp held n 43) = es[i]?) →
    (∀ k ∈ DataW.weightsAll Tryd.prog 43 (es.map (·.1)), k ≤ reachBytes) → ∃ l : List Tab, l.length = es.length ∧ (∀ x ∈ l, x.1.size ≤ 140737488351232 ∧ x.2.size ≤ 140737488351232) ∧
      ∀ i x, l[i]? = some x → W.cell? ⟨b, off + i * 2, none⟩ = some (.string x.1) ∧ W.cell? ⟨b, off + i * 2 + 1, none⟩ = some (.string x.2)
  | [], _, _, _, _ => ⟨[], rfl, by simp, by simp⟩
  | e :: es, b, off, h, hw => by
    have h0 := h 0 (by simp)
    simp only [Nat.zero_mul, Nat.add_zero, List.getElem?_cons_zero] at h0
    obtain ⟨cs, hc, ht⟩ := Option.bind_eq_some_iff.1 h0
    simp only [List.map_cons, DataW.weightsAll] at hw
    obtain ⟨s, t, rfl, h1, h2⟩ := tab_cell ht (fun k hk => hw k (List.mem_append_left _ hk))
    obtain ⟨l, hl, hs, hR⟩ := tab_rows n es b (off + 2) (fun i hi => by
      have := h (i + 1) (by simp; omega)
      rw [show off + (i + 1) * 2 = off + 2 + i * 2 by omega] at this
      simpa using this) (fun k hk => hw k (List.mem_append_right _ hk))
    obtain ⟨_, _, hcell⟩ := World.cells?_some hc
    have g : ∀ j, j < 2 → W.cell? ⟨b, off + j, none⟩ = [Value.string s, Value.string t][j]? := fun j hj => by rw [← Go.WideShapes.add_plain]; exact hcell j hj
    refine ⟨(s, t) :: l, by simp [hl], fun x hx => ?_, fun i x hx => ?_⟩
    · rcases List.mem_cons.1 hx with rfl | hx
      · exact ⟨h1, h2⟩
      · exact hs x hx
    · cases i with
      | zero => simp at hx; subst hx; exact ⟨by simpa using g 0 (by omega), by simpa using g 1 (by omega)⟩
      | succ i =>
        have := hR i x (by simpa using hx)
        rw [show off + (i + 1) * 2 = off + 2 + i * 2 by omega]
        exact this
variable {r : Reach} {b0 : Nat} {v : Value} {d : DataW H} {pl : List MemPlace}
set_option maxRecDepth 100000 in
theorem open_tabs (hv : Value.okWide Tryd.prog W r b0 27 v) (h : DataW.Trod enc Tryd.prog W base sp held 27 v d pl) (hw : ∀ k ∈ d.weights Tryd.prog 27, k ≤ reachBytes) :
    ∃ a n c l, v = .slice a n c ∧ TIn W a n l := by
  obtain ⟨a, n, c, rfl⟩ := okWide_slice Tryd.underlying27 hv
  obtain ⟨fuel, hf⟩ := h
  rcases DataW.trod_slice Tryd.underlying27 hf with ⟨hcs, _⟩ | ⟨a', len, cap, elems, rest, n', hn', hcs, hx, _, hl, hmx, hel, hei, _, _⟩
  · simp [Value.cells] at hcs
    obtain ⟨rfl, rfl, rfl⟩ := hcs
    exact ⟨none, 0, 0, [], rfl, rfl, by omega, Or.inl rfl, by simp⟩
  · simp [Value.cells] at hcs
    obtain ⟨rfl, rfl, rfl⟩ := hcs
    have hx := congrArg Prod.fst hx
    simp only at hx
    have hwt := hw ((elems.length + rest.length) * 32) (by rw [hx]; simp only [DataW.weights, Tryd.underlying27, bytes_tab, List.length_map]; exact List.mem_cons_self)
    have hwa : ∀ k ∈ DataW.weightsAll Tryd.prog 43 (elems.map (·.1)), k ≤ reachBytes := fun k hk => hw k (by rw [hx]; simp only [DataW.weights, Tryd.underlying27]; exact List.mem_cons_of_mem _ (List.mem_append_left _ hk))
    simp only [reachBytes] at hwt
    rcases Nat.eq_zero_or_pos n with h0 | h0
    · subst h0
      exact ⟨some a', 0, c, [], rfl, rfl, by omega, Or.inl rfl, by simp⟩
    · obtain ⟨b, off, spot⟩ := a'
      have h00 := hei 0 h0
      rw [List.getElem?_eq_getElem (by omega), cells_tab] at h00
      obtain ⟨cs0, hc0, _⟩ := Option.bind_eq_some_iff.1 h00
      obtain ⟨_, hcl, hcell⟩ := World.cells?_some hc0
      obtain ⟨c0, c1, rfl⟩ := len2 hcl
      have hc00 := hcell 0 (by omega)
      simp only [List.getElem?_cons_zero] at hc00
      have hspot : spot = none := by simpa [Addr.add] using World.cell?_spot hc00
      subst hspot
      have hb : b < W.heap.size := by
        have := World.cells?_block hc0 (by omega)
        simpa [Addr.add] using this
      obtain ⟨l, hl1, hl2, hl3⟩ := tab_rows n' elems b off (fun i hi => by
        have := hei i (by omega)
        rw [cells_tab, Go.WideShapes.add_plain] at this
        exact this) hwa
      exact ⟨some ⟨b, off, none⟩, n, c, l, rfl, by omega, by omega, Or.inr ⟨b, off, rfl, hb, hl3⟩, hl2⟩
theorem wts0 {P : Program} {t : TypeId} {ts : List TypeId} {d : DataW H} {r : List (DataW H)} (h : (DataW.weightsEach P (t :: ts) (d :: r)).all (· ≤ reachBytes) = true) : ∀ k ∈ d.weights P t, k ≤ reachBytes := fun k hk => by
  simpa using List.all_eq_true.1 h k (by simp only [DataW.weightsEach]; exact List.mem_append_left _ hk)
end
/- the law's long -/
def LgR (l : List Tab) (n : Nat) (w : World) (e : Ending) (w' : World) : Prop := ∃ b : Bool, e = .returned (.bool b) ∧ (b = false → n ≤ 20000 ∧ ∀ x ∈ l, x.1.size ≤ 20000 ∧ x.2.size ≤ 20000) ∧ ∃ m, w' = w.drewN m
set_option maxHeartbeats 1000000 in
theorem long_any (a : Option Addr) (l : List Tab) (n c : Nat) (w : World) (hT : TIn w a n l) :
    Calls Tryd.prog 18 #[.slice a n c] w fun e w' => LgR l n w e w' := by
  have HT := hide hT
  have h5 : (n : Int) ≤ 4398046511104 := by have := hT.most; omega
  clear hT
  go_enter Tryd.func18, Tryd.ntmps18
  go_wp2_with fail
  go_loopw [3, 4] (fun vn vi wr => ∃ (k m : Nat) (N : Int), vi = .int .i64 k ∧ vn = .int .i64 N ∧ wr = w.drewN m ∧ Hid (k ≤ n ∧ (k : Int) ≤ N ∧ N ≤ 500000000000000 ∧ ∀ i x, i < k → l[i]? = some x → (x.1.size : Int) + (x.2.size : Int) ≤ N)) (fun _ vi _ => n - (intOf vi).toNat)
  case atStart => exact ⟨0, 0, 0, rfl, rfl, rfl, hide ⟨by omega, by omega, by omega, fun i x hi => by omega⟩⟩
  case round =>
    obtain ⟨k, m, N, rfl, rfl, rfl, HV⟩ := hrel
    obtain ⟨hk, hN, hN2, hall⟩ := HV.out
    have hk0 : (0 : Int) ≤ (k : Int) := by omega
    have HALL := hide hall
    clear HV hall
    have FIN : Hid (∀ b : Bool, b = decide (20000 < N) → ¬ k < n ∨ 20000 < N → (b = false → n ≤ 20000 ∧ ∀ x ∈ l, x.1.size ≤ 20000 ∧ x.2.size ≤ 20000)) := hide fun b hb hc hf => by
      rw [hb] at hf
      simp at hf
      have hkn : k = n := by omega
      refine ⟨by omega, fun x hx => ?_⟩
      obtain ⟨i, hi, rfl⟩ := List.getElem_of_mem hx
      have hl := HT.out.len
      have := HALL.out i l[i] (by omega) (List.getElem?_eq_getElem hi)
      omega
    by_cases hlt : k < n
    · have hlt' : (k : Int) < (n : Int) := by omega
      by_cases hM : N ≤ 20000
      · have hl := HT.out.len
        obtain ⟨x, hx⟩ : ∃ x, l[k]? = some x := ⟨_, List.getElem?_eq_getElem (by omega)⟩
        rcases HT.out.lst with hz | ⟨p, po, rfl, hp, hcp⟩
        · rw [hz] at hl; simp at hl; omega
        obtain ⟨c0, c1⟩ := hcp k x hx
        obtain ⟨z1, z2⟩ := HT.out.size x (List.mem_of_getElem? hx)
        obtain ⟨x1, x2⟩ := x
        simp only at z1 z2 c0 c1
        have z1' : (x1.size : Int) ≤ 140737488351232 := by omega
        have z2' : (x2.size : Int) ≤ 140737488351232 := by omega
        have REL : Hid (∀ V : Int, V = N + (1 + x2.size + x1.size) → (k + 1 ≤ n ∧ ((k + 1 : Nat) : Int) ≤ V ∧ V ≤ 500000000000000 ∧ ∀ i x, i < k + 1 → l[i]? = some x → (x.1.size : Int) + (x.2.size : Int) ≤ V)) := hide fun V hV => ⟨by omega, by omega, by omega, fun i y hi hy => by
          rcases Nat.lt_or_ge i k with h' | h'
          · have := HALL.out i y h' hy; omega
          · obtain rfl : i = k := by omega
            rw [hx] at hy
            injection hy with hy
            subst hy
            simp only
            omega⟩
        clear hcp hl hx HALL FIN z1 z2
        go_wp2_with fail
        go_quiet (fail)
        go_wp2
        go_roundw
        case rel => exact ⟨k + 1, _, _, by go_num, rfl, rfl, hide (REL.out _ rfl)⟩
        case measure => simp [intOf]; omega
      · have hM' : ¬ N ≤ 20000 := hM
        have hM2 : 20000 < N := by omega
        go_wp2_with fail
        go_ret
        exact ⟨_, rfl, FIN.out _ (by simp; omega) (Or.inr hM2), m, rfl⟩
    · have hlt' : ¬ (k : Int) < (n : Int) := by omega
      have FN := hide (fun b hb => FIN.out b hb (Or.inl hlt))
      clear FIN
      go_wp2_with fail
      go_ret
      exact ⟨_, rfl, FN.out _ (by simp), m, rfl⟩
theorem tcs_at (l : List Tab) : ∀ (i : Nat) (x : Tab), l[i]? = some x → (tcs l)[i * 2]? = some (.string x.1) ∧ (tcs l)[i * 2 + 1]? = some (.string x.2) := by
  induction l with
  | nil => intro i x h; simp at h
  | cons y l ih =>
    intro i x h
    have e : tcs (y :: l) = .string y.1 :: .string y.2 :: tcs l := by unfold tcs; simp
    cases i with
    | zero => simp at h; subst h; rw [e]; exact ⟨rfl, rfl⟩
    | succ i =>
      have := ih i x (by simpa using h)
      rw [e, show (i + 1) * 2 = i * 2 + 1 + 1 by omega]
      simpa using this
theorem tcs_cell {w : World} {b off : Nat} {l : List Tab} (h : ∀ i x, l[i]? = some x → w.cell? ⟨b, off + i * 2, none⟩ = some (.string x.1) ∧ w.cell? ⟨b, off + i * 2 + 1, none⟩ = some (.string x.2)) : ∀ j u, (tcs l)[j]? = some u → w.cell? ⟨b, off + j, none⟩ = some u := by
  intro j u hu
  obtain ⟨i, x, hx, hh⟩ := tcs_get l j u hu
  rcases hh with ⟨rfl, rfl⟩ | ⟨rfl, rfl⟩
  · exact (h i x hx).1
  · exact (h i x hx).2
theorem app_tabs (w : World) (a : Option Addr) (n c H : Nat) (l : List Tab) (hz : l.length = n) (h : n ≤ 100000) (hL : TLst w a l) (hH : w.heap.size = H) :
    ∃ g c' w', (Builtin.append_ #[27, 27] 27 #[.slice (some ⟨H, 0, none⟩) 0 0, .slice a n c]).run Tryd.prog (w.alloc (.cells #[] 43)) = .ok (.slice (some ⟨g, 0, none⟩) n c') w' ∧ TLst w' (some ⟨g, 0, none⟩) l ∧ Below w.heap.size w w' := by
  subst hH
  obtain ⟨i0, hi, hz0, hz1, hz2⟩ := info_parts5 info_tab
  rcases Nat.eq_zero_or_pos n with h0 | h0
  · subst h0
    obtain rfl : l = [] := List.eq_nil_of_length_eq_zero hz
    have hs : Src Tryd.prog i0.size 27 (.slice a 0 c) 0 [] (w.alloc (.cells #[] 43)) := by
      cases a with
      | none => exact Src.ofNil _ Tryd.underlying27 c
      | some x => exact Src.ofSlice _ Tryd.underlying27 x 0 c [] (by simp) (by simp) (by simp)
    have hr := run_append_room_src (P := Tryd.prog) (w.alloc (.cells #[] 43)) 27 27 27 43 i0 Tryd.underlying27 hi w.heap.size 0 0 0 _ 0 [] hs (by omega) (by simp) (by simp)
    refine ⟨w.heap.size, 0, w.alloc (.cells #[] 43), by simpa [World.setCells] using hr, Or.inl rfl, (Below.refl _ _).alloc (Nat.le_refl _) _⟩
  · rcases hL with hz' | ⟨b, off, rfl, hb, hcell⟩
    · rw [hz'] at hz; simp at hz; omega
    have hs : Src Tryd.prog i0.size 27 (.slice (some ⟨b, off, none⟩) n c) n (tcs l) (w.alloc (.cells #[] 43)) := by
      refine Src.ofSlice (w.alloc (.cells #[] 43)) Tryd.underlying27 ⟨b, off, none⟩ n c _ (by rw [hz1, tcs_len, hz]) ?_ (tcs_one l)
      intro j u hu
      rw [Go.WideShapes.add_plain, World.cell?_alloc_lt _ _ _ hb]
      exact tcs_cell hcell j u hu
    have hr := run_append_grow_src (P := Tryd.prog) (w.alloc (.cells #[] 43)) 27 27 27 43 i0 (.agg #[.string ⟨#[]⟩, .string ⟨#[]⟩]) Tryd.underlying27 hi hz0 (some ⟨w.heap.size, 0, none⟩) 0 0 [] (run_firstCells_some _ i0.size 0 _ 0 0 [] (by simp) (by simp)) _ n _ hs (by omega) (by omega)
      (by rw [hz2]; have := growslice_fits (need := 0 + n) (old := 0) (bytes := 32) (by omega) (by omega); exact this)
    simp only [Nat.zero_add, List.nil_append] at hr
    have hs2 : (w.alloc (.cells #[] 43)).heap.size = w.heap.size + 1 := by simp
    rw [hs2] at hr
    have b1 : Below w.heap.size w ((w.alloc (.cells #[] 43)).drew) := ((Below.refl _ _).alloc (Nat.le_refl _) _).drew
    have hsz : ((w.alloc (.cells #[] 43)).drew).heap.size = w.heap.size + 1 := by simp
    refine ⟨_, _, _, hr, Or.inr ⟨w.heap.size + 1, 0, rfl, by simp, fun i x hi => ?_⟩, b1.alloc (by rw [hsz]; omega) _⟩
    obtain ⟨g1, g2⟩ := tcs_at l i x hi
    have l1 := (List.getElem?_eq_some_iff.1 g1).1
    have l2 := (List.getElem?_eq_some_iff.1 g2).1
    rw [Nat.zero_add, World.cell?_alloc_at _ _ _ _ hsz.symm, World.cell?_alloc_at _ _ _ _ hsz.symm]
    rw [Array.getElem?_append_left (by simpa using l1), Array.getElem?_append_left (by simpa using l2)]
    simpa using And.intro g1 g2
end Go.Proofs.YtgmmhlpdkoiheaaDoor
