/-
  Lists of texts that came in; the law GlyphJoins, walked.
-/
import Derived.Test.YtjacjdglklcijaaDoorG10Jr
import Derived.Test.YtjacjdglklcijaaDoorG10Wk
import Derived.SliceStrings
import Derived.SizedLaws
import Derived.Deep.AppendSrc
namespace Go.Proofs.YtjacjdglklcijaaDoor
open Go.ChangeShapes Go.WideShapes Go.RowKit Go.Deep
set_option linter.unusedVariables false
set_option linter.unusedSimpArgs false

theorem cells_str : Tryd.prog.cellsOf 9 = 1 := by kernel_rfl
theorem bytes_str : Tryd.prog.bytesOf 9 = 16 := by kernel_rfl
structure SIn (w : World) (a : Option Addr) (n : Nat) (l : List ByteArray) : Prop where
  len : l.length = n
  most : n ≤ 8796093022208
  lst : SLst w a l
  size : ∀ x ∈ l, x.size ≤ 140737488351232
section
variable {H : Type} {enc : TypeId × Value → H} {W : World} {base : Nat} {sp : Nat → Bool} {held : Bool}
theorem str_rows (n : Nat) : ∀ (es : List (DataW H × List MemPlace)) (b off : Nat), (∀ i, i < es.length → (W.cells? base ⟨b, off + i, none⟩ 1).bind (DataW.trod enc Tryd.prog W base sp held n 9) = es[i]?) →
    (∀ k ∈ DataW.weightsAll Tryd.prog 9 (es.map (·.1)), k ≤ reachBytes) → ∃ l : List ByteArray, l.length = es.length ∧ (∀ x ∈ l, x.size ≤ 140737488351232) ∧
      ∀ i, i < l.length → W.cell? ⟨b, off + i, none⟩ = some (.string (l.getD i ⟨#[]⟩))
  | [], _, _, _, _ => ⟨[], rfl, by simp, by simp⟩
  | e :: es, b, off, h, hw => by
    have h0 := h 0 (by simp)
    simp only [Nat.add_zero, List.getElem?_cons_zero] at h0
    obtain ⟨cs, hc, ht⟩ := Option.bind_eq_some_iff.1 h0
    simp only [List.map_cons, DataW.weightsAll] at hw
    obtain ⟨s, e0, f0, _⟩ := DataW.trod_string Tryd.underlying9 ht
    obtain ⟨l, hl, hs, hR⟩ := str_rows n es b (off + 1) (fun i hi => by
      have := h (i + 1) (by simp; omega)
      rw [show off + (i + 1) = off + 1 + i by omega] at this
      simpa using this) (fun k hk => hw k (List.mem_append_right _ hk))
    obtain ⟨_, _, hcell⟩ := World.cells?_some hc
    have g := hcell 0 (by omega)
    rw [Go.WideShapes.add_plain, Nat.add_zero, e0] at g
    have hsz : s.size ≤ 140737488351232 := by
      have h1 := hw s.data.toList.length (List.mem_append_left _ (by rw [f0]; simp [DataW.weights, Tryd.underlying9]))
      unfold reachBytes at h1
      rw [← Lib.size_eq] at h1
      omega
    refine ⟨s :: l, by simp [hl], fun x hx => ?_, fun i hi => ?_⟩
    · rcases List.mem_cons.1 hx with rfl | hx
      · exact hsz
      · exact hs x hx
    · cases i with
      | zero => rw [Nat.add_zero]; simpa using g
      | succ i =>
        have := hR i (by simpa using hi)
        rw [show off + (i + 1) = off + 1 + i by omega]
        simpa using this
variable {r : Reach} {b0 : Nat} {v : Value} {d : DataW H} {pl : List MemPlace}
theorem open_strs (hv : Value.okWide Tryd.prog W r b0 22 v) (h : DataW.Trod enc Tryd.prog W base sp held 22 v d pl) (hw : ∀ k ∈ d.weights Tryd.prog 22, k ≤ reachBytes) :
    ∃ a n c l, v = .slice a n c ∧ SIn W a n l := by
  obtain ⟨a, n, c, rfl⟩ := okWide_slice Tryd.underlying22 hv
  obtain ⟨fuel, hf⟩ := h
  rcases DataW.trod_slice Tryd.underlying22 hf with ⟨hcs, _⟩ | ⟨a', len, cap, elems, rest, n', hn', hcs, hx, _, hl, hmx, hel, hei, _, _⟩
  · simp [Value.cells] at hcs
    obtain ⟨rfl, rfl, rfl⟩ := hcs
    exact ⟨none, 0, 0, [], rfl, rfl, by omega, Or.inl rfl, by simp⟩
  · simp [Value.cells] at hcs
    obtain ⟨rfl, rfl, rfl⟩ := hcs
    have hx := congrArg Prod.fst hx
    simp only at hx
    have hwt := hw ((elems.length + rest.length) * 16) (by rw [hx]; simp only [DataW.weights, Tryd.underlying22, bytes_str, List.length_map]; exact List.mem_cons_self)
    have hwa : ∀ k ∈ DataW.weightsAll Tryd.prog 9 (elems.map (·.1)), k ≤ reachBytes := fun k hk => hw k (by rw [hx]; simp only [DataW.weights, Tryd.underlying22]; exact List.mem_cons_of_mem _ (List.mem_append_left _ hk))
    simp only [reachBytes] at hwt
    rcases Nat.eq_zero_or_pos n with h0 | h0
    · subst h0
      exact ⟨some a', 0, c, [], rfl, rfl, by omega, Or.inl rfl, by simp⟩
    · obtain ⟨b, off, spot⟩ := a'
      have h00 := hei 0 h0
      rw [List.getElem?_eq_getElem (by omega), cells_str] at h00
      obtain ⟨cs0, hc0, _⟩ := Option.bind_eq_some_iff.1 h00
      obtain ⟨_, hcl, hcell⟩ := World.cells?_some hc0
      have hc00 := hcell 0 (by omega)
      have hspot : spot = none := by
        cases cs0 with
        | nil => simp at hcl
        | cons y ys =>
          simp only [List.getElem?_cons_zero] at hc00
          simpa [Addr.add] using World.cell?_spot hc00
      subst hspot
      have hb : b < W.heap.size := by
        have := World.cells?_block hc0 (by omega)
        simpa [Addr.add] using this
      obtain ⟨l, hl1, hl2, hl3⟩ := str_rows n' elems b off (fun i hi => by
        have := hei i (by omega)
        rw [cells_str, Nat.mul_one, Go.WideShapes.add_plain] at this
        exact this) hwa
      exact ⟨some ⟨b, off, none⟩, n, c, l, rfl, by omega, by omega, Or.inr ⟨b, off, rfl, hb, hl3⟩, hl2⟩
theorem wts0 {P : Program} {t : TypeId} {ts : List TypeId} {d : DataW H} {r : List (DataW H)} (h : (DataW.weightsEach P (t :: ts) (d :: r)).all (· ≤ reachBytes) = true) : ∀ k ∈ d.weights P t, k ≤ reachBytes := fun k hk => by
  simpa using List.all_eq_true.1 h k (by simp only [DataW.weightsEach]; exact List.mem_append_left _ hk)
end
/- the law's long -/
def totS (l : List ByteArray) : Nat := (l.map (·.size)).sum
theorem totS_take (l : List ByteArray) (k : Nat) (h : k < l.length) : totS (l.take (k + 1)) = totS (l.take k) + (l.getD k ⟨#[]⟩).size := by
  rw [take_s l k h]; unfold totS; simp
theorem jg_le : ∀ ss : List ByteArray, (jg ss).length ≤ totS ss + 3 * ss.length
  | [] => by simp [jg, totS]
  | s :: ss => by
    have h := jg_le ss
    have e : (jg (s :: ss)).length = (pdT s.data.toList).length + (jg ss).length := by unfold jg; simp
    rw [e, pdT_len, ← Lib.size_eq, List.length_cons]
    have : lck s.size ≤ 3 := by unfold lck; omega
    have e2 : totS (s :: ss) = s.size + totS ss := by unfold totS; simp
    omega
def LgS (l : List ByteArray) (n : Nat) (w : World) (e : Ending) (w' : World) : Prop := ∃ b : Bool, e = .returned (.bool b) ∧ (b = false → n ≤ 5000 ∧ totS l ≤ 20000) ∧ w' = w
set_option maxHeartbeats 1000000 in
theorem long_any (a : Option Addr) (l : List ByteArray) (n c : Nat) (w : World) (hT : SIn w a n l) :
    Calls Tryd.prog 5 #[.slice a n c] w (LgS l n w) := by
  have HT := hide hT
  have h5 : (n : Int) ≤ 8796093022208 := by have := hT.most; omega
  clear hT
  go_enter Tryd.func5, Tryd.ntmps5
  go_wp2_with fail
  go_loop [3, 4] (fun vn vi => ∃ (k N : Nat), vi = .int .i64 k ∧ vn = .int .i64 (N : Int) ∧ Hid (k ≤ n ∧ N = totS (l.take k) ∧ N ≤ 500000000000000)) (fun _ vi => n - (intOf vi).toNat)
  case atStart => exact ⟨0, 0, rfl, rfl, hide ⟨by omega, rfl, by omega⟩⟩
  case round =>
    obtain ⟨k, N, rfl, rfl, HV⟩ := hrel
    obtain ⟨hk, hN, hN2⟩ := HV.out
    have hk0 : (0 : Int) ≤ (k : Int) := by omega
    have hN0 : (0 : Int) ≤ (N : Int) := by omega
    have hN3 : (N : Int) ≤ 500000000000000 := by omega
    have HNN := hide hN
    clear HV hN
    by_cases hlt : k < n
    · have hlt' : (k : Int) < (n : Int) := by omega
      by_cases hM : N ≤ 20000
      · have hM' : (N : Int) ≤ 20000 := by omega
        have hl := HT.out.len
        rcases HT.out.lst with hz | ⟨p, po, rfl, hp, hcp⟩
        · rw [hz] at hl; simp at hl; omega
        have c0 := hcp k (by omega)
        have z1 := HT.out.size (l.getD k ⟨#[]⟩) (by rw [List.getD_eq_getElem?_getD, List.getElem?_eq_getElem (by omega)]; exact List.getElem_mem _)
        have st := totS_take l k (by omega)
        obtain ⟨x, hx⟩ : ∃ x, l.getD k ⟨#[]⟩ = x := ⟨_, rfl⟩
        rw [hx] at c0 z1 st
        have z1' : (x.size : Int) ≤ 140737488351232 := by omega
        have ST := hide st
        clear hcp hl hx z1 st
        go_wp2_with fail
        go_round
        case rel => exact ⟨k + 1, N + x.size, by go_num, by go_num, hide ⟨by omega, by rw [ST.out, HNN.out], by omega⟩⟩
        case measure => simp [intOf]; omega
      · have hM' : ¬ (N : Int) ≤ 20000 := by omega
        have hM2 : (20000 : Int) < (N : Int) := by omega
        go_wp2_with fail
        go_ret
        exact ⟨true, rfl, (fun h => by cases h), rfl⟩
    · have hlt' : ¬ (k : Int) < (n : Int) := by omega
      have eT : N = totS l := by rw [HNN.out, List.take_of_length_le (by have := HT.out.len; omega)]
      have ET := hide eT
      clear eT HNN
      by_cases hM : 20000 < N
      · have hM' : (20000 : Int) < (N : Int) := by omega
        go_wp2_with fail
        go_ret
        exact ⟨true, rfl, (fun h => by cases h), rfl⟩
      · have hM' : ¬ (20000 : Int) < (N : Int) := by omega
        by_cases h6 : 5000 < n
        · have h6' : (5000 : Int) < (n : Int) := by omega
          go_wp2_with fail
          go_ret
          exact ⟨true, rfl, (fun h => by cases h), rfl⟩
        · have h6' : ¬ (5000 : Int) < (n : Int) := by omega
          go_wp2_with fail
          go_ret
          exact ⟨false, rfl, fun _ => ⟨by omega, by have := ET.out; omega⟩, rfl⟩
/- a copy of texts -/
theorem newCellS (zs : List ByteArray) (i : Nat) (h : i < zs.length) (rest : Array Value) : (((zs.map Value.string).toArray ++ rest)[i]?) = some (.string (zs.getD i ⟨#[]⟩)) := by
  rw [Array.getElem?_append_left (by simpa using h)]
  simp [List.getElem?_eq_getElem h, List.getD_eq_getElem?_getD]
theorem app_copyS (w : World) (a : Option Addr) (n c H : Nat) (zs : List ByteArray) (hz : zs.length = n) (h : n ≤ 100000) (hL : SLst w a zs) (hH : w.heap.size = H) :
    ∃ g c' w', (Builtin.append_ #[22, 22] 22 #[.slice (some ⟨H, 0, none⟩) 0 0, .slice a n c]).run Tryd.prog (w.alloc (.cells #[] 9)) = .ok (.slice (some ⟨g, 0, none⟩) n c') w' ∧ SLst w' (some ⟨g, 0, none⟩) zs ∧ Below w.heap.size w w' := by
  subst hH
  obtain ⟨i0, hi, hz0, hz1, hz2⟩ := info_parts5 info_str
  rcases Nat.eq_zero_or_pos n with h0 | h0
  · subst h0
    obtain rfl : zs = [] := List.eq_nil_of_length_eq_zero hz
    have hs : Src Tryd.prog i0.size 22 (.slice a 0 c) 0 [] (w.alloc (.cells #[] 9)) := by
      cases a with
      | none => exact Src.ofNil _ Tryd.underlying22 c
      | some x => exact Src.ofSlice _ Tryd.underlying22 x 0 c [] (by simp) (by simp) (by simp)
    have hr := run_append_room_src (P := Tryd.prog) (w.alloc (.cells #[] 9)) 22 22 22 9 i0 Tryd.underlying22 hi w.heap.size 0 0 0 _ 0 [] hs (by omega) (by simp) (by simp)
    refine ⟨w.heap.size, 0, w.alloc (.cells #[] 9), by simpa [World.setCells] using hr, Or.inl rfl, (Below.refl _ _).alloc (Nat.le_refl _) _⟩
  · rcases hL with hz' | ⟨b, off, rfl, hb, hcell⟩
    · rw [hz'] at hz; simp at hz; omega
    have hs : Src Tryd.prog i0.size 22 (.slice (some ⟨b, off, none⟩) n c) n (zs.map Value.string) (w.alloc (.cells #[] 9)) := by
      refine Src.ofSlice (w.alloc (.cells #[] 9)) Tryd.underlying22 ⟨b, off, none⟩ n c _ (by rw [hz1]; simp [hz]) ?_ (fun u hu => by obtain ⟨x, _, rfl⟩ := List.mem_map.1 hu; rfl)
      intro j u hu
      have hj : j < zs.length := by
        have := List.getElem?_eq_some_iff.1 hu
        simpa using this.1
      rw [Go.WideShapes.add_plain, World.cell?_alloc_lt _ _ _ hb, hcell j hj]
      rw [List.getElem?_map, List.getElem?_eq_getElem hj] at hu
      simp at hu
      rw [← hu, List.getD_eq_getElem?_getD, List.getElem?_eq_getElem hj]
      rfl
    have hr := run_append_grow_src (P := Tryd.prog) (w.alloc (.cells #[] 9)) 22 22 22 9 i0 (.string ⟨#[]⟩) Tryd.underlying22 hi hz0 (some ⟨w.heap.size, 0, none⟩) 0 0 [] (run_firstCells_some _ i0.size 0 _ 0 0 [] (by simp) (by simp)) _ n _ hs (by omega) (by omega)
      (by rw [hz2]; have := growslice_fits (need := 0 + n) (old := 0) (bytes := 16) (by omega) (by omega); exact this)
    simp only [Nat.zero_add, List.nil_append] at hr
    have hs2 : (w.alloc (.cells #[] 9)).heap.size = w.heap.size + 1 := by simp
    rw [hs2] at hr
    have b1 : Below w.heap.size w ((w.alloc (.cells #[] 9)).drew) := ((Below.refl _ _).alloc (Nat.le_refl _) _).drew
    have hsz : ((w.alloc (.cells #[] 9)).drew).heap.size = w.heap.size + 1 := by simp
    refine ⟨_, _, _, hr, Or.inr ⟨w.heap.size + 1, 0, rfl, by simp, fun i hi => ?_⟩, b1.alloc (by rw [hsz]; omega) _⟩
    rw [Nat.zero_add, World.cell?_alloc_at _ _ _ _ hsz.symm, newCellS zs i hi]
set_option maxRecDepth 8000 in
set_option maxHeartbeats 2000000 in
theorem joins_walk (a : Option Addr) (n c : Nat) (ss : List ByteArray) (w : World) (hS : SIn w a n ss) :
    Calls Tryd.prog 3 #[.slice a n c] w fun e w' => e = .returned (.bool true) ∧ Below w.heap.size w w' := by
  have CL := hide (long_any a ss n c w hS)
  have CWk := hide wakes_any
  have hn := hS.len
  have hLs := hS.lst
  have HS := hide hS
  go_enter Tryd.func3, Tryd.ntmps3
  go_wp2_with fail
  refine CL.out.mono ?_
  rintro e w0 ⟨bb, rfl, hbb, hw0⟩
  subst hw0
  cases bb with
  | true =>
    clear hbb hn hLs
    go_wp2_with fail
    refine (CWk.out _).mono ?_
    rintro e w1 ⟨rfl, h1⟩
    have H1 := hide h1
    clear h1
    go_wp2_with fail
    go_ret
    exact ⟨rfl, H1.out⟩
  | false =>
    obtain ⟨b1, b2⟩ := hbb rfl
    have hjg : (jg ss).length ≤ 1048576 := by have := jg_le ss; omega
    obtain ⟨g, c', w1, hr, l1, hb1⟩ := app_copyS w0 a n c w0.heap.size ss hn (by omega) hLs rfl
    have HRU := hide hr
    have C1 := hide (join_any (some ⟨g, 0, none⟩) ss n c' w1 hn (by omega) hjg l1)
    have C2 := hide (fun w2 (hb : Below w1.heap.size w1 w2) => rjoin_any a ss n c w2 hn (by omega) hjg ((hLs.below hb1).below hb))
    have CS := hide (fun w2 (hb : Below w1.heap.size w1 w2) => ktexts_any (some ⟨g, 0, none⟩) a n c' c ss w2 hn (by omega) (l1.below hb) ((hLs.below hb1).below hb))
    have HB1 := hide hb1
    obtain ⟨T1, T2, er, hRn⟩ : ∃ (T1 T2 : ByteArray) (er : Int), ∀ w e w', JnR w ss e w' → e = .returned (.tuple #[.string T1, .string T2, .int .i64 er]) ∧ Below w.heap.size w w' := by
      by_cases hc : 1 ≤ ss.length ∧ ss.length ≤ 4096
      · exact ⟨_, _, 0, fun w e w' h => by unfold JnR at h; rw [if_pos hc] at h; exact h⟩
      · exact ⟨_, _, 100, fun w e w' h => by unfold JnR at h; rw [if_neg hc] at h; exact h⟩
    replace C1 := hide (C1.out.mono fun e w' h => hRn _ e w' h)
    replace C2 := hide (fun w2 (hb : Below w1.heap.size w1 w2) => (C2.out w2 hb).mono fun e w' h => hRn _ e w' h)
    have heq : (T1.toList == T1.toList) = true := by simp
    have heq1 : (T2.toList == T2.toList) = true := by simp
    have heq2 : (er == er) = true := by simp
    clear hbb b1 b2 hjg hr l1 hb1 hn hLs hRn
    go_wp2_with (at_builtin; refine Lib.wpList_append_run _ rfl _ _ _ _ rfl _ _ rfl rfl _ _ HRU.out ?_)
    refine C1.out.mono ?_
    rintro e w2 ⟨rfl, h3⟩
    have HX2 := hide h3
    clear h3
    go_wp2_with fail
    refine (C2.out _ HX2.out).mono ?_
    rintro e w3 ⟨rfl, h4⟩
    have HX3 := hide (HX2.out.trans (h4.mono HX2.out.size))
    clear h4
    go_wp2_with fail
    refine (CS.out _ HX3.out).mono ?_
    rintro e w4 ⟨rfl, m, hw4⟩
    subst hw4
    have HX4 := hide (HB1.out.trans ((below_drewN HX3.out m).mono HB1.out.size))
    go_wp2_with fail
    refine (CWk.out _).mono ?_
    rintro e w5 ⟨rfl, h6⟩
    have HX5 := hide (HX4.out.trans (h6.mono HX4.out.size))
    clear h6
    go_wp2_with fail
    go_ret
    exact ⟨rfl, HX5.out⟩
end Go.Proofs.YtjacjdglklcijaaDoor
