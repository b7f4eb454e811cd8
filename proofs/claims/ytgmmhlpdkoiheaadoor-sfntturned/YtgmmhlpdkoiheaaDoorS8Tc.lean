/-
  Tables cloned (slices.Clone) and sorted by their tags (slices.SortFunc with the landed Build's own comparison), any number of them.
-/
import Derived.Test.YtgmmhlpdkoiheaaDoorS8Tp
import Derived.Test.YtgmmhlpdkoiheaaDoorS8Bld
import Derived.Test.YtgmmhlpdkoiheaaDoorShelfS
namespace Go.Proofs.YtgmmhlpdkoiheaaDoor
open Go.RowKit Go.Deep
set_option linter.unusedVariables false
set_option linter.unusedSimpArgs false

theorem tcs_get : ∀ (l : List Tab) (j : Nat) (u : Value), (tcs l)[j]? = some u → ∃ i x, l[i]? = some x ∧ ((j = i * 2 ∧ u = .string x.1) ∨ (j = i * 2 + 1 ∧ u = .string x.2))
  | [], j, u, h => by simp [tcs] at h
  | x :: l, 0, u, h => by
    have e : tcs (x :: l) = .string x.1 :: .string x.2 :: tcs l := by unfold tcs; simp
    rw [e] at h
    simp at h
    exact ⟨0, x, rfl, Or.inl ⟨rfl, h.symm⟩⟩
  | x :: l, 1, u, h => by
    have e : tcs (x :: l) = .string x.1 :: .string x.2 :: tcs l := by unfold tcs; simp
    rw [e] at h
    simp at h
    exact ⟨0, x, rfl, Or.inr ⟨rfl, h.symm⟩⟩
  | x :: l, j + 2, u, h => by
    have e : tcs (x :: l) = .string x.1 :: .string x.2 :: tcs l := by unfold tcs; simp
    rw [e] at h
    simp at h
    obtain ⟨i, y, hy, hh⟩ := tcs_get l j u h
    refine ⟨i + 1, y, by simpa using hy, ?_⟩
    rcases hh with ⟨h1, h2⟩ | ⟨h1, h2⟩
    · exact Or.inl ⟨by omega, h2⟩
    · exact Or.inr ⟨by omega, h2⟩
set_option maxRecDepth 8000 in
theorem clones_any (g o c n : Nat) (l : List Tab) (w : World) (hn : l.length = n) (h1 : 1 ≤ n) (h2 : n ≤ 1000) (hg : g < w.heap.size)
    (hL : ∀ i x, l[i]? = some x → w.cell? ⟨g, o + i * 2, none⟩ = some (.string x.1) ∧ w.cell? ⟨g, o + i * 2 + 1, none⟩ = some (.string x.2)) :
    Calls Tryd.prog 33 #[.slice (some ⟨g, o, none⟩) n c] w fun e w' => ∃ b cap, e = .returned (.slice (some ⟨b, 0, none⟩) n cap) ∧ TbRow w' w.heap.size (.slice (some ⟨b, 0, none⟩) n cap) l ∧ Below w.heap.size w w' := by
  obtain ⟨i0, hi, hz0, hz1, hz2⟩ := info_parts5 info_tab
  have hal := (Below.refl w.heap.size w).alloc (Nat.le_refl _) (.cells #[] 43)
  have hnil : (w.alloc (.cells #[] 43)).ownsRow w.heap.size 43 2 (.slice (some ⟨w.heap.size, 0, none⟩) 0 0) 0 [] :=
    ⟨rfl, Or.inr ⟨w.heap.size, 0, #[], rfl, Nat.le_refl _, heap_alloc_new w _, Nat.le_refl _, by unfold maxLen; omega, rfl, rfl⟩⟩
  obtain ⟨b, cap, w2, hr, ho, hgr, _, _⟩ := run_append_lies (P := Tryd.prog) (w.alloc (.cells #[] 43)) 27 27 w.heap.size 43 i0 _ 2 32 Tryd.underlying27 hi hz0 hz1 hz2 rfl (by decide) (.slice (some ⟨w.heap.size, 0, none⟩) 0 0) 0 [] hnil ⟨g, o, none⟩ n c (tcs l) (by rw [tcs_len, hn])
    (fun j u hu => by
      rw [Go.WideShapes.add_plain, hal.cell (p := ⟨g, o + j, none⟩) hg]
      obtain ⟨i, x, hx, hh⟩ := tcs_get l j u hu
      rcases hh with ⟨rfl, rfl⟩ | ⟨rfl, rfl⟩
      · exact (hL i x hx).1
      · exact (hL i x hx).2) (tcs_one l) (by omega) (by unfold maxLen; omega) (by omega) (by simp) (w.heap.size + 1) (by simp)
  simp only [Nat.zero_add, List.nil_append] at hr ho
  have HR := hide hr
  have HB := hide (hal.grown hgr (by simp) fun k hk' => (World.ownsRow.lt hnil k hk').1)
  have HO := hide (show TbRow w2 w.heap.size (.slice (some ⟨b, 0, none⟩) n cap) l by unfold TbRow; rw [hn]; exact ho)
  have hnl := fun (w : World) => run_eql_slice_nil (P := Tryd.prog) w 27 43 (some ⟨g, o, none⟩) n c Tryd.underlying27
  clear hr hgr ho hnil hal hL
  go_enter Tryd.func33, Tryd.ntmps33
  go_wp2_with (at_builtin; refine Lib.wpList_append_run _ rfl _ _ _ _ rfl _ _ rfl rfl _ _ HR.out ?_)
  go_ret
  exact ⟨_, _, rfl, HO.out, HB.out⟩
/- the comparison -/
def cfT (x y : Tab) : Int := Lib.compareBytes x.1.data.toList y.1.data.toList
theorem cmp_less : ∀ (a b : List UInt8), decide (Lib.compareBytes a b < 0) = Op.bytesLess a b
  | [], [] => by simp [Lib.compareBytes, Op.bytesLess]
  | [], b :: y => by simp [Lib.compareBytes, Op.bytesLess]
  | a :: x, [] => by simp [Lib.compareBytes, Op.bytesLess]
  | a :: x, b :: y => by
    have ih := cmp_less x y
    rw [Lib.compareBytes, Op.bytesLess]
    by_cases h1 : a < b
    · simp [h1]
    · by_cases h2 : b < a
      · have h3 : ¬ a = b := fun e => by subst e; exact h1 h2
        simp [h1, h2, h3]
      · have h3 : a = b := by
          rw [UInt8.lt_iff_toNat_lt] at h1 h2
          exact UInt8.toNat_inj.1 (by omega)
        subst h3
        simp [h1, ih]
theorem lt_cf (x y : Tab) : ltOf cfT x y = Op.bytesLess x.1.toList y.1.toList := by
  unfold ltOf cfT
  rw [cmp_less, Lib.toList_data, Lib.toList_data]
theorem swoT : Sort.SWO (ltOf cfT) := {
  irrefl := fun x => by rw [lt_cf]; exact less_irrefl _
  trans := fun x y z h1 h2 => by rw [lt_cf] at *; exact less_trans _ _ _ h1 h2
  ntrans := fun x y z h1 h2 => by rw [lt_cf] at *; exact less_nt h1 h2 }
def encT (x : Tab) : List Value := [.string x.1, .string x.2]
theorem strcmp_any (a b : ByteArray) (w : World) : Calls Tryd.prog 36 #[.string a, .string b] w fun e w' => e = .returned (.int .i64 (Lib.compareBytes a.data.toList b.data.toList)) ∧ w' = w := Any.strings_Compare lays106 a b w
set_option maxHeartbeats 1000000 in
theorem clo_any (x y : Tab) (W : World) : Calls Tryd.prog 35 #[.agg #[.string x.1, .string x.2], .agg #[.string y.1, .string y.2]] W fun e w' => e = .returned (.int .i64 (cfT x y)) ∧ ∃ q os', w' = Sort.grow (W.drewN q) os' := by
  obtain ⟨x1, x2⟩ := x
  obtain ⟨y1, y2⟩ := y
  have C := hide (fun w => strcmp_any x1 y1 w)
  have e : cfT (x1, x2) (y1, y2) = Lib.compareBytes x1.data.toList y1.data.toList := rfl
  rw [e]
  generalize Lib.compareBytes x1.data.toList y1.data.toList = R at C
  clear e
  go_enter Tryd.func35, Tryd.ntmps35
  go_wp2_with (go_at_call 36; refine (C.out _).mono ?_; rintro e w' ⟨rfl, hw'⟩; replace hw' := hw'.symm; subst hw')
  go_ret
  exact ⟨rfl, 0, _, by rw [Sort.alloc_eq_grow, Sort.alloc_eq_grow, Sort.grow_grow]; rfl⟩
instance : Inhabited Tab := ⟨tz⟩
theorem isAgg_tab : ∀ w, (isAgg 43).run Tryd.prog w = .ok true w := fun w => Tryd.isAgg43 w
theorem sizeOf_tab : ∀ w, (Go.sizeOf 43).run Tryd.prog w = .ok 2 w := fun w => Tryd.sizeOf43 w
theorem flat_tcs (m : List Tab) : ∀ j, j < m.length * 2 → (tcs m)[j]? = some ((encT (m.toArray)[j / 2]!)[j % 2]!) := by
  intro j hj
  obtain ⟨u, hu⟩ : ∃ u, (tcs m)[j]? = some u := ⟨_, List.getElem?_eq_getElem (by rw [tcs_len]; exact hj)⟩
  rw [hu]
  obtain ⟨i, x, hx, hh⟩ := tcs_get m j u hu
  obtain ⟨hil, hxe⟩ := List.getElem?_eq_some_iff.1 hx
  rcases hh with ⟨rfl, rfl⟩ | ⟨rfl, rfl⟩
  · have e : (m.toArray)[i * 2 / 2]! = x := by rw [Nat.mul_div_cancel _ (by omega)]; simp [hil, hxe]
    rw [e, Nat.mul_mod_left]; rfl
  · have e : (m.toArray)[(i * 2 + 1) / 2]! = x := by rw [show (i * 2 + 1) / 2 = i by omega]; simp [hil, hxe]
    rw [e, show (i * 2 + 1) % 2 = 1 by omega]; rfl
theorem TbRow.holds {w : World} {B b cap n : Nat} {l : List Tab} (h : TbRow w B (.slice (some ⟨b, 0, none⟩) n cap) l) (hn : l.length = n) : Sort.HoldsK encT 2 w b 0 l.toArray := by
  unfold TbRow at h
  intro j hj
  rw [Sort.size_flatK, List.size_toArray] at hj
  rw [Sort.get_flatK _ _ _ _ (by simpa using hj), Nat.zero_add]
  rw [hn] at h
  refine ⟨?_, h.frozenAt j⟩
  rw [World.ownsRow.cellAt h j (by omega), flat_tcs l j hj]; rfl
theorem TbRow.sorted {w : World} {B b cap n N : Nat} {l m : List Tab} {os : Array Obj} (h : TbRow w B (.slice (some ⟨b, 0, none⟩) n cap) l) (hn : l.length = n) (hm : m.length = n) :
    TbRow (sortWorldK encT 2 w b 0 N m.toArray os) B (.slice (some ⟨b, 0, none⟩) n cap) m ∧ Below B w (sortWorldK encT 2 w b 0 N m.toArray os) := by
  have hH := h.holds hn
  unfold TbRow at *
  rw [hn] at h
  rw [hm]
  obtain ⟨hxl, ⟨h0, _⟩ | ⟨g', cap', cur, hv, hbg, hgc, hnc, hcm, hcs, htake⟩⟩ := h
  · cases h0
  injection hv with hv1 hv2 hv3
  injection hv1 with hv1
  injection hv1 with hv1
  subst hv1
  subst hv3
  have hlt : b < w.heap.size := by
    rcases Nat.lt_or_ge b w.heap.size with h | h
    · exact h
    · rw [Array.getElem?_eq_none h] at hgc; cases hgc
  obtain ⟨F, hF⟩ : ∃ F, Sort.flatK encT 2 m.toArray = F := ⟨_, rfl⟩
  have hFs : F.size = n * 2 := by rw [← hF, Sort.size_flatK, List.size_toArray, hm]
  have hblk : (sortWorldK encT 2 w b 0 N m.toArray os).heap[b]? = some (.cells (Sort.putCells id 0 F cur) 43 (0, 0)) := by
    unfold sortWorldK Sort.grow Sort.putRowK Sort.putRow Sort.mapBlock Sort.ahead
    rw [hF]
    simp only
    rw [Array.getElem?_append_left (by simpa using hlt), Array.getElem?_modify, if_pos rfl, hgc]
    rfl
  constructor
  · refine ⟨by rw [tcs_len, hm], Or.inr ⟨b, cap, _, rfl, hbg, hblk, hnc, hcm, by unfold Sort.putCells; rw [Array.size_mapIdx]; exact hcs, ?_⟩⟩
    apply List.ext_getElem?
    intro j
    rcases Nat.lt_or_ge j (n * 2) with hj | hj
    · rw [List.getElem?_take_of_lt hj, flat_tcs m j (by rw [hm]; exact hj), Array.getElem?_toList]
      unfold Sort.putCells
      rw [Array.getElem?_mapIdx, Array.getElem?_eq_getElem (by rw [hcs]; omega)]
      simp only [Option.map_some, Nat.zero_le, true_and, Nat.zero_add, hFs, hj, if_true, Nat.sub_zero, id]
      rw [← hF, Sort.get_flatK _ _ _ _ (by simp; omega)]
    · rw [List.getElem?_take_eq_none hj, List.getElem?_eq_none (by rw [tcs_len, hm]; exact hj)]
  · refine ⟨rfl, rfl, rfl, ?_, fun k hk => ?_⟩
    · unfold sortWorldK Sort.grow Sort.putRowK Sort.putRow Sort.mapBlock Sort.ahead
      simp
    · unfold sortWorldK Sort.grow Sort.putRowK Sort.putRow Sort.mapBlock Sort.ahead
      simp only
      rw [Array.getElem?_append_left (by simp; omega), Array.getElem?_modify, if_neg (by omega)]
theorem sort_any (B b cap n : Nat) (l : List Tab) (w : World) (h : TbRow w B (.slice (some ⟨b, 0, none⟩) n cap) l) (hn : l.length = n) (h2 : n ≤ 1000) :
    Calls Tryd.prog 34 #[.slice (some ⟨b, 0, none⟩) n cap, .func (.func 35) #[] #[]] w fun e w' => e = .returned (.tuple #[]) ∧ ∃ m, m.Perm l ∧ Srt m ∧ TbRow w' B (.slice (some ⟨b, 0, none⟩) n cap) m ∧ Below B w w' := by
  have eg : ∀ args w, (callFunc 35 args).run Tryd.prog w = .ok (.enter 35 args) w := enters_of Tryd.func35 (by kernel_rfl) rfl
  have hblk : b < w.heap.size := h.base.2
  have hc := AnyQ.slices_SortFunc (α := Tab) laysSF 2 isAgg_tab sizeOf_tab encT (fun _ => rfl) (fun x v hv => by simp [encT] at hv; rcases hv with rfl | rfl <;> rfl) cfT swoT 35 #[] b 0 cap l.toArray w eg (fun _ _ _ _ x y => clo_any x y _) (h.holds hn) hblk (by rw [List.size_toArray]; omega)
  rw [List.size_toArray, hn] at hc
  refine hc.mono ?_
  rintro e w' ⟨rfl, d', N, os, hp, hs, rfl⟩
  refine ⟨rfl, d'.toList, ?_, ?_, ?_⟩
  · have h1 := hp.2.2
    have hsz : d'.size = n := by rw [hp.1, List.size_toArray, hn]
    rw [show d'.extract 0 n = d' by rw [← hsz]; exact Array.extract_size, show (l.toArray).extract 0 n = l.toArray by rw [← hn, ← List.size_toArray]; exact Array.extract_size] at h1
    simpa using h1
  · have hsz : d'.size = n := by rw [hp.1, List.size_toArray, hn]
    unfold Srt
    rw [List.pairwise_iff_getElem]
    intro i j hi hj hij
    have hi' : i < d'.size := by simpa using hi
    have hj' : j < d'.size := by simpa using hj
    have := hs i j (Nat.zero_le _) hij (by omega)
    rw [lt_cf] at this
    rw [getElem!_pos d' i hi', getElem!_pos d' j hj'] at this
    unfold gtT
    simpa using this
  · have hsz : d'.toList.length = n := by rw [Array.length_toList, hp.1, List.size_toArray, hn]
    have := h.sorted (m := d'.toList) (N := N) (os := os) hn hsz
    rw [Array.toArray_toList] at this
    exact this
end Go.Proofs.YtgmmhlpdkoiheaaDoor
