/-
  Joined: S8Tc, S8Te, S8Up, S8Uq, S8Ur.
-/
import Derived.Test.YtpdfpbbamnhkfaaGreatDoorV39
import Derived.Test.YtpdfpbbamnhkfaaGreatDoorV41
import Derived.Test.YtpdfpbbamnhkfaaGreatDoorV44
import Derived.Test.YtpdfpbbamnhkfaaGreatDoorV45
namespace Go.Proofs.YtpdfpbbamnhkfaaGreatDoor.S8
open Go.RowKit Go.Deep
set_option linter.unusedVariables false
set_option linter.unusedSimpArgs false
theorem tcs_get : ∀ (l : List Tab) (j : Nat) (u : Value), (tcs l)[j]? = some u → ∃ i x, l[i]? = some x ∧ ((j = i * 2 ∧ u = .string x.1) ∨ (j = i * 2 + 1 ∧ u = .string x.2))
  | [], j, u, h => by simp [tcs] at h
  | x :: l, 0, u, h => by
    have e : tcs (x :: l) = .string x.1 :: .string x.2 :: tcs l := by unfold tcs; simp
    rw [e] at h
    simp at h
    exact ⟨0, x, rfl, Or.inl ⟨rfl, h.symm⟩⟩
  | x :: l, 1, u, h => by
    have e : tcs (x :: l) = .string x.1 :: .string x.2 :: tcs l := by unfold tcs; simp
    rw [e] at h
    simp at h
    exact ⟨0, x, rfl, Or.inr ⟨rfl, h.symm⟩⟩
  | x :: l, j + 2, u, h => by
    have e : tcs (x :: l) = .string x.1 :: .string x.2 :: tcs l := by unfold tcs; simp
    rw [e] at h
    simp at h
    obtain ⟨i, y, hy, hh⟩ := tcs_get l j u h
    refine ⟨i + 1, y, by simpa using hy, ?_⟩
    rcases hh with ⟨h1, h2⟩ | ⟨h1, h2⟩
    · exact Or.inl ⟨by omega, h2⟩
    · exact Or.inr ⟨by omega, h2⟩
set_option maxRecDepth 8000 in
theorem clones_any (g o c n : Nat) (l : List Tab) (w : World) (hn : l.length = n) (h1 : 1 ≤ n) (h2 : n ≤ 1000) (hg : g < w.heap.size)
    (hL : ∀ i x, l[i]? = some x → w.cell? ⟨g, o + i * 2, none⟩ = some (.string x.1) ∧ w.cell? ⟨g, o + i * 2 + 1, none⟩ = some (.string x.2)) :
    Calls Tryz.prog 97 #[.slice (some ⟨g, o, none⟩) n c] w fun e w' => ∃ b cap, e = .returned (.slice (some ⟨b, 0, none⟩) n cap) ∧ TbRow w' w.heap.size (.slice (some ⟨b, 0, none⟩) n cap) l ∧ Below w.heap.size w w' := by
  obtain ⟨i0, hi, hz0, hz1, hz2⟩ := info_parts5 info_tab
  have hal := (Below.refl w.heap.size w).alloc (Nat.le_refl _) (.cells #[] 94)
  have hnil : (w.alloc (.cells #[] 94)).ownsRow w.heap.size 94 2 (.slice (some ⟨w.heap.size, 0, none⟩) 0 0) 0 [] :=
    ⟨rfl, Or.inr ⟨w.heap.size, 0, #[], rfl, Nat.le_refl _, heap_alloc_new w _, Nat.le_refl _, by unfold maxLen; omega, rfl, rfl⟩⟩
  obtain ⟨b, cap, w2, hr, ho, hgr, _, _⟩ := run_append_lies (P := Tryz.prog) (w.alloc (.cells #[] 94)) 72 72 w.heap.size 94 i0 _ 2 32 Tryz.underlying72 hi hz0 hz1 hz2 rfl (by decide) (.slice (some ⟨w.heap.size, 0, none⟩) 0 0) 0 [] hnil ⟨g, o, none⟩ n c (tcs l) (by rw [tcs_len, hn])
    (fun j u hu => by
      rw [Go.WideShapes.add_plain, hal.cell (p := ⟨g, o + j, none⟩) hg]
      obtain ⟨i, x, hx, hh⟩ := tcs_get l j u hu
      rcases hh with ⟨rfl, rfl⟩ | ⟨rfl, rfl⟩
      · exact (hL i x hx).1
      · exact (hL i x hx).2) (tcs_one l) (by omega) (by unfold maxLen; omega) (by omega) (by simp) (w.heap.size + 1) (by simp)
  simp only [Nat.zero_add, List.nil_append] at hr ho
  have HR := hide hr
  have HB := hide (hal.grown hgr (by simp) fun k hk' => (World.ownsRow.lt hnil k hk').1)
  have HO := hide (show TbRow w2 w.heap.size (.slice (some ⟨b, 0, none⟩) n cap) l by unfold TbRow; rw [hn]; exact ho)
  have hnl := fun (w : World) => run_eql_slice_nil (P := Tryz.prog) w 72 94 (some ⟨g, o, none⟩) n c Tryz.underlying72
  clear hr hgr ho hnil hal hL
  go_enter Tryz.func97, Tryz.ntmps97
  go_wp2_with (at_builtin; refine Lib.wpList_append_run _ rfl _ _ _ _ rfl _ _ rfl rfl _ _ HR.out ?_)
  go_ret
  exact ⟨_, _, rfl, HO.out, HB.out⟩
def cfT (x y : Tab) : Int := Lib.compareBytes x.1.data.toList y.1.data.toList
theorem cmp_less : ∀ (a b : List UInt8), decide (Lib.compareBytes a b < 0) = Op.bytesLess a b
  | [], [] => by simp [Lib.compareBytes, Op.bytesLess]
  | [], b :: y => by simp [Lib.compareBytes, Op.bytesLess]
  | a :: x, [] => by simp [Lib.compareBytes, Op.bytesLess]
  | a :: x, b :: y => by
    have ih := cmp_less x y
    rw [Lib.compareBytes, Op.bytesLess]
    by_cases h1 : a < b
    · simp [h1]
    · by_cases h2 : b < a
      · have h3 : ¬ a = b := fun e => by subst e; exact h1 h2
        simp [h1, h2, h3]
      · have h3 : a = b := by
          rw [UInt8.lt_iff_toNat_lt] at h1 h2
          exact UInt8.toNat_inj.1 (by omega)
        subst h3
        simp [h1, ih]
theorem lt_cf (x y : Tab) : ltOf cfT x y = Op.bytesLess x.1.toList y.1.toList := by
  unfold ltOf cfT
  rw [cmp_less, Lib.toList_data, Lib.toList_data]
theorem swoT : Sort.SWO (ltOf cfT) := {
  irrefl := fun x => by rw [lt_cf]; exact less_irrefl _
  trans := fun x y z h1 h2 => by rw [lt_cf] at *; exact less_trans _ _ _ h1 h2
  ntrans := fun x y z h1 h2 => by rw [lt_cf] at *; exact less_nt h1 h2 }
def encT (x : Tab) : List Value := [.string x.1, .string x.2]
theorem strcmp_any (a b : ByteArray) (w : World) : Calls Tryz.prog 100 #[.string a, .string b] w fun e w' => e = .returned (.int .i64 (Lib.compareBytes a.data.toList b.data.toList)) ∧ w' = w := Any.strings_Compare lays106 a b w
set_option maxHeartbeats 1000000 in
theorem clo_any (x y : Tab) (W : World) : Calls Tryz.prog 99 #[.agg #[.string x.1, .string x.2], .agg #[.string y.1, .string y.2]] W fun e w' => e = .returned (.int .i64 (cfT x y)) ∧ ∃ q os', w' = Sort.grow (W.drewN q) os' := by
  obtain ⟨x1, x2⟩ := x
  obtain ⟨y1, y2⟩ := y
  have C := hide (fun w => strcmp_any x1 y1 w)
  have e : cfT (x1, x2) (y1, y2) = Lib.compareBytes x1.data.toList y1.data.toList := rfl
  rw [e]
  generalize Lib.compareBytes x1.data.toList y1.data.toList = R at C
  clear e
  go_enter Tryz.func99, Tryz.ntmps99
  go_wp2_with (go_at_call 100; refine (C.out _).mono ?_; rintro e w' ⟨rfl, hw'⟩; replace hw' := hw'.symm; subst hw')
  go_ret
  exact ⟨rfl, 0, _, by rw [Sort.alloc_eq_grow, Sort.alloc_eq_grow, Sort.grow_grow]; rfl⟩
instance : Inhabited Tab := ⟨tz⟩
theorem isAgg_tab : ∀ w, (isAgg 94).run Tryz.prog w = .ok true w := fun w => Tryz.isAgg94 w
theorem sizeOf_tab : ∀ w, (Go.sizeOf 94).run Tryz.prog w = .ok 2 w := fun w => Tryz.sizeOf94 w
theorem flat_tcs (m : List Tab) : ∀ j, j < m.length * 2 → (tcs m)[j]? = some ((encT (m.toArray)[j / 2]!)[j % 2]!) := by
  intro j hj
  obtain ⟨u, hu⟩ : ∃ u, (tcs m)[j]? = some u := ⟨_, List.getElem?_eq_getElem (by rw [tcs_len]; exact hj)⟩
  rw [hu]
  obtain ⟨i, x, hx, hh⟩ := tcs_get m j u hu
  obtain ⟨hil, hxe⟩ := List.getElem?_eq_some_iff.1 hx
  rcases hh with ⟨rfl, rfl⟩ | ⟨rfl, rfl⟩
  · have e : (m.toArray)[i * 2 / 2]! = x := by rw [Nat.mul_div_cancel _ (by omega)]; simp [hil, hxe]
    rw [e, Nat.mul_mod_left]; rfl
  · have e : (m.toArray)[(i * 2 + 1) / 2]! = x := by rw [show (i * 2 + 1) / 2 = i by omega]; simp [hil, hxe]
    rw [e, show (i * 2 + 1) % 2 = 1 by omega]; rfl
theorem TbRow.holds {w : World} {B b cap n : Nat} {l : List Tab} (h : TbRow w B (.slice (some ⟨b, 0, none⟩) n cap) l) (hn : l.length = n) : Sort.HoldsK encT 2 w b 0 l.toArray := by
  unfold TbRow at h
  intro j hj
  rw [Sort.size_flatK, List.size_toArray] at hj
  rw [Sort.get_flatK _ _ _ _ (by simpa using hj), Nat.zero_add]
  rw [hn] at h
  refine ⟨?_, h.frozenAt j⟩
  rw [World.ownsRow.cellAt h j (by omega), flat_tcs l j hj]; rfl
theorem TbRow.sorted {w : World} {B b cap n N : Nat} {l m : List Tab} {os : Array Obj} (h : TbRow w B (.slice (some ⟨b, 0, none⟩) n cap) l) (hn : l.length = n) (hm : m.length = n) :
    TbRow (sortWorldK encT 2 w b 0 N m.toArray os) B (.slice (some ⟨b, 0, none⟩) n cap) m ∧ Below B w (sortWorldK encT 2 w b 0 N m.toArray os) := by
  have hH := h.holds hn
  unfold TbRow at *
  rw [hn] at h
  rw [hm]
  obtain ⟨hxl, ⟨h0, _⟩ | ⟨g', cap', cur, hv, hbg, hgc, hnc, hcm, hcs, htake⟩⟩ := h
  · cases h0
  injection hv with hv1 hv2 hv3
  injection hv1 with hv1
  injection hv1 with hv1
  subst hv1
  subst hv3
  have hlt : b < w.heap.size := by
    rcases Nat.lt_or_ge b w.heap.size with h | h
    · exact h
    · rw [Array.getElem?_eq_none h] at hgc; cases hgc
  obtain ⟨F, hF⟩ : ∃ F, Sort.flatK encT 2 m.toArray = F := ⟨_, rfl⟩
  have hFs : F.size = n * 2 := by rw [← hF, Sort.size_flatK, List.size_toArray, hm]
  have hblk : (sortWorldK encT 2 w b 0 N m.toArray os).heap[b]? = some (.cells (Sort.putCells id 0 F cur) 94 (0, 0)) := by
    unfold sortWorldK Sort.grow Sort.putRowK Sort.putRow Sort.mapBlock Sort.ahead
    rw [hF]
    simp only
    rw [Array.getElem?_append_left (by simpa using hlt), Array.getElem?_modify, if_pos rfl, hgc]
    rfl
  constructor
  · refine ⟨by rw [tcs_len, hm], Or.inr ⟨b, cap, _, rfl, hbg, hblk, hnc, hcm, by unfold Sort.putCells; rw [Array.size_mapIdx]; exact hcs, ?_⟩⟩
    apply List.ext_getElem?
    intro j
    rcases Nat.lt_or_ge j (n * 2) with hj | hj
    · rw [List.getElem?_take_of_lt hj, flat_tcs m j (by rw [hm]; exact hj), Array.getElem?_toList]
      unfold Sort.putCells
      rw [Array.getElem?_mapIdx, Array.getElem?_eq_getElem (by rw [hcs]; omega)]
      simp only [Option.map_some, Nat.zero_le, true_and, Nat.zero_add, hFs, hj, if_true, Nat.sub_zero, id]
      rw [← hF, Sort.get_flatK _ _ _ _ (by simp; omega)]
    · rw [List.getElem?_take_eq_none hj, List.getElem?_eq_none (by rw [tcs_len, hm]; exact hj)]
  · refine ⟨rfl, rfl, rfl, ?_, fun k hk => ?_⟩
    · unfold sortWorldK Sort.grow Sort.putRowK Sort.putRow Sort.mapBlock Sort.ahead
      simp
    · unfold sortWorldK Sort.grow Sort.putRowK Sort.putRow Sort.mapBlock Sort.ahead
      simp only
      rw [Array.getElem?_append_left (by simp; omega), Array.getElem?_modify, if_neg (by omega)]
theorem sort_any (B b cap n : Nat) (l : List Tab) (w : World) (h : TbRow w B (.slice (some ⟨b, 0, none⟩) n cap) l) (hn : l.length = n) (h2 : n ≤ 1000) :
    Calls Tryz.prog 98 #[.slice (some ⟨b, 0, none⟩) n cap, .func (.func 99) #[] #[]] w fun e w' => e = .returned (.tuple #[]) ∧ ∃ m, m.Perm l ∧ Srt m ∧ TbRow w' B (.slice (some ⟨b, 0, none⟩) n cap) m ∧ Below B w w' := by
  have eg : ∀ args w, (callFunc 99 args).run Tryz.prog w = .ok (.enter 99 args) w := enters_of Tryz.func99 (by kernel_rfl) rfl
  have hblk : b < w.heap.size := h.base.2
  have hc := AnyQ.slices_SortFunc (α := Tab) laysSF 2 isAgg_tab sizeOf_tab encT (fun _ => rfl) (fun x v hv => by simp [encT] at hv; rcases hv with rfl | rfl <;> rfl) cfT swoT 99 #[] b 0 cap l.toArray w eg (fun _ _ _ _ x y => clo_any x y _) (h.holds hn) hblk (by rw [List.size_toArray]; omega)
  rw [List.size_toArray, hn] at hc
  refine hc.mono ?_
  rintro e w' ⟨rfl, d', N, os, hp, hs, rfl⟩
  refine ⟨rfl, d'.toList, ?_, ?_, ?_⟩
  · have h1 := hp.2.2
    have hsz : d'.size = n := by rw [hp.1, List.size_toArray, hn]
    rw [show d'.extract 0 n = d' by rw [← hsz]; exact Array.extract_size, show (l.toArray).extract 0 n = l.toArray by rw [← hn, ← List.size_toArray]; exact Array.extract_size] at h1
    simpa using h1
  · have hsz : d'.size = n := by rw [hp.1, List.size_toArray, hn]
    unfold Srt
    rw [List.pairwise_iff_getElem]
    intro i j hi hj hij
    have hi' : i < d'.size := by simpa using hi
    have hj' : j < d'.size := by simpa using hj
    have := hs i j (Nat.zero_le _) hij (by omega)
    rw [lt_cf] at this
    rw [getElem!_pos d' i hi', getElem!_pos d' j hj'] at this
    unfold gtT
    simpa using this
  · have hsz : d'.toList.length = n := by rw [Array.length_toList, hp.1, List.size_toArray, hn]
    have := h.sorted (m := d'.toList) (N := N) (os := os) hn hsz
    rw [Array.toArray_toList] at this
    exact this
end Go.Proofs.YtpdfpbbamnhkfaaGreatDoor.S8
namespace Go.Proofs.YtpdfpbbamnhkfaaGreatDoor.S8
open Go.RowKit Go.Deep
set_option linter.unusedVariables false
set_option linter.unusedSimpArgs false
def btS (l : List Tab) : ByteArray := if bErr l = 0 then ⟨(txtV (sorV l)).toArray⟩ else ⟨#[]⟩
def BuR (w : World) (l : List Tab) (e : Ending) (w' : World) : Prop := e = .returned (.tuple #[.string (btS l), .int .i64 (bErr l)]) ∧ Below w.heap.size w w'
set_option maxRecDepth 8000 in
set_option maxHeartbeats 4000000 in
theorem build_any (a : Option Addr) (l : List Tab) (n c : Nat) (w : World) (hn : l.length = n) (hm : n ≤ 1073741824) (hz : ∀ x ∈ l, x.1.size ≤ 1073741824 ∧ x.2.size ≤ 1073741824) (hL : TLst w a l) (hG : Glo8 w) :
    Calls Tryz.prog 50 #[.slice a n c] w (BuR w l) := by
  have hm' : (n : Int) ≤ 1073741824 := by omega
  have h80 : bErr l = 80 → btS l = ⟨#[]⟩ := fun e => by unfold btS; rw [if_neg (by rw [e]; decide)]
  by_cases h1 : n < 1
  · have e : bErr l = 80 := by unfold bErr; rw [if_pos (by omega)]
    have h1' : (n : Int) < 1 := by omega
    unfold BuR
    rw [h80 e, e]
    clear hL hn hm hz h1 e h80 hG
    go_enter Tryz.func50, Tryz.ntmps50
    go_wp2_with fail
    go_ret2
    exact ⟨rfl, Below.refl _ _⟩
  by_cases h2 : 32 < n
  · have e : bErr l = 80 := by unfold bErr; rw [if_pos (by omega)]
    have h1' : ¬ (n : Int) < 1 := by omega
    have h2' : (32 : Int) < (n : Int) := by omega
    unfold BuR
    rw [h80 e, e]
    clear hL hn hm hz h1 h2 e h80 hG
    go_enter Tryz.func50, Tryz.ntmps50
    go_wp2_with fail
    go_ret2
    exact ⟨rfl, Below.refl _ _⟩
  have h1' : ¬ (n : Int) < 1 := by omega
  have h2' : ¬ (32 : Int) < (n : Int) := by omega
  obtain ⟨g, o, rfl, hg, hcell⟩ : ∃ g o, a = some ⟨g, o, none⟩ ∧ g < w.heap.size ∧ ∀ i x, l[i]? = some x → w.cell? ⟨g, o + i * 2, none⟩ = some (.string x.1) ∧ w.cell? ⟨g, o + i * 2 + 1, none⟩ = some (.string x.2) := by
    rcases hL with hz' | h
    · rw [hz'] at hn; simp at hn; omega
    · exact h
  have CC := hide (clones_any g o c n l w hn (by omega) (by omega) hg hcell)
  have CS := hide (fun B b cap w h => sort_any B b cap n l w h hn (by omega))
  have HZ := hide hz
  have HN := hide hn
  have HG := hide hG
  have H12 := hide (show 1 ≤ n ∧ n ≤ 32 by omega)
  have H80 := hide h80
  have HFI := hide (show ∀ m : List Tab, bErr l = 0 ∧ m = sorV l → btS l = ⟨(txtV m).toArray⟩ from fun m h => by unfold btS; rw [if_pos h.1, h.2])
  have H2 := hide (show bErr l = 2 → btS l = ⟨#[]⟩ from fun e => by unfold btS; rw [if_neg (by rw [e]; decide)])
  unfold BuR
  clear hL hcell hz hG h80 h1 h2 hn hm
  go_enter Tryz.func50, Tryz.ntmps50
  go_wp2_with fail
  refine CC.out.mono ?_
  rintro e w1 ⟨b, cap, rfl, hT, hB1⟩
  have CS1 := hide (CS.out _ _ _ _ hT)
  have HB1 := hide hB1
  have hwb := hT.base.1
  clear hT hB1 CC CS
  go_wp2_with fail
  refine CS1.out.mono ?_
  rintro e w2 ⟨rfl, m, hp, hs, hT2, hB2⟩
  have hml : m.length = n := by rw [hp.length_eq]; exact HN.out
  have hzm : ∀ x ∈ m, x.1.size ≤ 1073741824 ∧ x.2.size ≤ 1073741824 := fun x hx => HZ.out x (hp.subset hx)
  have hcm : ∀ i x, m[i]? = some x → w2.cell? ⟨b, i * 2, none⟩ = some (.string x.1) ∧ w2.cell? ⟨b, i * 2 + 1, none⟩ = some (.string x.2) := fun i x hx => hT2.at2 hml i x hx
  have hb2 : b < w2.heap.size := hT2.base.2
  have herr := err_of l m hp hs (by rw [HN.out]; exact H12.out.1) (by rw [HN.out]; exact H12.out.2)
  have CL := hide (lay_any b cap n m w2 hml H12.out.1 H12.out.2 hzm hb2 hcm)
  have HB2 := hide (HB1.out.trans hB2)
  have HCM := hide hcm
  have HML := hide hml
  have HERR := hide herr
  have HPB := hide (pl_bd m n (by have := H12.out; omega) (fun x hx => (hzm x hx).2))
  clear hp hs hT2 hB2 hzm hcm herr CS1 hml
  go_wp2_with fail
  refine CL.out.mono ?_
  rintro e w3 ⟨hB3, ⟨⟨x, hx, hx4⟩, rfl⟩ | ⟨h4, r, rc, rfl, hR⟩⟩
  · have e80 : bErr l = 80 := HERR.out.1 (fun h => hx4 (h.1 x hx))
    have HB3 := hide (below_t5 HB2.out hB3)
    have HE := hide (And.intro (H80.out e80) e80)
    clear hB3 hx hx4 e80
    go_wp2_with fail
    go_ret2
    exact ⟨by rw [HE.out.1, HE.out.2]; rfl, HB3.out⟩
  · obtain ⟨RB, hRB⟩ : ∃ B, riseM [0, 0, 0, 0] m = B := ⟨_, rfl⟩
    rw [hRB]
    have HB3 := hide (below_t5 HB2.out hB3)
    cases RB with
    | false =>
      have e80 : bErr l = 80 := HERR.out.1 (fun h => by have := h.2; rw [hRB] at this; cases this)
      have HE := hide (And.intro (H80.out e80) e80)
      clear hB3 hR h4 e80 hRB
      go_wp2_with fail
      go_ret2
      exact ⟨by rw [HE.out.1, HE.out.2]; rfl, HB3.out⟩
    | true =>
      have hgo : goM m := ⟨h4, hRB⟩
      have hpb : (plT m n : Int) ≤ 40000000000 := by have := HPB.out n (Nat.le_refl _) (by have := HML.out; omega); have := H12.out; omega
      by_cases hsz : 1048576 < plT m n
      · have hsz' : (1048576 : Int) < (plT m n : Int) := by omega
        have e2 : bErr l = 2 := HERR.out.2.1 hgo (by rw [HML.out]; exact hsz)
        have HE := hide (And.intro (H2.out e2) e2)
        clear hB3 hR h4 e2 hRB hgo hsz
        go_wp2_with fail
        go_ret2
        exact ⟨by rw [HE.out.1, HE.out.2]; rfl, HB3.out⟩
      · have hsz' : ¬ (1048576 : Int) < (plT m n : Int) := by omega
        have e0 := HERR.out.2.2 hgo (by rw [HML.out]; omega)
        have HE := hide (And.intro (HFI.out m e0) e0.1)
        have CW := hide (write_any b cap r rc n m w3 HML.out H12.out.1 H12.out.2 hgo (by omega) (Nat.lt_of_lt_of_le hb2 hB3.size) (fun i x hx => by
          rw [hB3.cell (p := ⟨b, i * 2, none⟩) hb2, hB3.cell (p := ⟨b, i * 2 + 1, none⟩) hb2]
          exact HCM.out i x hx) hR (HG.out.below HB3.out))
        clear hB3 hR h4 e0 hRB hgo hsz
        go_wp2_with fail
        refine CW.out.mono ?_
        rintro e w4 ⟨rfl, hB4⟩
        have HB4 := hide (below_t5 HB3.out hB4)
        clear hB4
        go_wp2_with fail
        go_ret2
        exact ⟨by rw [HE.out.1, HE.out.2]; rfl, HB4.out⟩
end Go.Proofs.YtpdfpbbamnhkfaaGreatDoor.S8
namespace Go.Proofs.YtpdfpbbamnhkfaaGreatDoor.S8
open Go.RowKit Go.Deep
set_option linter.unusedVariables false
theorem ok_facts {l : List Tab} (hE : bErr l = 0) : goM (sorV l) ∧ (sorV l).length = l.length ∧ plT (sorV l) l.length ≤ 1048576 ∧ 1 ≤ l.length ∧ l.length ≤ 32 := by
  unfold bErr at hE
  split at hE
  · cases hE
  · rename_i h0
    split at hE
    · rename_i h1
      split at hE
      · cases hE
      · rename_i h2
        refine ⟨ok_go _ (sor_srt l) h1, sor_len l, ?_, by omega, by omega⟩
        exact Nat.le_of_not_lt fun h => h2 ((sz_iff (sorV l) l.length).2 h)
    · cases hE
theorem nbB_nat (x : Int) (j : Nat) : (nbB x j).toNat = (x / 256 ^ j % 256).toNat := by
  unfold nbB
  rw [UInt8.toNat_ofNat']
  omega
theorem num_nb4 (x : Nat) (h : x < 4294967296) : numV (nbT (x : Int) 4) = x := by
  unfold numV
  simp only [nbT, List.foldl_cons, List.foldl_nil, nbB_nat]
  omega
theorem num_nb2 (x : Nat) (h : x < 65536) : numV (nbT (x : Int) 2) = x := by
  unfold numV
  simp only [nbT, List.foldl_cons, List.foldl_nil, nbB_nat]
  omega
theorem piece_get (l : List UInt8) (a b i : Nat) : ((l.drop a).take b)[i]? = if i < b then l[a + i]? else none := by
  rw [List.getElem?_take]
  split
  · rw [List.getElem?_drop]
  · rfl
theorem row_pre (m : List Tab) (k : Nat) : ∀ d, ∃ r, rowT m (k + d) = rowT m k ++ r
  | 0 => ⟨[], by simp⟩
  | d + 1 => by
    obtain ⟨r, h⟩ := row_pre m k d
    rw [← Nat.add_assoc, rowT, h, List.append_assoc]
    exact ⟨_, rfl⟩
theorem bod_pre (m : List Tab) (k : Nat) : ∀ d, ∃ r, bodT m (k + d) = bodT m k ++ r
  | 0 => ⟨[], by simp⟩
  | d + 1 => by
    obtain ⟨r, h⟩ := bod_pre m k d
    rw [← Nat.add_assoc, bodT, h, List.append_assoc]
    exact ⟨_, rfl⟩
def rwB (m : List Tab) (k : Nat) : List UInt8 := (m.getD k tz).1.data.toList ++ f4 ((sumV (dOf m k).data.toList : Nat) : Int) ++ f4 (plT m k : Int) ++ f4 ((dOf m k).size : Int)
theorem row_piece (m : List Tab) (n k : Nat) (hok : okA m) (hn : m.length = n) (hk : k < n) : ((rowT m n).drop (16 * k)).take 16 = rwB m k := by
  obtain ⟨r, h⟩ := row_pre m (k + 1) (n - (k + 1))
  rw [show k + 1 + (n - (k + 1)) = n by omega] at h
  have h1 := row_len m hok k (by omega)
  have h2 := row_len m hok (k + 1) (by omega)
  rw [h, rowT, List.append_assoc, ← h1, List.drop_left]
  have h3 : (rwB m k).length = 16 := by
    rw [rowT, List.length_append, h1] at h2
    show ((m.getD k tz).1.data.toList ++ f4 ((sumV (dOf m k).data.toList : Nat) : Int) ++ f4 (plT m k : Int) ++ f4 ((dOf m k).size : Int)).length = 16
    omega
  show (rwB m k ++ r).take 16 = _
  rw [List.take_left' h3]
structure Laid (m : List Tab) (n : Nat) (T : List UInt8) : Prop where
  len : T.length = plT m n
  hd : T.take (12 + 16 * n) = openT n ++ rowT m n
def rwM (m : List Tab) (k : Nat) : Rw := { lyRw m k with sum := ((sumV (dOf m k).data.toList : Nat) : Int) }
theorem rowV_take (l : List UInt8) (h : 16 ≤ l.length) : rowV l = rowV (l.take 16) := by
  unfold rowV
  have e : ∀ i, i < 16 → (l.take 16).getD i 0 = l.getD i 0 := fun i hi => by
    rw [List.getD_eq_getElem?_getD, List.getD_eq_getElem?_getD, List.getElem?_take_of_lt hi]
  have e2 : ∀ i, i + 4 ≤ 16 → ((l.take 16).drop i).take 4 = (l.drop i).take 4 := fun i hi => by
    rw [List.drop_take, List.take_take, Nat.min_eq_left (by omega)]
  rw [e 0 (by omega), e 1 (by omega), e 2 (by omega), e 3 (by omega), e2 4 (by omega), e2 8 (by omega), e2 12 (by omega)]
theorem rowV_rwB (m : List Tab) (k : Nat) (h4 : (m.getD k tz).1.size = 4) (hp : plT m k < 4294967296) (hs : (m.getD k tz).2.size < 4294967296) : rowV (rwB m k) = rwM m k := by
  obtain ⟨b0, b1, b2, b3, e⟩ := four_of h4
  have hd : (dOf m k).size = (m.getD k tz).2.size := by unfold dOf; rw [ownS_size]
  have e0 : rwB m k = [b0, b1, b2, b3] ++ (nbT ((sumV (dOf m k).data.toList : Nat) : Int) 4 ++ (nbT (plT m k : Int) 4 ++ nbT ((dOf m k).size : Int) 4)) := by
    unfold rwB
    rw [nb_f4, nb_f4, nb_f4, e, List.append_assoc, List.append_assoc]
  have hS := sumV_lt (dOf m k).data.toList
  obtain ⟨SU, hSU⟩ : ∃ S, sumV (dOf m k).data.toList = S := ⟨_, rfl⟩
  rw [hSU] at e0 hS
  have l1 := nbT_len (SU : Int) 4
  have l2 := nbT_len (plT m k : Int) 4
  have l3 := nbT_len ((dOf m k).size : Int) 4
  unfold rowV rwM lyRw
  rw [hSU, e, e0]
  have q1 : ([b0, b1, b2, b3] ++ (nbT (SU : Int) 4 ++ (nbT (plT m k : Int) 4 ++ nbT ((dOf m k).size : Int) 4))).drop 4 = nbT (SU : Int) 4 ++ (nbT (plT m k : Int) 4 ++ nbT ((dOf m k).size : Int) 4) := rfl
  have q2 : ([b0, b1, b2, b3] ++ (nbT (SU : Int) 4 ++ (nbT (plT m k : Int) 4 ++ nbT ((dOf m k).size : Int) 4))).drop 8 = nbT (plT m k : Int) 4 ++ nbT ((dOf m k).size : Int) 4 := by
    rw [show 8 = 4 + 4 from rfl, ← List.drop_drop, q1, List.drop_left' l1]
  have q3 : ([b0, b1, b2, b3] ++ (nbT (SU : Int) 4 ++ (nbT (plT m k : Int) 4 ++ nbT ((dOf m k).size : Int) 4))).drop 12 = nbT ((dOf m k).size : Int) 4 := by
    rw [show 12 = 8 + 4 from rfl, ← List.drop_drop, q2, List.drop_left' l2]
  rw [q1, q2, q3, List.take_left' l1, List.take_left' l2, List.take_of_length_le (by omega), num_nb4 _ hS, num_nb4 _ hp, num_nb4 _ (by omega), hd]
  rfl
theorem laid_row {m : List Tab} {n : Nat} {T : List UInt8} (h : Laid m n T) (hgo : goM m) (hn : m.length = n) (hsz : plT m n ≤ 1048576) {k : Nat} (hk : k < n) : rwAt T k = rwM m k := by
  have hok := go_ok m hgo
  have hkl : k < m.length := by omega
  have h4 : (m.getD k tz).1.size = 4 := by rw [getD_some m k hkl]; exact hgo.1 _ (List.getElem_mem hkl)
  have hpn := pl_mono m (k + 1) (n - (k + 1))
  rw [show k + 1 + (n - (k + 1)) = n by omega] at hpn
  have hpx := pl_next m k
  have hd : (dOf m k).size = (m.getD k tz).2.size := by unfold dOf; rw [ownS_size]
  have hpl : 12 + 16 * n ≤ plT m n := by unfold plT; omega
  have hT := h.len
  unfold rwAt
  rw [rowV_take _ (by rw [List.length_drop]; omega), ← rowV_rwB m k h4 (by omega) (by omega), ← row_piece m n k hok hn hk]
  congr 1
  have e1 : (T.drop (12 + 16 * k)).take 16 = ((T.take (12 + 16 * n)).drop (12 + 16 * k)).take 16 := by
    rw [List.drop_take, List.take_take, Nat.min_eq_left (by omega)]
  rw [e1, h.hd, ← openT_len n, ← List.drop_drop, List.drop_left]
theorem laid_rows {m : List Tab} {n : Nat} {T : List UInt8} (h : Laid m n T) (hgo : goM m) (hn : m.length = n) (hsz : plT m n ≤ 1048576) : rowsV T n = (List.range n).map (rwM m) := by
  unfold rowsV
  apply List.map_congr_left
  intro k hk
  exact laid_row h hgo hn hsz (List.mem_range.1 hk)
theorem laid_head {m : List Tab} {n : Nat} {T : List UInt8} (h : Laid m n T) (h1 : 1 ≤ n) (h2 : n ≤ 32) (hn : m.length = n) : nTab T = n ∧ hdB T = true := by
  have hpl : 12 + 16 * n ≤ plT m n := by unfold plT; omega
  have hT := h.len
  have e12 : T.take 12 = openT n := by
    have : T.take 12 = (T.take (12 + 16 * n)).take 12 := by rw [List.take_take, Nat.min_eq_left (by omega)]
    rw [this, h.hd, List.take_left' (openT_len n)]
  have hnt : nTab T = n := by
    unfold nTab
    have : (T.drop 4).take 2 = ((T.take 12).drop 4).take 2 := by rw [List.drop_take, List.take_take, Nat.min_eq_left (by omega)]
    rw [this, e12, openT_eq]
    have q : ([0, 1, 0, 0] ++ (nbT (n : Int) 2 ++ srT n)).drop 4 = nbT (n : Int) 2 ++ srT n := rfl
    rw [q, List.take_left' (nbT_len _ 2), num_nb2 _ (by omega)]
  refine ⟨hnt, hd_yes ?_⟩
  rw [hnt]
  exact ⟨by omega, h1, h2, e12, by omega⟩
theorem rwM_tag (m : List Tab) (k : Nat) : tgT (rwM m k) = tgT (lyRw m k) := rfl
theorem rise_rwM (m : List Tab) (n : Nat) (hn : m.length = n) (hgo : goM m) : riseB [0, 0, 0, 0] ((List.range n).map (rwM m)) = true := by
  rw [← hgo.2]
  refine rise_eq _ _ _ (by simp [hn]) fun i r x hi hx => ?_
  obtain ⟨hil, hxe⟩ := List.getElem?_eq_some_iff.1 hx
  have e : m.getD i tz = x := by rw [getD_some m i hil, hxe]
  have h4 : (m.getD i tz).1.size = 4 := by rw [e]; exact hgo.1 x (List.mem_of_getElem? hx)
  rw [List.getElem?_map, List.getElem?_range (by omega)] at hi
  simp at hi
  subst hi
  exact ⟨by rw [rwM_tag, tgT_ly m i h4, e, Lib.toList_data], by rw [show goodT (rwM m i) = goodT (lyRw m i) from rfl, goodT_ly m i h4, e]⟩
theorem bod_mod (m : List Tab) : ∀ k, (bodT m k).length % 4 = 0
  | 0 => rfl
  | k + 1 => by
    have h1 := bod_mod m k
    have h2 := padT_len (dOf m k).data.toList
    rw [bodT, List.length_append]; omega
theorem pl_mod (m : List Tab) (k : Nat) : plT m k % 4 = 0 := by
  have := bod_mod m k
  unfold plT; omega
theorem pl_le' (m : List Tab) {i j : Nat} (h : i < j) : plT m i + (m.getD i tz).2.size ≤ plT m j := by
  have h1 := pl_next m i
  have h2 := pl_mono m (i + 1) (j - (i + 1))
  rw [show i + 1 + (j - (i + 1)) = j by omega] at h2
  have hd : (dOf m i).size = (m.getD i tz).2.size := by unfold dOf; rw [ownS_size]
  omega
theorem okG_laid (m : List Tab) (n : Nat) (hn : m.length = n) : ∀ k, k ≤ n → okG (plT m n) n ((List.range (n - k)).map (rwM m)) (((List.range n).drop (n - k)).map (rwM m)) = true := by
  intro k
  induction k with
  | zero =>
    intro _
    rw [Nat.sub_zero, List.drop_of_length_le (by simp)]; rfl
  | succ k ih =>
    intro hk
    have ih := ih (by omega)
    obtain ⟨j, hj⟩ : ∃ j, n - (k + 1) = j := ⟨_, rfl⟩
    have hj2 : n - k = j + 1 := by omega
    rw [hj2] at ih
    rw [hj, List.drop_eq_getElem_cons (by simp; omega), List.getElem_range, List.map_cons, okG]
    rw [List.range_succ, List.map_append] at ih
    have hp : plB (plT m n) n (rwM m j) = true := by
      unfold plB rwM lyRw
      simp only
      have e1 := pl_mod m j
      have e2 := pl_le' m (show j < n by omega)
      have e3 : plT m j = 12 + 16 * m.length + (bodT m j).length := rfl
      simp only [Bool.and_eq_true, decide_eq_true_eq]
      omega
    have hm : ((List.range j).map (rwM m)).any (fun q => meetB (rwM m j) q) = false := by
      rw [List.any_eq_false]
      intro q hq
      obtain ⟨i, hi, rfl⟩ := List.mem_map.1 hq
      have hi := List.mem_range.1 hi
      have e := pl_le' m hi
      unfold meetB rwM lyRw
      simp only
      intro h
      rw [decide_eq_true_eq] at h
      omega
    rw [hp, hm, Bool.not_false, Bool.true_and, Bool.true_and]
    exact ih
theorem laid_err {m : List Tab} {n : Nat} {T : List UInt8} (h : Laid m n T) (hgo : goM m) (hn : m.length = n) (h1 : 1 ≤ n) (h2 : n ≤ 32) (hsz : plT m n ≤ 1048576) :
    errV T = if ((List.range n).map (rwM m)).all (smB T) then 0 else 81 := by
  obtain ⟨hnt, hhd⟩ := laid_head h h1 h2 hn
  unfold errV
  rw [if_neg (by rw [h.len]; omega), hhd, hnt, laid_rows h hgo hn hsz, rise_rwM m n hn hgo, Bool.and_self, if_pos rfl, fauG_eq, h.len]
  have := okG_laid m n hn n (Nat.le_refl _)
  rw [Nat.sub_self, List.range_zero, List.map_nil, List.drop_zero] at this
  rw [this, if_pos rfl]
def pcT (m : List Tab) (T : List UInt8) (k : Nat) : List UInt8 := (T.drop (plT m k)).take (m.getD k tz).2.size
def pcS (m : List Tab) (T : List UInt8) (k : Nat) : Tab := ((m.getD k tz).1, ⟨(pcT m T k).toArray⟩)
theorem laid_tab {m : List Tab} {n : Nat} {T : List UInt8} (h : Laid m n T) (hgo : goM m) (hn : m.length = n) (h1 : 1 ≤ n) (h2 : n ≤ 32) (hsz : plT m n ≤ 1048576) (hE : errV T = 0) :
    tabV ⟨T.toArray⟩ = (List.range n).map (pcS m T) := by
  obtain ⟨hnt, hhd⟩ := laid_head h h1 h2 hn
  have hT : (⟨T.toArray⟩ : ByteArray).data.toList = T := rfl
  unfold tabV
  rw [hT, if_pos hE, hnt, laid_rows h hgo hn hsz, List.map_map]
  apply List.map_congr_left
  intro k hk
  have hk := List.mem_range.1 hk
  have hkl : k < m.length := by omega
  have h4 : (m.getD k tz).1.size = 4 := by rw [getD_some m k hkl]; exact hgo.1 _ (List.getElem_mem hkl)
  have e := pl_le' m hk
  show tbOf _ (rwM m k) = _
  unfold tbOf pcS
  rw [rwM_tag, tgT_ly m k h4]
  refine Prod.ext ?_ ?_
  · obtain ⟨⟨l⟩⟩ := (m.getD k tz).1; rfl
  · apply ByteArray.ext
    apply Array.toList_inj.1
    show ((⟨T.toArray⟩ : ByteArray).extract (rwM m k).pl.toNat ((rwM m k).pl.toNat + (rwM m k).ln.toNat)).data.toList = pcT m T k
    have p1 : (rwM m k).pl.toNat = plT m k := by unfold rwM lyRw; simp
    have p2 : (rwM m k).ln.toNat = (m.getD k tz).2.size := by unfold rwM lyRw; simp
    have hq : (⟨T.toArray⟩ : ByteArray).size = T.length := rfl
    rw [p1, p2, slice_list _ _ _ (by rw [hq, h.len]; omega), hT]
    unfold pcT
    rw [Nat.add_sub_cancel_left]
theorem sm_iff (m : List Tab) (T : List UInt8) (k : Nat) : smB T (rwM m k) = (sumV (dOf m k).data.toList == sumV (smdT (rwM m k) (pcT m T k))) := by
  unfold smB dtT pcT
  have p1 : (rwM m k).pl.toNat = plT m k := by unfold rwM lyRw; simp
  have p2 : (rwM m k).ln.toNat = (m.getD k tz).2.size := by unfold rwM lyRw; simp
  rw [p1, p2]
  show (((sumV (dOf m k).data.toList : Nat) : Int) == _) = _
  rw [Bool.eq_iff_iff, beq_iff_eq, beq_iff_eq]
  exact Int.natCast_inj
end Go.Proofs.YtpdfpbbamnhkfaaGreatDoor.S8
namespace Go.Proofs.YtpdfpbbamnhkfaaGreatDoor.S8
open Go.RowKit Go.Deep
set_option linter.unusedVariables false
def putA (s : List UInt8) (o : Nat) (z : List UInt8) : List UInt8 := s.take o ++ (z ++ s.drop (o + z.length))
theorem putA_get (s z : List UInt8) (o i : Nat) (h : o + z.length ≤ s.length) : (putA s o z)[i]? = if i < o then s[i]? else if i < o + z.length then z[i - o]? else s[i]? := by
  unfold putA
  have hl : (s.take o).length = o := by rw [List.length_take]; omega
  rw [List.getElem?_append, hl]
  split
  · rename_i hi
    rw [List.getElem?_take_of_lt hi]
  · rename_i hi
    rw [List.getElem?_append]
    split
    · rename_i h2
      rw [if_pos (by omega)]
    · rename_i h2
      rw [if_neg (by omega), List.getElem?_drop]
      congr 1; omega
theorem putA_len (s z : List UInt8) (o : Nat) (h : o + z.length ≤ s.length) : (putA s o z).length = s.length := by
  unfold putA
  simp; omega
theorem putA_far (s z : List UInt8) (o a b : Nat) (h : o + z.length ≤ s.length) (hd : a + b ≤ o ∨ o + z.length ≤ a) : ((putA s o z).drop a).take b = (s.drop a).take b := by
  apply List.ext_getElem?
  intro i
  rw [piece_get, piece_get]
  split
  · rw [putA_get _ _ _ _ h]
    rcases hd with hd | hd
    · rw [if_pos (by omega)]
    · rw [if_neg (by omega), if_neg (by omega)]
  · rfl
theorem putA_in (s z : List UInt8) (p L : Nat) (hz : z.length = 4) (hL : 12 ≤ L) (h : p + L ≤ s.length) : ((putA s (p + 8) z).drop p).take L = ((s.drop p).take L).take 8 ++ (z ++ ((s.drop p).take L).drop 12) := by
  have hl : (((s.drop p).take L).take 8).length = 8 := by simp; omega
  apply List.ext_getElem?
  intro i
  rw [piece_get, List.getElem?_append, hl]
  split
  · rename_i hi
    rw [putA_get _ _ _ _ (by omega)]
    split
    · rename_i h8
      rw [if_pos (by omega), List.getElem?_take_of_lt (by omega), piece_get, if_pos hi]
    · rename_i h8
      rw [List.getElem?_append, hz]
      split
      · rename_i h12
        rw [if_neg (by omega), if_pos (by omega)]
        congr 1; omega
      · rename_i h12
        rw [if_neg (by omega), if_neg (by omega), List.getElem?_drop, piece_get, if_pos (by omega)]
        congr 1; omega
  · rename_i hi
    rw [if_neg (by omega), List.getElem?_append, hz, if_neg (by omega), List.getElem?_drop, piece_get, if_neg (by omega)]
def rawT (m : List Tab) (n : Nat) : List UInt8 := openT n ++ (rowT m n ++ bodT m n)
theorem raw_len (m : List Tab) (n : Nat) (hn : m.length = n) (hok : okA m) : (rawT m n).length = plT m n := by
  have := row_len m hok n (by omega)
  unfold rawT plT
  rw [List.length_append, List.length_append, openT_len, this]; omega
theorem raw_piece (m : List Tab) (n k : Nat) (hn : m.length = n) (hok : okA m) (hk : k < n) : ((rawT m n).drop (plT m k)).take (m.getD k tz).2.size = (dOf m k).data.toList := by
  obtain ⟨r, h⟩ := bod_pre m (k + 1) (n - (k + 1))
  rw [show k + 1 + (n - (k + 1)) = n by omega] at h
  have h1 := row_len m hok n (by omega)
  have e : rawT m n = (openT n ++ rowT m n ++ bodT m k) ++ ((dOf m k).data.toList ++ (List.replicate ((4 - (dOf m k).data.toList.length % 4) % 4) 0 ++ r)) := by
    unfold rawT
    rw [h, bodT]
    unfold padT
    simp
  have hl : (openT n ++ rowT m n ++ bodT m k).length = plT m k := by
    unfold plT
    rw [List.length_append, List.length_append, openT_len, h1]; omega
  have hd : (dOf m k).data.toList.length = (m.getD k tz).2.size := by rw [← Lib.size_eq]; unfold dOf; rw [ownS_size]
  rw [e, List.drop_left' hl, List.take_left' hd]
theorem raw_hd (m : List Tab) (n : Nat) (hn : m.length = n) (hok : okA m) : (rawT m n).take (12 + 16 * n) = openT n ++ rowT m n := by
  have h1 := row_len m hok n (by omega)
  unfold rawT
  rw [← List.append_assoc, List.take_left' (by rw [List.length_append, openT_len, h1])]
def isH (m : List Tab) (k : Nat) : Bool := eqS (m.getD k tz).1 ⟨#[104, 101, 97, 100]⟩ && decide (12 ≤ (m.getD k tz).2.size)
theorem ow_cases (m : List Tab) (n : Nat) (hn : m.length = n) (hgo : goM m) : (owK m n = -1 ∧ ∀ k, k < n → isH m k = false) ∨ ∃ h, h < n ∧ isH m h = true ∧ owK m n = ((plT m h + 8 : Nat) : Int) ∧ ∀ k, k < n → k ≠ h → isH m k = false := by
  have key : ∀ j, j ≤ n → (owK m j = -1 ∧ ∀ k, k < j → isH m k = false) ∨ ∃ h, h < j ∧ isH m h = true ∧ owK m j = ((plT m h + 8 : Nat) : Int) ∧ ∀ k, k < j → k ≠ h → isH m k = false := by
    intro j
    induction j with
    | zero => intro _; exact Or.inl ⟨rfl, fun k hk => by omega⟩
    | succ j ih =>
      intro hj
      have hd : (dOf m j).size = (m.getD j tz).2.size := by unfold dOf; rw [ownS_size]
      cases hh : isH m j with
      | false =>
        have e : owK m (j + 1) = owK m j := by
          rw [owK, hd]
          unfold isH at hh
          rw [hh]; rfl
        rw [e]
        rcases ih (by omega) with ⟨h1, h2⟩ | ⟨h, h1, h2, h3, h4⟩
        · refine Or.inl ⟨h1, fun k hk => ?_⟩
          rcases Nat.lt_or_ge k j with h | h
          · exact h2 k h
          · rw [show k = j by omega]; exact hh
        · refine Or.inr ⟨h, by omega, h2, h3, fun k hk hne => ?_⟩
          rcases Nat.lt_or_ge k j with h' | h'
          · exact h4 k h' hne
          · rw [show k = j by omega]; exact hh
      | true =>
        have e : owK m (j + 1) = ((plT m j + 8 : Nat) : Int) := by
          rw [owK, hd]
          unfold isH at hh
          rw [hh]; simp
        refine Or.inr ⟨j, by omega, hh, e, fun k hk hne => ?_⟩
        cases hk2 : isH m k with
        | false => rfl
        | true =>
          exfalso
          unfold isH at hh hk2
          rw [Bool.and_eq_true, getD_some m j (by omega), eqS_iff] at hh
          rw [Bool.and_eq_true, getD_some m k (by omega), eqS_iff] at hk2
          exact st_ne ((go_iff m).1 hgo).2 (show k < j by omega) (by omega) (hk2.1.trans hh.1.symm)
  exact key n (Nat.le_refl _)
def nuT (m : List Tab) (n : Nat) : List UInt8 := f4 ((2981146554 - ((sumV (rawT m n) : Nat) : Int)) % 4294967296)
theorem nu_len (m : List Tab) (n : Nat) : (nuT m n).length = 4 := f4_len _
theorem txt_raw (m : List Tab) (n : Nat) (hn : m.length = n) (h : owK m n = -1) : txtV m = rawT m n := by
  unfold txtV
  rw [hn, h]; rfl
theorem txt_put (m : List Tab) (n o : Nat) (hn : m.length = n) (h : owK m n = (o : Int)) : txtV m = putA (rawT m n) o (nuT m n) := by
  unfold txtV putA
  rw [hn, h, if_pos (by omega), nu_len, Int.toNat_natCast]; rfl
def bkD (m : List Tab) (n k : Nat) : List UInt8 := if isH m k = true then (m.getD k tz).2.data.toList.take 8 ++ (nuT m n ++ (m.getD k tz).2.data.toList.drop 12) else (m.getD k tz).2.data.toList
def bkS (m : List Tab) (n k : Nat) : Tab := ((m.getD k tz).1, ⟨(bkD m n k).toArray⟩)
def bkM (m : List Tab) (n : Nat) : List Tab := (List.range n).map (bkS m n)
theorem isH_hd (m : List Tab) (k : Nat) (h4 : (m.getD k tz).1.size = 4) : isH m k = (isHd (rwM m k).b0 (rwM m k).b1 (rwM m k).b2 (rwM m k).b3 && decide (12 ≤ (m.getD k tz).2.size)) := by
  obtain ⟨b0, b1, b2, b3, e⟩ := four_of h4
  unfold isH rwM lyRw
  rw [e, eqS_hd, hd_eq]; rfl
theorem dOf_list (m : List Tab) (k : Nat) (h4 : (m.getD k tz).1.size = 4) : (dOf m k).data.toList = if isH m k = true then (m.getD k tz).2.data.toList.take 8 ++ ([0, 0, 0, 0] ++ (m.getD k tz).2.data.toList.drop 12) else (m.getD k tz).2.data.toList := by
  obtain ⟨b0, b1, b2, b3, e⟩ := four_of h4
  have h := smS_list ⟨b0, b1, b2, b3, 0, 0, 0⟩ (m.getD k tz).2
  have e1 : dOf m k = smS b0 b1 b2 b3 (m.getD k tz).2 := by unfold dOf ownS; rw [e]
  rw [e1, h]
  unfold smdT isH
  rw [e, eqS_hd, hd_eq, ← Lib.size_eq]
theorem smd_of (m : List Tab) (k : Nat) (d : List UInt8) (h4 : (m.getD k tz).1.size = 4) (hd : d.length = (m.getD k tz).2.size) : smdT (rwM m k) d = if isH m k = true then d.take 8 ++ ([0, 0, 0, 0] ++ d.drop 12) else d := by
  unfold smdT
  rw [isH_hd m k h4, hd]
theorem bkD_len (m : List Tab) (n k : Nat) : (bkD m n k).length = (m.getD k tz).2.size := by
  unfold bkD
  split
  · rename_i h
    unfold isH at h
    rw [Bool.and_eq_true, decide_eq_true_eq] at h
    rw [List.length_append, List.length_append, nu_len, List.length_take, List.length_drop, ← Lib.size_eq]; omega
  · rw [← Lib.size_eq]
theorem smd_bk (m : List Tab) (n k : Nat) (h4 : (m.getD k tz).1.size = 4) : smdT (rwM m k) (bkD m n k) = (dOf m k).data.toList := by
  rw [smd_of m k _ h4 (bkD_len m n k), dOf_list m k h4]
  unfold bkD
  by_cases h : isH m k = true
  · have h' := h
    unfold isH at h'
    rw [Bool.and_eq_true, decide_eq_true_eq] at h'
    have hl : ((m.getD k tz).2.data.toList.take 8).length = 8 := by rw [List.length_take, ← Lib.size_eq]; omega
    rw [if_pos h, if_pos h, if_pos h, List.take_left' hl, ← List.append_assoc _ (nuT m n), List.drop_left' (by rw [List.length_append, hl, nu_len])]
  · rw [if_neg h, if_neg h, if_neg h]
section
variable {m : List Tab} {n : Nat} (hgo : goM m) (hn : m.length = n)
include hgo hn
theorem h4_of {k : Nat} (hk : k < n) : (m.getD k tz).1.size = 4 := by
  rw [getD_some m k (by omega)]; exact hgo.1 _ (List.getElem_mem (by omega))
theorem txt_both : Laid m n (txtV m) ∧ ∀ k, k < n → pcT m (txtV m) k = bkD m n k := by
  have hok := go_ok m hgo
  have hl := raw_len m n hn hok
  have hpl : 12 + 16 * n ≤ plT m n := by unfold plT; omega
  rcases ow_cases m n hn hgo with ⟨h1, h2⟩ | ⟨h, h1, h2, h3, h5⟩
  · rw [txt_raw m n hn h1]
    refine ⟨⟨hl, raw_hd m n hn hok⟩, fun k hk => ?_⟩
    unfold pcT bkD
    rw [raw_piece m n k hn hok hk, dOf_list m k (h4_of hgo hn hk), h2 k hk]
    simp
  · rw [txt_put m n _ hn h3]
    have h2' := h2
    unfold isH at h2'
    rw [Bool.and_eq_true, decide_eq_true_eq] at h2'
    have hph := pl_le' m h1
    have hzl := nu_len m n
    have hfit : plT m h + 8 + (nuT m n).length ≤ (rawT m n).length := by omega
    have hp0 : 12 + 16 * n ≤ plT m h := by unfold plT; omega
    refine ⟨⟨by rw [putA_len _ _ _ hfit]; exact hl, ?_⟩, fun k hk => ?_⟩
    · have := putA_far (rawT m n) (nuT m n) (plT m h + 8) 0 (12 + 16 * n) hfit (Or.inl (by omega))
      rw [List.drop_zero, List.drop_zero] at this
      rw [this]; exact raw_hd m n hn hok
    · unfold pcT
      by_cases hkh : k = h
      · subst hkh
        rw [putA_in _ _ _ _ hzl h2'.2 (by omega), raw_piece m n k hn hok hk, dOf_list m k (h4_of hgo hn hk)]
        unfold bkD
        have hl8 : ((m.getD k tz).2.data.toList.take 8).length = 8 := by rw [List.length_take, ← Lib.size_eq]; omega
        rw [if_pos h2, if_pos h2, List.take_left' hl8, ← List.append_assoc _ [0, 0, 0, 0], List.drop_left' (by rw [List.length_append, hl8]; rfl)]
      · rw [putA_far _ _ _ _ _ hfit ?_, raw_piece m n k hn hok hk, dOf_list m k (h4_of hgo hn hk)]
        · unfold bkD
          rw [h5 k hk hkh]; simp
        · rcases Nat.lt_or_ge k h with h' | h'
          · have := pl_le' m h'; left; omega
          · have := pl_le' m (show h < k by omega); right; omega
theorem txt_err (h1 : 1 ≤ n) (h2 : n ≤ 32) (hsz : plT m n ≤ 1048576) : errV (txtV m) = 0 := by
  obtain ⟨hL, hP⟩ := txt_both hgo hn
  rw [laid_err hL hgo hn h1 h2 hsz, if_pos]
  rw [List.all_eq_true]
  intro r hr
  obtain ⟨k, hk, rfl⟩ := List.mem_map.1 hr
  have hk := List.mem_range.1 hk
  rw [sm_iff, hP k hk, smd_bk m n k (h4_of hgo hn hk), beq_iff_eq]
theorem txt_tab (h1 : 1 ≤ n) (h2 : n ≤ 32) (hsz : plT m n ≤ 1048576) : tabV ⟨(txtV m).toArray⟩ = bkM m n := by
  obtain ⟨hL, hP⟩ := txt_both hgo hn
  rw [laid_tab hL hgo hn h1 h2 hsz (txt_err hgo hn h1 h2 hsz)]
  unfold bkM
  apply List.map_congr_left
  intro k hk
  unfold pcS bkS
  rw [hP k (List.mem_range.1 hk)]
end
end Go.Proofs.YtpdfpbbamnhkfaaGreatDoor.S8
namespace Go.Proofs.YtpdfpbbamnhkfaaGreatDoor.S8
open Go.RowKit Go.Deep
set_option linter.unusedVariables false
set_option linter.unusedSectionVars false
theorem bk_len (m : List Tab) (n : Nat) : (bkM m n).length = n := by unfold bkM; simp
theorem bk_at (m : List Tab) (n k : Nat) (h : k < n) : (bkM m n)[k]? = some (bkS m n k) := by unfold bkM; simp [h]
theorem rise_cong : ∀ (m m' : List Tab) (a : List UInt8), m.map (·.1) = m'.map (·.1) → riseM a m = riseM a m'
  | [], [], a, _ => rfl
  | [], x :: m', a, h => by simp at h
  | x :: m, [], a, h => by simp at h
  | x :: m, y :: m', a, h => by
    simp only [List.map_cons, List.cons.injEq] at h
    rw [riseM, riseM, h.1, rise_cong m m' _ h.2]
theorem bs_ext {a b : ByteArray} (h : a.data.toList = b.data.toList) : a = b := by
  apply ByteArray.ext
  exact Array.toList_inj.1 h
theorem fin_of (l : List Tab) (hd : l.Pairwise fun x y => x.1 ≠ y.1) (x : Tab) (hx : x ∈ l) : finV l x.1 = some x.2 := by
  induction l with
  | nil => simp at hx
  | cons y l ih =>
    have hd' := List.pairwise_cons.1 hd
    unfold finV
    by_cases e : y.1 = x.1
    · rw [List.find?_cons_of_pos (by rw [eqS_iff]; exact e)]
      rcases List.mem_cons.1 hx with rfl | hx
      · rfl
      · exact absurd e (hd'.1 x hx)
    · rw [List.find?_cons_of_neg (by rw [eqS_no e]; simp)]
      rcases List.mem_cons.1 hx with rfl | hx
      · exact absurd rfl e
      · exact ih hd'.2 hx
theorem st_pw {m : List Tab} (h : StT m) : m.Pairwise fun x y => x.1 ≠ y.1 := h.imp fun {a b} hab e => by rw [e, less_irrefl] at hab; cases hab
section
variable {m : List Tab} {n : Nat} (hgo : goM m) (hn : m.length = n)
include hn
theorem bk_tags : (bkM m n).map (·.1) = m.map (·.1) := by
  apply List.ext_getElem?
  intro i
  rw [List.getElem?_map, List.getElem?_map]
  rcases Nat.lt_or_ge i n with h | h
  · rw [bk_at m n i h, List.getElem?_eq_getElem (by omega)]
    show some (m.getD i tz).1 = _
    rw [getD_some m i (by omega)]; rfl
  · rw [List.getElem?_eq_none (by rw [bk_len]; exact h), List.getElem?_eq_none (by omega)]
include hgo
theorem bk_go : goM (bkM m n) := by
  refine ⟨fun x hx => ?_, by rw [rise_cong _ m _ (bk_tags hn)]; exact hgo.2⟩
  unfold bkM at hx
  obtain ⟨k, hk, rfl⟩ := List.mem_map.1 hx
  exact h4_of hgo hn (List.mem_range.1 hk)
end
end Go.Proofs.YtpdfpbbamnhkfaaGreatDoor.S8
