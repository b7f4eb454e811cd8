/-
  The reference's Copy of a file once more: its entries are a row that the call owns; an entry of the caller's appended to it.
-/
import Derived.Test.YtlnkddmpcicejaaDoorQA
namespace Go.Proofs.YtlnkddmpcicejaaDoor
open Go.RowKit Go.Deep
set_option linter.unusedVariables false

theorem ERow.kept {w w1 : World} {B : Nat} {v : Value} {l : List EEnt} (h : ERow w B v l) (hs : w.heap.size ≤ w1.heap.size) (hk : ∀ k, B ≤ k → k < w.heap.size → w1.heap[k]? = w.heap[k]?) : ERow w1 B v l :=
  ⟨ownsRow_kept h.1 hk, fun y hy => OIn.sub (only_sub hs fun k h1 h2 => ⟨h1, hk k h1.1 h2⟩) (h.2 y hy)⟩
theorem sub_old {w w' : World} (hs : w.heap.size ≤ w'.heap.size) (hk : ∀ k, k < w.heap.size → w'.heap[k]? = w.heap[k]?) : Sub w w' :=
  ⟨hs, fun p v hv => by
    rcases Nat.lt_or_ge p.block w.heap.size with hl | hl
    · rw [World.cell?_of_block (w := w) (w' := w') (hk _ hl)]; exact hv
    · unfold World.cell? at hv; rw [Array.getElem?_eq_none hl] at hv; cases hv⟩
theorem app_entF {W W1 : World} {B n0 : Nat} {v : Value} {l : List EEnt} (x : EEnt) (h : ERow W B v l) (hs1 : W.heap.size ≤ W1.heap.size) (hk1 : ∀ k, k < W.heap.size → W1.heap[k]? = W.heap[k]?) (hB : B ≤ W.heap.size) (hn0 : n0 ≤ B)
    (hx : ∀ W' : World, W.heap.size ≤ W'.heap.size → (∀ k, k < n0 → W'.heap[k]? = W.heap[k]?) → x.lies W') (hn : l.length + 1 ≤ 1256584717450) (hd : ∀ e ∈ eps l ++ [x.e], e.da.size ≤ 140737488351232) (H : Nat) (hH : W1.heap.size = H) :
    ∃ g cap w2, (Builtin.append_ #[22, 22] 22 #[v, .slice (some ⟨H, 0, none⟩) 1 1]).run Tryd.prog (W1.alloc (.cells x.cells.toArray 41)) = .ok (.slice (some ⟨g, 0, none⟩) (eps l ++ [x.e]).length cap) w2 ∧
      (∀ W' : World, w2.heap.size ≤ W'.heap.size → (∀ k, (k < W.heap.size ∨ W1.heap.size ≤ k) → k < w2.heap.size → W'.heap[k]? = w2.heap[k]?) → FIn W' (eps l ++ [x.e]) (some ⟨g, 0, none⟩) cap) ∧ Below B W1 w2 ∧
      (∀ k, W.heap.size ≤ k → k < W1.heap.size → w2.heap[k]? = W1.heap[k]?) := by
  obtain ⟨i0, hi, hz0, hz1, hz2⟩ := info_parts5 info_entry
  have hown : (W1.alloc (.cells x.cells.toArray 41)).ownsRow B 41 8 v l.length (eecells l) := (ownsRow_kept h.1 (fun k _ h2 => hk1 k h2)).alloc _
  subst hH
  have hlen : (eps l ++ [x.e]).length = l.length + 1 := by simp
  rw [hlen]
  obtain ⟨g, cap, w2, hr, ho, hg, hat, hlt⟩ := run_append_lies (P := Tryd.prog) (W1.alloc (.cells x.cells.toArray 41)) 22 22 B 41 i0 _ 8 112 Tryd.underlying22 hi hz0 hz1 hz2 rfl (by decide) v l.length (eecells l) hown ⟨W1.heap.size, 0, none⟩ 1 1 x.cells rfl
    (fun j u hu => by rw [Go.WideShapes.add_plain, Nat.zero_add, World.cell?_alloc_at _ _ _ _ rfl]; simpa using hu) (fun u hu => by simp [EEnt.cells] at hu; rcases hu with rfl | rfl | rfl | rfl | rfl | rfl | rfl | rfl <;> rfl) (by decide) (by unfold maxLen; omega) (by omega) (by simp; omega) (W1.heap.size + 1) (by simp)
  have hbel : Below B W1 w2 := ((Below.refl B W1).alloc (by omega) _).grown hg (by simp; omega) fun k hk' => (World.ownsRow.lt h.1 k hk').1
  have hgat : g < W.heap.size ∨ W1.heap.size ≤ g := by
    rcases hat with ha | ha
    · exact Or.inl (World.ownsRow.lt h.1 g ha).2
    · exact Or.inr (by rw [ha]; simp)
  refine ⟨g, cap, w2, hr, fun W' hs hk => ?_, hbel, fun k h1 h2 => ?_⟩
  rotate_left
  · rw [hg.block k (by simp; omega) (fun e => by have := (World.ownsRow.lt h.1 k e.symm).2; omega), Below.heap_alloc _ _ _ h2]
  have ho' : W'.ownsRow B 41 8 (.slice (some ⟨g, 0, none⟩) (l.length + 1) cap) (l.length + 1) (eecells (l ++ [x])) := by
    rw [eecells_append]
    have hgl := (World.ownsRow.lt ho g rfl).2
    obtain ⟨h1, ⟨h2, _⟩ | ⟨g', cap', cur, hv, hgB, hh, hrr⟩⟩ := ho
    · cases h2
    · have hgg : g = g' := by have e := congrArg Value.ownBlock hv; simpa [Value.ownBlock] using e
      subst hgg
      exact ⟨h1, Or.inr ⟨g, cap', cur, hv, hgB, (hk g hgat hgl).trans hh, hrr⟩⟩
  have hl' : ∀ y ∈ l ++ [x], y.lies W' := fun y hy => by
    rcases List.mem_append.1 hy with hy | hy
    · refine OIn.sub (fresh_sub B W') (OIn.sub (only_sub (Nat.le_trans hs1 (Nat.le_trans hbel.size hs)) fun k h1 h2 => ⟨h1.1, ?_⟩) (h.2 y hy))
      rw [hk k (Or.inl h2) (Nat.lt_of_lt_of_le h2 (Nat.le_trans hs1 hbel.size)), hg.block k (by simp; omega) (fun e => h1.2 e.symm), Below.heap_alloc _ _ _ (by omega), hk1 k h2]
    · obtain rfl : y = x := by simpa using hy
      refine hx W' (Nat.le_trans hs1 (Nat.le_trans hbel.size hs)) fun k h1 => ?_
      rw [hk k (Or.inl (by omega)) (Nat.lt_of_lt_of_le (by omega) hbel.size), hbel.block k (by omega), hk1 k (by omega)]
  have ho2 := ho'
  obtain ⟨_, ⟨h0, h1⟩ | ⟨g', cap', cur, hv, hgB, hh, hc, hm, _⟩⟩ := ho2
  · cases h0
  · have hcc : cap = cap' := by injection hv
    subst hcc
    refine ⟨⟨⟨by rw [hlen]; simpa using hc, by rw [hlen]; exact hn⟩, by unfold maxLen at hm; exact hm⟩, hd, Or.inr ⟨g, 0, rfl, (World.ownsRow.lt ho' g rfl).2, ?_⟩⟩
    have := erows_cells (w := W') (l := l ++ [x]) (b := g) (off := 0) (fun j hj => by
      have he := World.ownsRow.cellAt ho' j (by simpa using hj)
      rw [Nat.zero_add]
      exact he) hl'
    simpa [eps] using this
def CeR (w : World) (l : List EP) (root : Int) (e : Ending) (w' : World) : Prop := ∃ (ea : Option Addr) (ec : Nat) (l' : List EEnt), e = .returned (fv l ea ec root) ∧ eps l' = l ∧ ERow w' (w.heap.size + 1 + 1) (.slice ea l.length ec) l' ∧ w.heap.size + 1 + 1 ≤ w'.heap.size
set_option maxRecDepth 8000 in
set_option maxHeartbeats 4000000 in
theorem fcopyE_any (l : List EP) (ea : Option Addr) (ec : Nat) (root : Int) (w : World) (hin : FIn w l ea ec) :
    Calls Tryd.prog 7 #[fv l ea ec root] w fun e w' => CeR w l root e w' ∧ Below w.heap.size w w' := by
  have HI := hide hin
  have hl1 : (l.length : Int) ≤ 1256584717450 := by have h := hin.1.1.2; omega
  have hl0 : (0 : Int) ≤ (l.length : Int) := by omega
  have HB0 := hide (((Below.refl w.heap.size w).alloc (Nat.le_refl _) (.cells (fbox l ea ec root) 24)).alloc (by simp) (.cells zfile 24))
  have HK0 := hide ((Blk.new w (fbox l ea ec root) 24).below ((Below.refl _ _).alloc (Nat.le_refl _) (.cells zfile 24)))
  have HZ0 : Hid (Blk ((w.alloc (.cells (fbox l ea ec root) 24)).alloc (.cells zfile 24)) (w.heap.size + 1) zfile 24) := hide (by
    have := Blk.new (w.alloc (.cells (fbox l ea ec root) 24)) zfile 24
    rwa [show (w.alloc (.cells (fbox l ea ec root) 24)).heap.size = w.heap.size + 1 by simp] at this)
  have hz0 : w.heap.size + 1 + 1 ≤ ((w.alloc (.cells (fbox l ea ec root) 24)).alloc (.cells zfile 24)).heap.size := by simp
  obtain ⟨b, off, hea, hrows⟩ := hin.at_
  have HEA := hide hea
  have HRW := hide hrows
  clear hin hea hrows
  go_enter Tryd.func7, Tryd.ntmps7
  go_wp2_with fail
  go_loopw [3, 4] (fun vl vi wr => ∃ (k : Nat) (l' : List EEnt) (U : List EP), vi = .int .i64 k ∧ Hid (U.length + k = l.length ∧ ERows w U b (off + k * 8) ∧ eps l' ++ U = l ∧ l'.length = k ∧ ERow wr (w.heap.size + 1 + 1) vl l' ∧ Below w.heap.size w wr ∧ Blk wr w.heap.size (fbox l ea ec root) 24 ∧ Blk wr (w.heap.size + 1) zfile 24 ∧ w.heap.size + 1 + 1 ≤ wr.heap.size)) (fun _ vi _ => l.length - (intOf vi).toNat)
  case atStart => exact ⟨0, [], l, rfl, hide ⟨by omega, by simpa using HRW.out, rfl, rfl, ERow.nil _ _, HB0.out, HK0.out, HZ0.out, hz0⟩⟩
  case round =>
    clear HB0 HK0 HZ0 HRW hz0
    obtain ⟨k, l', U, rfl, HV⟩ := hrel
    obtain ⟨hk, hrow, hj, hlen, hor, hbel, hblk, hzb, hsz⟩ := HV.out
    have HB := hide hbel
    have HK := hide hblk
    have HZ := hide hzb
    have HOR := hide hor
    have HJ := hide hj
    have HLN := hide hlen
    obtain ⟨⟨s0, s1⟩, _⟩ := hblk.two
    have hk0 : (0 : Int) ≤ (k : Int) := by omega
    cases U with
    | nil =>
      have hk' : (l.length : Int) ≤ (k : Int) := by simp at hk; omega
      have hjl : eps l' = l := by simpa using hj
      obtain ⟨fa, fc, rfl, hfin⟩ := hor.file (by rw [hlen]; simp at hk; have := HI.out.1.1.2; omega) (by rw [hjl]; exact HI.out.2.1)
      rw [hjl] at hfin ⊢
      have hor2 := HOR.out
      rw [hjl] at hor2
      have HO2 := hide hor2
      have HJL := hide hjl
      clear hor2
      obtain ⟨⟨r0, r1⟩, y0, y1⟩ := hzb.two
      clear HV hk hrow hj hlen hor hbel hblk hzb hjl hfin
      go_wp2_with fail
      have hbf : Below w.heap.size w ((wr.setCell ⟨w.heap.size + 1, 0, none⟩ (.slice fa l.length fc)).setCell ⟨w.heap.size + 1, 1, none⟩ (.int .i64 root)) := (HB.out.setCell (p := ⟨w.heap.size + 1, 0, none⟩) (by simp) _).setCell (p := ⟨w.heap.size + 1, 1, none⟩) (by simp) _
      have hkf := (HZ.out.set 0 (.slice fa l.length fc)).set 1 (.int .i64 root)
      have hsub : ERow ((wr.setCell ⟨w.heap.size + 1, 0, none⟩ (.slice fa l.length fc)).setCell ⟨w.heap.size + 1, 1, none⟩ (.int .i64 root)) (w.heap.size + 1 + 1) (.slice fa l.length fc) l' := by
        refine HO2.out.kept (by simp [World.setCell]) fun k h1 h2 => ?_
        rw [Below.heap_setCell _ _ _ _ (by simp; omega), Below.heap_setCell _ _ _ _ (by simp; omega)]
      have hzz : w.heap.size + 1 + 1 ≤ ((wr.setCell ⟨w.heap.size + 1, 0, none⟩ (.slice fa l.length fc)).setCell ⟨w.heap.size + 1, 1, none⟩ (.int .i64 root)).heap.size := by simpa [World.setCell] using hsz
      generalize ((wr.setCell ⟨w.heap.size + 1, 0, none⟩ (.slice fa l.length fc)).setCell ⟨w.heap.size + 1, 1, none⟩ (.int .i64 root)) = wf at hbf hkf hsub hzz ⊢
      have f0 := hkf.cell 0
      have f1 := hkf.cell 1
      simp at f0 f1
      refine bodyPost_ret (v := fv l fa fc root) (by simp [results, Tryd.results7, go_sem, f0, f1]) rfl ⟨⟨fa, fc, l', rfl, HJL.out, hsub, hzz⟩, hbf⟩
    | cons x U =>
      obtain ⟨⟨⟨ka, kc, ia, ic, g6, gin⟩, gs, gd⟩, grest⟩ := hrow
      obtain rfl | ⟨rfl, hbz⟩ := HEA.out
      · simp at hk
      have hlt : (k : Int) < (l.length : Int) := by simp at hk; omega
      have hal := (Below.refl wr.heap.size wr).alloc (Nat.le_refl _) (.cells (ebox x ka kc ia ic) 41)
      have CI := hide (rcopy_any x.p x.T ka kc ia ic (wr.alloc (.cells (ebox x ka kc ia ic) 41)) ((gin.below hbel).below hal))
      have HAL := hide hal
      have HX0 := hide (Blk.new wr (ebox x ka kc ia ic) 41)
      obtain ⟨c0, c1, c2, c3, c4, c5⟩ := g6.below hbz hbel
      have c6 := (hbel.cell (p := ⟨b, off + k * 8 + 6, none⟩) hbz).trans gs
      have c7 := (hbel.cell (p := ⟨b, off + k * 8 + 7, none⟩) hbz).trans gd
      have HGR := hide grest
      have HKK := hide (show U.length + (k + 1) = l.length by simp at hk; omega)
      have HSZ := hide hsz
      clear HV hk hj hlen hor hbel hblk hzb g6 gin gs gd grest hal
      go_wp2_with fail
      refine CI.out.mono ?_
      rintro e w2 ⟨⟨kb, kd, ib, id, rfl, hin2⟩, h2⟩
      have h2' : Below wr.heap.size wr w2 := below_t5 HAL.out h2
      have hx2 := HX0.out.below h2
      have hlt2 : wr.heap.size < w2.heap.size := hx2.lt
      obtain ⟨_, z0, z1, z2, z3, z4, z5⟩ := hx2.eight
      obtain ⟨⟨d0, d1, d2, d3, d4, d5, d6, d7⟩, _⟩ := hx2.eight
      have hx3 := st6_blk8 hx2 (.int .i64 x.p.kind) (.bool x.p.flag) (.int .i64 x.p.num) (.string x.p.text) (.slice kb x.p.keys.length kd) (.slice ib (flen x.T) id)
      obtain ⟨⟨e0, e1, e2, e3, e4, e5, e6, e7⟩, _⟩ := hx3.eight
      have hb3 : Below wr.heap.size wr (st6 w2 wr.heap.size (.int .i64 x.p.kind) (.bool x.p.flag) (.int .i64 x.p.num) (.string x.p.text) (.slice kb x.p.keys.length kd) (.slice ib (flen x.T) id)) := st6_below h2' (Nat.le_refl _) _ _ _ _ _ _
      have hli : (EEnt.mk x kb kd ib id).lies (fresh wr.heap.size (st6 w2 wr.heap.size (.int .i64 x.p.kind) (.bool x.p.flag) (.int .i64 x.p.num) (.string x.p.text) (.slice kb x.p.keys.length kd) (.slice ib (flen x.T) id))) :=
        OIn.sub (only_sub (by rw [st6_size]; exact Nat.le_refl _) fun k h1 h2 => ⟨by simp at h1; omega, st6_block (by simp at h1; omega) _ _ _ _ _ _⟩) hin2
      obtain ⟨g, cap, w5, hr, hor5, hb5⟩ := app_ent (EEnt.mk x kb kd ib id) HOR.out hb3.size (fun k h1 h2 => hb3.block k h2) HSZ.out hli (by rw [HLN.out]; have := HI.out.1.1.2; omega) w2.heap.size (by rw [st6_size])
      have HR := hide hr
      have HO5 := hide hor5
      have HB5 := hide (show Below w.heap.size w w5 from (below_t5 HB.out hb3).trans (hb5.mono (by omega)))
      have HK5 := hide ((HK.out.below hb3).kept hb5 (by omega))
      have HZ5 := hide ((HZ.out.below hb3).kept hb5 (by omega))
      have HS5 := hide (show w.heap.size + 1 + 1 ≤ w5.heap.size from Nat.le_trans (Nat.le_trans HSZ.out hb3.size) hb5.size)
      clear hr hor5 hb5 hli hb3 hx3 hx2 h2' h2 hin2 CI c0 c1 c2 c3 c4 c5 c6 c7 d6 d7
      go_wp2_with (at_builtin; refine Lib.wpList_append_run _ rfl _ _ _ _ rfl _ _ rfl rfl _ _ HR.out ?_)
      go_roundw
      case rel =>
        exact ⟨k + 1, l' ++ [EEnt.mk x kb kd ib id], U, by go_num, hide ⟨HKK.out, by have := HGR.out; rw [show off + (k + 1) * 8 = off + k * 8 + 8 by omega]; exact this, by have := HJ.out; simpa using this, by simp [HLN.out], HO5.out, HB5.out, HK5.out, HZ5.out, HS5.out⟩⟩
      case measure => simp [intOf]; omega
end Go.Proofs.YtlnkddmpcicejaaDoor
