/-
  What the reference's Copy and the law's Large answer.
-/
import Derived.Test.YtkdnoemakclmdaaM9Un
import Derived.Deep.AppendSrc
import Derived.Deep.CutRange
namespace Go.Proofs.Ytkdnoemakclmdaa
open Go.RowKit Go.Deep
set_option linter.unusedVariables false

theorem newCell9 (zs : List Int) (i : Nat) (h : i < zs.length) (rest : Array Value) : (((zs.map (Value.int .i64)).toArray ++ rest)[i]?) = some (.int .i64 (zs.getD i 0)) := by
  rw [Array.getElem?_append_left (by simpa using h)]
  simp [List.getElem?_eq_getElem h, List.getD_eq_getElem?_getD]
theorem app_copy (w : World) (a : Option Addr) (n c H : Nat) (zs : List Int) (hz : zs.length = n) (h : n ≤ 100000) (hL : Lst w a zs) (hH : w.heap.size = H) :
    ∃ g c' w', (Builtin.append_ #[23, 23] 23 #[.slice (some ⟨H, 0, none⟩) 0 0, .slice a n c]).run Try.prog (w.alloc (.cells #[] 3)) = .ok (.slice (some ⟨g, 0, none⟩) n c') w' ∧ Lst w' (some ⟨g, 0, none⟩) zs ∧ w.heap.size ≤ g ∧ Below w.heap.size w w' := by
  subst hH
  obtain ⟨i0, hi, hz0, hz1, hz2⟩ := info_parts5 info_int
  rcases Nat.eq_zero_or_pos n with h0 | h0
  · subst h0
    obtain rfl : zs = [] := List.eq_nil_of_length_eq_zero hz
    have hs : Src Try.prog i0.size 23 (.slice a 0 c) 0 [] (w.alloc (.cells #[] 3)) := by
      cases a with
      | none => exact Src.ofNil _ Try.underlying23 c
      | some x => exact Src.ofSlice _ Try.underlying23 x 0 c [] (by simp) (by simp) (by simp)
    have hr := run_append_room_src (P := Try.prog) (w.alloc (.cells #[] 3)) 23 23 23 3 i0 Try.underlying23 hi w.heap.size 0 0 0 _ 0 [] hs (by omega) (by simp) (by simp)
    refine ⟨w.heap.size, 0, w.alloc (.cells #[] 3), by simpa [World.setCells] using hr, Or.inl rfl, Nat.le_refl _, (Below.refl _ _).alloc (Nat.le_refl _) _⟩
  · rcases hL with hz' | ⟨b, off, rfl, hb, hcell⟩
    · rw [hz'] at hz; simp at hz; omega
    have hs : Src Try.prog i0.size 23 (.slice (some ⟨b, off, none⟩) n c) n (zs.map (Value.int .i64)) (w.alloc (.cells #[] 3)) := by
      refine Src.ofSlice (w.alloc (.cells #[] 3)) Try.underlying23 ⟨b, off, none⟩ n c _ (by rw [hz1]; simp [hz]) ?_ (ints_oneCell .i64 zs)
      intro j u hu
      have hj : j < zs.length := by
        have := List.getElem?_eq_some_iff.1 hu
        simpa using this.1
      rw [Go.WideShapes.add_plain, World.cell?_alloc_lt _ _ _ hb, hcell j hj]
      rw [List.getElem?_map, List.getElem?_eq_getElem hj] at hu
      simp at hu
      rw [← hu, List.getD_eq_getElem?_getD, List.getElem?_eq_getElem hj]
      rfl
    have hr := run_append_grow_src (P := Try.prog) (w.alloc (.cells #[] 3)) 23 23 23 3 i0 (.int .i64 0) Try.underlying23 hi hz0 (some ⟨w.heap.size, 0, none⟩) 0 0 [] (run_firstCells_some _ i0.size 0 _ 0 0 [] (by simp) (by simp)) _ n _ hs (by omega) (by omega)
      (by rw [hz2]; have := growslice_fits (need := 0 + n) (old := 0) (bytes := 8) (by omega) (by omega); exact this)
    simp only [Nat.zero_add, List.nil_append] at hr
    have hs2 : (w.alloc (.cells #[] 3)).heap.size = w.heap.size + 1 := by simp
    rw [hs2] at hr
    have b1 : Below w.heap.size w ((w.alloc (.cells #[] 3)).drew) := ((Below.refl _ _).alloc (Nat.le_refl _) _).drew
    have hsz : ((w.alloc (.cells #[] 3)).drew).heap.size = w.heap.size + 1 := by simp
    refine ⟨_, _, _, hr, Or.inr ⟨w.heap.size + 1, 0, rfl, by simp, fun i hi => ?_⟩, by omega, b1.alloc (by rw [hsz]; omega) _⟩
    rw [Nat.zero_add, World.cell?_alloc_at _ _ _ _ hsz.symm, newCell9 zs i hi]
theorem Lst.other {w : World} {p b o : Nat} {zs : List Int} (h : Lst w (some ⟨p, 0, none⟩) zs) (hne : p ≠ b) (v : Value) : Lst (w.setCell ⟨b, o, none⟩ v) (some ⟨p, 0, none⟩) zs := by
  rcases h with h | ⟨c, off, h1, h2, h3⟩
  · exact Or.inl h
  · obtain ⟨rfl, rfl⟩ : p = c ∧ 0 = off := by simpa using h1
    refine Or.inr ⟨p, 0, rfl, by simp [World.setCell]; exact h2, fun i hi => ?_⟩
    rw [World.cell?_of_block (w := w) (Below.heap_setCell _ _ _ _ hne)]
    exact h3 i hi
theorem Lst.but {w w' : World} {p b : Nat} {zs : List Int} (h : Lst w (some ⟨p, 0, none⟩) zs) (hb : But b w w') (hne : p ≠ b) : Lst w' (some ⟨p, 0, none⟩) zs := by
  rcases h with h | ⟨c, off, h1, h2, h3⟩
  · exact Or.inl h
  · obtain ⟨rfl, rfl⟩ : p = c ∧ 0 = off := by simpa using h1
    refine Or.inr ⟨p, 0, rfl, Nat.lt_of_lt_of_le h2 hb.size, fun i hi => ?_⟩
    rw [World.cell?_of_block (w := w) (hb.block p h2 hne)]
    exact h3 i hi
set_option maxHeartbeats 2000000 in
theorem cp_any (m : Mt) (aa ab : Option Addr) (na ca nb cb : Nat) (w : World) (hna : m.ad.length = na) (hnb : m.be.length = nb) (hma : na ≤ 100000) (hmb : nb ≤ 100000) (hA : Lst w aa m.ad) (hB : Lst w ab m.be) :
    Calls Try.prog 7 #[.agg (mcs m (.slice aa na ca) (.slice ab nb cb))] w fun e w' => ∃ p q cp cq, e = .returned (.agg (mcs m (.slice (some ⟨p, 0, none⟩) na cp) (.slice (some ⟨q, 0, none⟩) nb cq))) ∧ Lst w' (some ⟨p, 0, none⟩) m.ad ∧ Lst w' (some ⟨q, 0, none⟩) m.be ∧ Below w.heap.size w w' := by
  obtain ⟨up, sc, de, ga, b0, b1, b2, b3, lg, ad, be⟩ := m
  have HA := hide (And.intro hna (And.intro hnb (And.intro hma (And.intro hmb (And.intro hA hB)))))
  clear hna hnb hma hmb hA hB
  simp only [mcs] at HA ⊢
  have b1' := (Below.refl w.heap.size w).alloc (Nat.le_refl _) (.cells #[.int .i64 up, .int .i64 sc, .int .i64 de, .int .i64 ga, .int .i64 b0, .int .i64 b1, .int .i64 b2, .int .i64 b3, .bool lg, .slice aa na ca, .slice ab nb cb] 25)
  have k1 := Blk.new w #[.int .i64 up, .int .i64 sc, .int .i64 de, .int .i64 ga, .int .i64 b0, .int .i64 b1, .int .i64 b2, .int .i64 b3, .bool lg, .slice aa na ca, .slice ab nb cb] 25
  have z1 : (w.alloc (.cells #[.int .i64 up, .int .i64 sc, .int .i64 de, .int .i64 ga, .int .i64 b0, .int .i64 b1, .int .i64 b2, .int .i64 b3, .bool lg, .slice aa na ca, .slice ab nb cb] 25)).heap.size = w.heap.size + 1 := by simp
  have bb2 := (Below.refl (w.alloc (.cells #[.int .i64 up, .int .i64 sc, .int .i64 de, .int .i64 ga, .int .i64 b0, .int .i64 b1, .int .i64 b2, .int .i64 b3, .bool lg, .slice aa na ca, .slice ab nb cb] 25)).heap.size (w.alloc (.cells #[.int .i64 up, .int .i64 sc, .int .i64 de, .int .i64 ga, .int .i64 b0, .int .i64 b1, .int .i64 b2, .int .i64 b3, .bool lg, .slice aa na ca, .slice ab nb cb] 25))).alloc (Nat.le_refl _) (.cells zeroC 25)
  have k2 := Blk.new (w.alloc (.cells #[.int .i64 up, .int .i64 sc, .int .i64 de, .int .i64 ga, .int .i64 b0, .int .i64 b1, .int .i64 b2, .int .i64 b3, .bool lg, .slice aa na ca, .slice ab nb cb] 25)) zeroC 25
  have z2 : ((w.alloc (.cells #[.int .i64 up, .int .i64 sc, .int .i64 de, .int .i64 ga, .int .i64 b0, .int .i64 b1, .int .i64 b2, .int .i64 b3, .bool lg, .slice aa na ca, .slice ab nb cb] 25)).alloc (.cells zeroC 25)).heap.size = w.heap.size + 1 + 1 := by simp
  rw [z1] at k2
  have k1b := k1.below bb2
  have bv := below_t5 b1' bb2
  obtain ⟨p, cp, W1, hr1, hl1, hp1, hb1⟩ := app_copy ((w.alloc (.cells #[.int .i64 up, .int .i64 sc, .int .i64 de, .int .i64 ga, .int .i64 b0, .int .i64 b1, .int .i64 b2, .int .i64 b3, .bool lg, .slice aa na ca, .slice ab nb cb] 25)).alloc (.cells zeroC 25)) aa na ca (w.heap.size + 1 + 1) ad HA.out.1 HA.out.2.2.1 (HA.out.2.2.2.2.1.below bv) z2
  have k1c := k1b.below hb1
  have k2c := k2.below hb1
  have bw1 := below_t5 bv hb1
  have hset : But w.heap.size W1 (W1.setCell ⟨w.heap.size, 9, none⟩ (.slice (some ⟨p, 0, none⟩) na cp)) := But.setCell _ _ _ _
  have k1d : Blk (W1.setCell ⟨w.heap.size, 9, none⟩ (.slice (some ⟨p, 0, none⟩) na cp)) w.heap.size #[.int .i64 up, .int .i64 sc, .int .i64 de, .int .i64 ga, .int .i64 b0, .int .i64 b1, .int .i64 b2, .int .i64 b3, .bool lg, .slice (some ⟨p, 0, none⟩) na cp, .slice ab nb cb] 25 := by
    have := Blk.set k1c 9 (.slice (some ⟨p, 0, none⟩) na cp)
    simpa using this
  have k2d := hset.blk k2c (by omega)
  have bw2 := hset.below bw1 (Nat.le_refl _)
  have hl1d : Lst (W1.setCell ⟨w.heap.size, 9, none⟩ (.slice (some ⟨p, 0, none⟩) na cp)) (some ⟨p, 0, none⟩) ad := hl1.other (by rw [z2] at hp1; omega) _
  obtain ⟨q, cq, W2, hr2, hl2, hq2, hb2⟩ := app_copy (W1.setCell ⟨w.heap.size, 9, none⟩ (.slice (some ⟨p, 0, none⟩) na cp)) ab nb cb W1.heap.size be HA.out.2.1 HA.out.2.2.2.1 (HA.out.2.2.2.2.2.below bw2) (by simp)
  have k1e := k1d.below hb2
  have k2e := k2d.below hb2
  have bw3 := below_t5 bw2 hb2
  have zw1 : W1.heap.size = (W1.setCell ⟨w.heap.size, 9, none⟩ (.slice (some ⟨p, 0, none⟩) na cp)).heap.size := by simp
  have hxw := k1c.lt
  have hset2 : But w.heap.size W2 (W2.setCell ⟨w.heap.size, 10, none⟩ (.slice (some ⟨q, 0, none⟩) nb cq)) := But.setCell _ _ _ _
  have k1f : Blk (W2.setCell ⟨w.heap.size, 10, none⟩ (.slice (some ⟨q, 0, none⟩) nb cq)) w.heap.size #[.int .i64 up, .int .i64 sc, .int .i64 de, .int .i64 ga, .int .i64 b0, .int .i64 b1, .int .i64 b2, .int .i64 b3, .bool lg, .slice (some ⟨p, 0, none⟩) na cp, .slice (some ⟨q, 0, none⟩) nb cq] 25 := by
    have := Blk.set k1e 10 (.slice (some ⟨q, 0, none⟩) nb cq)
    simpa using this
  have k2f := hset2.blk k2e (by omega)
  have bw4 := hset2.below bw3 (Nat.le_refl _)
  have hl1f : Lst (W2.setCell ⟨w.heap.size, 10, none⟩ (.slice (some ⟨q, 0, none⟩) nb cq)) (some ⟨p, 0, none⟩) ad := (hl1d.below hb2).other (by rw [z2] at hp1; omega) _
  have hl2f : Lst (W2.setCell ⟨w.heap.size, 10, none⟩ (.slice (some ⟨q, 0, none⟩) nb cq)) (some ⟨q, 0, none⟩) be := hl2.other (by rw [← zw1] at hq2; omega) _
  have c9 := k1c.cell 9
  have f9 := k1c.frozen 9
  have d10 := k1d.cell 10
  have xlt1 := k1c.lt
  have xltd := k1d.lt
  have e10 := k1e.cell 10
  have f10 := k1e.frozen 10
  have xlt2 := k1e.lt
  simp at c9 d10 e10 xltd
  have HR1 := hide hr1
  have HR2 := hide hr2
  have HL := hide (And.intro hl1f hl2f)
  have HK := hide (And.intro k1f (And.intro k2f bw4))
  have HPQ : Hid (p ≠ w.heap.size + 1 ∧ q ≠ w.heap.size + 1) := hide (by have := k2c.lt; rw [z2] at hp1; rw [← zw1] at hq2; omega)
  clear b1' k1 z1 bb2 k2 z2 k1b bv hr1 hl1 hb1 k1c k2c bw1 hset k1d k2d bw2 hl1d hr2 hl2 k1e k2e bw3 hset2 k1f k2f bw4 hl1f hl2f hp1 hq2 hb2 zw1 hxw
  go_enter Try.func7, Try.ntmps7
  go_upto_region 2 with (at_builtin; refine Lib.wpList_append_run _ rfl _ _ _ _ rfl _ _ rfl rfl _ _ HR1.out ?_)
  go_upto_region 3 with (at_builtin; refine Lib.wpList_append_run _ rfl _ _ _ _ rfl _ _ rfl rfl _ _ HR2.out ?_)
  clear c9 f9 d10 xlt1 xltd e10 f10 xlt2 HR1 HR2
  generalize W2.setCell ⟨w.heap.size, 10, none⟩ (.slice (some ⟨q, 0, none⟩) nb cq) = W3 at HL HK ⊢
  have k1 := HK.out.1
  have k2 := HK.out.2.1
  obtain ⟨r, hr⟩ : ∃ r, w.heap.size + 1 = r := ⟨_, rfl⟩
  have hrw : w.heap.size ≤ r := by omega
  have hxr : w.heap.size ≠ r := by omega
  have HRW := hide (And.intro hrw hr)
  rw [hr] at k2 ⊢
  have HK2 := hide k2
  have w0 := k1.cell 0
  have w1 := k1.cell 1
  have w2 := k1.cell 2
  have w3 := k1.cell 3
  have w4 := k1.cell 4
  have w5 := k1.cell 5
  have w6 := k1.cell 6
  have w7 := k1.cell 7
  have w8 := k1.cell 8
  have w9 := k1.cell 9
  have w10 := k1.cell 10
  have z0 := k2.cell 0
  have y0 := k2.frozen 0
  have z1 := k2.cell 1
  have y1 := k2.frozen 1
  have z2 := k2.cell 2
  have y2 := k2.frozen 2
  have z3 := k2.cell 3
  have y3 := k2.frozen 3
  have z4 := k2.cell 4
  have y4 := k2.frozen 4
  have z5 := k2.cell 5
  have y5 := k2.frozen 5
  have z6 := k2.cell 6
  have y6 := k2.frozen 6
  have z7 := k2.cell 7
  have y7 := k2.frozen 7
  have z8 := k2.cell 8
  have y8 := k2.frozen 8
  have z9 := k2.cell 9
  have y9 := k2.frozen 9
  have z10 := k2.cell 10
  have y10 := k2.frozen 10
  simp at w0 w1 w2 w3 w4 w5 w6 w7 w8 w9 w10 z0 z1 z2 z3 z4 z5 z6 z7 z8 z9 z10
  have xlt := k1.lt
  have rlt := k2.lt
  clear k1 k2 hr hrw
  go_wp2_with fail
  have hst := store11 HK2.out (.int .i64 up) (.int .i64 sc) (.int .i64 de) (.int .i64 ga) (.int .i64 b0) (.int .i64 b1) (.int .i64 b2) (.int .i64 b3) (.bool lg) (.slice (some ⟨p, 0, none⟩) na cp) (.slice (some ⟨q, 0, none⟩) nb cq)
  have hbe := hst.2.below HK.out.2.2 HRW.out.1
  have hlp := HL.out.1.but hst.2 (by have := HPQ.out; have := HRW.out.2; omega)
  have hlq := HL.out.2.but hst.2 (by have := HPQ.out; have := HRW.out.2; omega)
  clear w0 z0 y0 w1 z1 y1 w2 z2 y2 w3 z3 y3 w4 z4 y4 w5 z5 y5 w6 z6 y6 w7 z7 y7 w8 z8 y8 w9 z9 y9 w10 z10 y10 xlt rlt
  generalize (((((((((((W3.setCell ⟨r, 0, none⟩ (.int .i64 up)).setCell ⟨r, 1, none⟩ (.int .i64 sc)).setCell ⟨r, 2, none⟩ (.int .i64 de)).setCell ⟨r, 3, none⟩ (.int .i64 ga)).setCell ⟨r, 4, none⟩ (.int .i64 b0)).setCell ⟨r, 5, none⟩ (.int .i64 b1)).setCell ⟨r, 6, none⟩ (.int .i64 b2)).setCell ⟨r, 7, none⟩ (.int .i64 b3)).setCell ⟨r, 8, none⟩ (.bool lg)).setCell ⟨r, 9, none⟩ (.slice (some ⟨p, 0, none⟩) na cp)).setCell ⟨r, 10, none⟩ (.slice (some ⟨q, 0, none⟩) nb cq)) = Z at hst hbe hlp hlq ⊢
  have q0 := hst.1.cell 0
  have q1 := hst.1.cell 1
  have q2 := hst.1.cell 2
  have q3 := hst.1.cell 3
  have q4 := hst.1.cell 4
  have q5 := hst.1.cell 5
  have q6 := hst.1.cell 6
  have q7 := hst.1.cell 7
  have q8 := hst.1.cell 8
  have q9 := hst.1.cell 9
  have q10 := hst.1.cell 10
  simp at q0 q1 q2 q3 q4 q5 q6 q7 q8 q9 q10
  exact bodyPost_ret (v := .agg #[.int .i64 up, .int .i64 sc, .int .i64 de, .int .i64 ga, .int .i64 b0, .int .i64 b1, .int .i64 b2, .int .i64 b3, .bool lg, .slice (some ⟨p, 0, none⟩) na cp, .slice (some ⟨q, 0, none⟩) nb cq]) (by simp [results, Try.results7, go_sem, q0, q1, q2, q3, q4, q5, q6, q7, q8, q9, q10]) rfl ⟨p, q, cp, cq, rfl, hlp, hlq, hbe⟩
end Go.Proofs.Ytkdnoemakclmdaa
