/-
  Rows of marks that a call owns; what the reference's Copy answers.
-/
import Derived.Test.YthhhepbflggojaaDoorE15S
import Derived.Deep.AppendLies
import Derived.Deep.AppendSrc
namespace Go.Proofs.YthhhepbflggojaaDoor.E15
open Go.RowKit Go.Deep
set_option linter.unusedVariables false
set_option linter.unusedSimpArgs false
set_option maxRecDepth 8000

structure CE where
  m : Mk
  ga : Option Addr
  gc : Nat
abbrev cecs (c : CE) : List Value := [.int .i64 c.m.k, .int .i64 c.m.f, .int .i64 c.m.s, .int .i64 c.m.x, .int .i64 c.m.y, .slice c.ga c.m.gs.length c.gc, .int .i64 c.m.r0, .int .i64 c.m.r1, .int .i64 c.m.r2, .int .i64 c.m.r3]
def fl (cs : List CE) : List Value := cs.flatMap cecs
theorem fl_len (cs : List CE) : (fl cs).length = cs.length * 10 := by
  induction cs with
  | nil => rfl
  | cons x r ih => unfold fl at *; rw [List.flatMap_cons, List.length_append, ih]; simp; omega
theorem fl_snoc (cs : List CE) (x : CE) : fl (cs ++ [x]) = fl cs ++ cecs x := by unfold fl; rw [List.flatMap_append]; simp
theorem fl_app (cs ds : List CE) : fl (cs ++ ds) = fl cs ++ fl ds := by unfold fl; rw [List.flatMap_append]
theorem fl_cons (x : CE) (r : List CE) : fl (x :: r) = cecs x ++ fl r := by unfold fl; rw [List.flatMap_cons]
def ce0 : CE := ⟨m0, none, 0⟩
theorem fl_at (cs : List CE) : ∀ i j, i < cs.length → j < 10 → (fl cs)[i * 10 + j]? = (cecs (cs.getD i ce0))[j]? := by
  induction cs with
  | nil => intro i j h; simp at h
  | cons x r ih =>
    intro i j h hj
    rw [fl_cons]
    cases i with
    | zero => rw [List.getElem?_append_left (by simp; omega)]; simp
    | succ i =>
      rw [List.getElem?_append_right (by simp; omega)]
      have := ih i j (by simpa using h) hj
      simp only [List.length_cons, List.length_nil] at *
      rw [show (i + 1) * 10 + j - (0 + 1 + 1 + 1 + 1 + 1 + 1 + 1 + 1 + 1 + 1) = i * 10 + j by omega, this]
      simp
theorem cecs_one (c : CE) : ∀ u ∈ cecs c, u.oneCell' = true := by
  intro u hu
  simp only [cecs, List.mem_cons, List.not_mem_nil, or_false] at hu
  rcases hu with rfl | rfl | rfl | rfl | rfl | rfl | rfl | rfl | rfl | rfl <;> rfl
theorem fl_one (cs : List CE) : ∀ u ∈ fl cs, u.oneCell' = true := by
  intro u hu
  unfold fl at hu
  obtain ⟨c, _, h⟩ := List.mem_flatMap.1 hu
  exact cecs_one c u h
/- ints in a block of ints -/
def LI (w : World) (a : Option Addr) (zs : List Int) : Prop :=
  zs = [] ∨ ∃ b off cs f, a = some ⟨b, off, none⟩ ∧ w.heap[b]? = some (.cells cs 3 f) ∧ ∀ i, i < zs.length → w.cell? ⟨b, off + i, none⟩ = some (.int .i64 (zs.getD i 0))
theorem heap_lt {w : World} {b : Nat} {o : Obj} (h : w.heap[b]? = some o) : b < w.heap.size := by
  rcases Nat.lt_or_ge b w.heap.size with hl | hl
  · exact hl
  · rw [Array.getElem?_eq_none hl] at h; cases h
theorem LI.lst {w : World} {a : Option Addr} {zs : List Int} (h : LI w a zs) : Lst w a zs := by
  rcases h with h | ⟨b, off, cs, f, h1, h2, h3⟩
  · exact Or.inl h
  · exact Or.inr ⟨b, off, h1, heap_lt h2, h3⟩
theorem LI.kept {w w' : World} {a : Option Addr} {zs : List Int} (h : LI w a zs) (hk : ∀ k, k < w.heap.size → (∃ c f, w.heap[k]? = some (.cells c 3 f)) → w'.heap[k]? = w.heap[k]?) : LI w' a zs := by
  rcases h with h | ⟨b, off, cs, f, h1, h2, h3⟩
  · exact Or.inl h
  · have e := hk b (heap_lt h2) ⟨cs, f, h2⟩
    refine Or.inr ⟨b, off, cs, f, h1, by rw [e]; exact h2, fun i hi => ?_⟩
    rw [← h3 i hi]
    unfold World.cell?
    rw [e]
theorem LI.below {w w' : World} {a : Option Addr} {zs : List Int} (h : LI w a zs) (hb : Below w.heap.size w w') : LI w' a zs := h.kept fun k hk _ => hb.block k hk
def MRow (w : World) (B : Nat) (v : Value) (cs : List CE) : Prop := w.ownsRow B 38 10 v cs.length (fl cs) ∧ ∀ c ∈ cs, LI w c.ga c.m.gs
theorem MRow.nil (w : World) (B : Nat) : MRow w B (.slice none 0 0) [] := ⟨World.ownsRow_nil _ _ _ _, by simp⟩
theorem MRow.below {w w' : World} {B : Nat} {v : Value} {cs : List CE} (h : MRow w B v cs) (hb : Below w.heap.size w w') : MRow w' B v cs :=
  ⟨ownsRow_kept h.1 (fun k _ hk => hb.block k hk), fun c hc => (h.2 c hc).below hb⟩
theorem info_mk : (Tryd.prog.info? 38).map (fun i => (i.zero, i.size, i.bytes)) = some (some (.agg #[.int .i64 0, .int .i64 0, .int .i64 0, .int .i64 0, .int .i64 0, .slice none 0 0, .int .i64 0, .int .i64 0, .int .i64 0, .int .i64 0]), 10, 96) := by kernel_rfl
theorem tmi : (38 : TypeId) ≠ 3 := by decide
theorem MRow.lst {w : World} {B : Nat} {v : Value} {cs : List CE} (h : MRow w B v cs) : ∃ a cap, v = .slice a cs.length cap ∧ MLst w a (cs.map (·.m)) ∧ cs.length ≤ cap ∧ cap ≤ 9223372036854775807 := by
  obtain ⟨h1, h2⟩ := h
  have h' := h1
  obtain ⟨_, ⟨h0, hz⟩ | ⟨g, cap, cur, hv, hg, hh, hc, hm, _⟩⟩ := h'
  · obtain rfl : cs = [] := List.eq_nil_of_length_eq_zero hz
    exact ⟨none, 0, h0, Or.inl rfl, by simp, by omega⟩
  · refine ⟨_, cap, hv, ?_, hc, by unfold maxLen at hm; exact hm⟩
    rw [hv] at h1
    refine Or.inr ⟨g, 0, rfl, heap_lt hh, fun i hi => ?_⟩
    have hi' : i < cs.length := by simpa using hi
    have hcell : ∀ j, j < 10 → w.cell? ⟨g, i * 10 + j, none⟩ = (cecs (cs.getD i ce0))[j]? := fun j hj => by
      rw [World.ownsRow.cellAt h1 (i * 10 + j) (by omega), fl_at cs i j hi' hj]
    have em : (cs.map (·.m)).getD i m0 = (cs.getD i ce0).m := by
      rw [List.getD_eq_getElem?_getD, List.getElem?_map, List.getD_eq_getElem?_getD, List.getElem?_eq_getElem hi']; rfl
    have hmem : cs.getD i ce0 ∈ cs := by rw [List.getD_eq_getElem?_getD, List.getElem?_eq_getElem hi']; exact List.getElem_mem hi'
    have hLI := h2 _ hmem
    rw [em, Nat.zero_add]
    generalize cs.getD i ce0 = c at *
    exact ⟨c.ga, c.gc, ⟨hcell 0 (by omega), hcell 1 (by omega), hcell 2 (by omega), hcell 3 (by omega), hcell 4 (by omega), hcell 5 (by omega), hcell 6 (by omega), hcell 7 (by omega), hcell 8 (by omega), hcell 9 (by omega), hLI.lst⟩⟩
/- one mark appended -/
theorem app_m {W : World} {B : Nat} {v : Value} {cs : List CE} (x : CE) (H : Nat) (h : MRow W B v cs) (hx : LI W x.ga x.m.gs) (hB : B ≤ W.heap.size) (hl : cs.length ≤ 1000000) (hH : W.heap.size = H) :
    ∃ v' w2, (Builtin.append_ #[22, 22] 22 #[v, .slice (some ⟨H, 0, none⟩) 1 1]).run Tryd.prog (W.alloc (.cells (cecs x).toArray 38)) = .ok v' w2 ∧ MRow w2 B v' (cs ++ [x]) ∧ Below B W w2 := by
  subst hH
  obtain ⟨i0, hi, hz0, hz1, hz2⟩ := info_parts5 info_mk
  obtain ⟨gg, cap, w2, hr, ho, hg, hat, _⟩ := run_append_lies (P := Tryd.prog) (W.alloc (.cells (cecs x).toArray 38)) 22 22 B 38 i0 _ 10 96 Tryd.underlying22 hi hz0 hz1 hz2 rfl (by decide) v cs.length (fl cs) (World.ownsRow.alloc h.1 _) ⟨W.heap.size, 0, none⟩ 1 1 (cecs x) (by simp)
    (fun j u hu => by rw [Go.WideShapes.add_plain, Nat.zero_add, World.cell?_alloc_at _ _ _ _ rfl]; simpa using hu) (cecs_one x) (by decide) (by unfold maxLen; omega) (by omega) (by simp; omega) (W.heap.size + 1) (by simp)
  have hal := (Below.refl W.heap.size W).alloc (Nat.le_refl _) (.cells (cecs x).toArray 38)
  have hkeep : ∀ k, k < W.heap.size → (∃ c f, W.heap[k]? = some (.cells c 3 f)) → w2.heap[k]? = W.heap[k]? := fun k hk ⟨c, f, hc⟩ => by
    rw [hg.block k (by simp; omega) (fun e => by
      obtain ⟨_, ⟨h0, _⟩ | ⟨g, cap, cur, hv, _, hh, _⟩⟩ := h.1
      · rw [h0] at e; simp [Value.ownBlock] at e
      · rw [hv] at e
        have : k = g := by simpa [Value.ownBlock] using e
        subst this
        rw [hc] at hh
        injection hh with hh
        injection hh with _ e _
        exact tmi e.symm)]
    exact hal.block k hk
  refine ⟨_, w2, hr, ⟨?_, ?_⟩, ((Below.refl B W).alloc hB _).grown hg (by simp; omega) fun k hk' => (World.ownsRow.lt h.1 k hk').1⟩
  · rw [fl_snoc, List.length_append]
    exact ho
  · intro c hc
    rcases List.mem_append.1 hc with hc | hc
    · exact (h.2 c hc).kept hkeep
    · simp at hc; subst hc
      exact hx.kept hkeep
theorem newCellE (zs : List Int) (i : Nat) (h : i < zs.length) (rest : Array Value) : (((zs.map (Value.int .i64)).toArray ++ rest)[i]?) = some (.int .i64 (zs.getD i 0)) := by
  rw [Array.getElem?_append_left (by simpa using h)]
  simp [List.getElem?_eq_getElem h, List.getD_eq_getElem?_getD]
/- a copy of ints, in a block of ints of its own -/
theorem app_zs (w : World) (a : Option Addr) (n c H : Nat) (zs : List Int) (hz : zs.length = n) (h : n ≤ 1048576) (hL : Lst w a zs) (hH : w.heap.size = H) :
    ∃ g c' w', (Builtin.append_ #[34, 34] 34 #[.slice (some ⟨H, 0, none⟩) 0 0, .slice a n c]).run Tryd.prog (w.alloc (.cells #[] 3)) = .ok (.slice (some ⟨g, 0, none⟩) n c') w' ∧ LI w' (some ⟨g, 0, none⟩) zs ∧ w.heap.size ≤ g ∧ Below w.heap.size w w' := by
  subst hH
  obtain ⟨i0, hi, hz0, hz1, hz2⟩ := info_parts5 info_int
  rcases Nat.eq_zero_or_pos n with h0 | h0
  · subst h0
    obtain rfl : zs = [] := List.eq_nil_of_length_eq_zero hz
    have hs : Src Tryd.prog i0.size 34 (.slice a 0 c) 0 [] (w.alloc (.cells #[] 3)) := by
      cases a with
      | none => exact Src.ofNil _ Tryd.underlying34 c
      | some x => exact Src.ofSlice _ Tryd.underlying34 x 0 c [] (by simp) (by simp) (by simp)
    have hr := run_append_room_src (P := Tryd.prog) (w.alloc (.cells #[] 3)) 34 34 34 3 i0 Tryd.underlying34 hi w.heap.size 0 0 0 _ 0 [] hs (by omega) (by simp) (by simp)
    exact ⟨w.heap.size, 0, w.alloc (.cells #[] 3), by simpa [World.setCells] using hr, Or.inl rfl, Nat.le_refl _, (Below.refl _ _).alloc (Nat.le_refl _) _⟩
  · rcases hL with hz' | ⟨b, off, rfl, hb, hcell⟩
    · rw [hz'] at hz; simp at hz; omega
    have hs : Src Tryd.prog i0.size 34 (.slice (some ⟨b, off, none⟩) n c) n (zs.map (Value.int .i64)) (w.alloc (.cells #[] 3)) := by
      refine Src.ofSlice (w.alloc (.cells #[] 3)) Tryd.underlying34 ⟨b, off, none⟩ n c _ (by rw [hz1]; simp [hz]) ?_ (ints_oneCell .i64 zs)
      intro j u hu
      have hj : j < zs.length := by
        have := List.getElem?_eq_some_iff.1 hu
        simpa using this.1
      rw [Go.WideShapes.add_plain, World.cell?_alloc_lt _ _ _ hb, hcell j hj]
      rw [List.getElem?_map, List.getElem?_eq_getElem hj] at hu
      simp at hu
      rw [← hu, List.getD_eq_getElem?_getD, List.getElem?_eq_getElem hj]
      rfl
    have hr := run_append_grow_src (P := Tryd.prog) (w.alloc (.cells #[] 3)) 34 34 34 3 i0 (.int .i64 0) Tryd.underlying34 hi hz0 (some ⟨w.heap.size, 0, none⟩) 0 0 [] (run_firstCells_some _ i0.size 0 _ 0 0 [] (by simp) (by simp)) _ n _ hs (by omega) (by omega)
      (by rw [hz2]; have := growslice_fits (need := 0 + n) (old := 0) (bytes := 8) (by omega) (by omega); exact this)
    simp only [Nat.zero_add, List.nil_append] at hr
    have hs2 : (w.alloc (.cells #[] 3)).heap.size = w.heap.size + 1 := by simp
    rw [hs2] at hr
    have b1 : Below w.heap.size w ((w.alloc (.cells #[] 3)).drew) := ((Below.refl _ _).alloc (Nat.le_refl _) _).drew
    have hsz : ((w.alloc (.cells #[] 3)).drew).heap.size = w.heap.size + 1 := by simp
    obtain ⟨arr, harr⟩ : ∃ arr, arr = ((zs.map (Value.int .i64)).toArray ++ Builtin.zeroCells (Value.int IntKind.i64 0).cells (grownCap (w.alloc (.cells #[] 3)) n 0 3 - n)) := ⟨_, rfl⟩
    rw [← harr] at hr
    have hbk := Blk.new ((w.alloc (.cells #[] 3)).drew) arr 3
    rw [hsz] at hbk
    refine ⟨_, _, _, hr, Or.inr ⟨w.heap.size + 1, 0, arr, (0, 0), rfl, hbk, fun i hi => ?_⟩, by omega, b1.alloc (by rw [hsz]; omega) _⟩
    rw [Nat.zero_add, hbk.cell, harr, newCellE zs i hi]
theorem LI.set {w : World} {a : Option Addr} {zs : List Int} {F : Nat} {cs : Array Value} {t : TypeId} (h : LI w a zs) (hF : Blk w F cs t) (ht : t ≠ 3) (j : Nat) (x : Value) : LI (w.setCell ⟨F, j, none⟩ x) a zs :=
  h.kept fun k hk ⟨c, f, hc⟩ => Below.heap_setCell _ _ _ _ (fun e => by
    subst e
    unfold Blk at hF
    rw [hF] at hc
    injection hc with hc
    injection hc with _ e _
    exact ht e)
/- a row of marks stands where another block is written -/
theorem MRow.set {w : World} {B F : Nat} {v : Value} {cs : List CE} {ds : Array Value} (h : MRow w B v cs) (hF : Blk w F ds 38) (hne : v.ownBlock ≠ some F) (j : Nat) (x : Value) : MRow (w.setCell ⟨F, j, none⟩ x) B v cs := by
  refine ⟨?_, fun c hc => (h.2 c hc).set hF tmi j x⟩
  obtain ⟨h1, h2 | ⟨g, cap, cur, hv, hg, hh, hr⟩⟩ := h.1
  · exact ⟨h1, Or.inl h2⟩
  · refine ⟨h1, Or.inr ⟨g, cap, cur, hv, hg, ?_, hr⟩⟩
    rw [Below.heap_setCell]
    · exact hh
    · rintro rfl
      rw [hv] at hne
      exact hne rfl
theorem MRow.own {w : World} {B : Nat} {v : Value} {cs : List CE} (h : MRow w B v cs) : ∀ k, v.ownBlock = some k → k < w.heap.size := by
  intro k hk
  obtain ⟨h1, ⟨h0, _⟩ | ⟨g, cap, cur, hv, hg, hh, hr⟩⟩ := h.1
  · rw [h0] at hk; simp [Value.ownBlock] at hk
  · rw [hv] at hk
    have : g = k := by simpa [Value.ownBlock] using hk
    subst this
    exact heap_lt hh
def CoR (n : Nat) (ms : List Mk) (w : World) (e : Ending) (w' : World) : Prop := ∃ a cap cs, e = .returned (.slice a n cap) ∧ cs.map (·.m) = ms ∧ MRow w' w.heap.size (.slice a n cap) cs ∧ Below w.heap.size w w'
set_option maxHeartbeats 8000000 in
theorem copy_any (a : Option Addr) (n c : Nat) (ms : List Mk) (w : World) (hn : ms.length = n) (h1 : n ≤ 1000000) (hg : ∀ m ∈ ms, m.gs.length ≤ 1048576) (hL : MLst w a ms) :
    Calls Tryd.prog 9 #[.slice a n c] w (CoR n ms w) := by
  have h5 : (n : Int) ≤ 1000000 := by omega
  have Hn := hide hn
  have HG := hide hg
  have HL := hide hL
  clear hn hg hL
  go_enter Tryd.func9, Tryd.ntmps9
  go_wp2_with fail
  go_loopw [3, 4] (fun vo vi wr => ∃ (k : Nat) (cs : List CE), vi = .int .i64 k ∧ Hid (k ≤ n ∧ Below w.heap.size w wr ∧ MRow wr w.heap.size vo cs ∧ cs.map (·.m) = ms.take k)) (fun _ vi _ => n - (intOf vi).toNat)
  case atStart => exact ⟨0, [], rfl, hide ⟨by omega, Below.refl _ _, MRow.nil _ _, by simp⟩⟩
  case round =>
    obtain ⟨k, cs, rfl, HR⟩ := hrel
    obtain ⟨hk, hb, hrow, hcs⟩ := HR.out
    have hk0 : (0 : Int) ≤ (k : Int) := by omega
    have hcl : cs.length = k := by
      have := congrArg List.length hcs
      rw [List.length_map, List.length_take, Hn.out] at this
      omega
    obtain ⟨va, vc, hsh, _, _, _⟩ := hrow.lst
    clear HR
    by_cases hlt : k < n
    case neg =>
      have hlt' : ¬ (k : Int) < (n : Int) := by omega
      rw [hcl] at hsh
      obtain rfl : n = k := by omega
      rw [List.take_of_length_le (by rw [Hn.out]; omega)] at hcs
      rw [hsh] at hrow
      have HE := hide (show CoR n ms w (.returned (.slice va n vc)) wr from ⟨va, vc, cs, rfl, hcs, hrow, hb⟩)
      rw [hsh]
      clear hrow hcs hb hk hsh hlt hcl
      go_wp2_with fail
      go_ret
      exact HE.out
    have hlt' : (k : Int) < (n : Int) := by omega
    have hl := Hn.out
    have hgs := HG.out _ (gd_mem (show k < ms.length by omega))
    have htk : ms.take (k + 1) = ms.take k ++ [ms.getD k m0] := by
      rw [List.take_add_one, List.getD_eq_getElem?_getD, List.getElem?_eq_getElem (by omega)]; rfl
    obtain ⟨b, off, rfl, hbl, ga, gc, hM⟩ := (HL.out.below hb).some (show k < ms.length by omega)
    generalize ms.getD k m0 = m at *
    obtain ⟨c0, c1, c2, c3, c4, c5, c6, c7, c8, c9, hlst⟩ := hM
    obtain ⟨K, f, s, x, y, gs, r0, r1, r2, r3⟩ := m
    simp only at c0 c1 c2 c3 c4 c5 c6 c7 c8 c9 hlst hgs
    obtain ⟨gn, hgn⟩ : ∃ q, gs.length = q := ⟨_, rfl⟩
    rw [hgn] at c5
    -- the mark's box
    have b1 := (Below.refl wr.heap.size wr).alloc (Nat.le_refl _) (.cells #[.int .i64 K, .int .i64 f, .int .i64 s, .int .i64 x, .int .i64 y, .slice ga gn gc, .int .i64 r0, .int .i64 r1, .int .i64 r2, .int .i64 r3] 38)
    have k1 := Blk.new wr #[.int .i64 K, .int .i64 f, .int .i64 s, .int .i64 x, .int .i64 y, .slice ga gn gc, .int .i64 r0, .int .i64 r1, .int .i64 r2, .int .i64 r3] 38
    have z1 : (wr.alloc (.cells #[.int .i64 K, .int .i64 f, .int .i64 s, .int .i64 x, .int .i64 y, .slice ga gn gc, .int .i64 r0, .int .i64 r1, .int .i64 r2, .int .i64 r3] 38)).heap.size = wr.heap.size + 1 := by simp
    have hown := hrow.own
    have hsz := hb.size
    have HROW := hide hrow
    have HB := hide hb
    have HCS := hide hcs
    have HTK := hide htk
    have HHL := hide hlst
    have HGN := hide hgn
    have HOWN := hide hown
    have HSH := hide hsh
    have HGS := hide hgs
    have HSZ := hide hsz
    have HCL := hide hcl
    clear hrow hb hcs htk hlst hgn hown hsh hgs hsz hcl hl
    obtain ⟨g, c', w1, hr, hLI, hle, hb1⟩ := app_zs (wr.alloc (.cells #[.int .i64 K, .int .i64 f, .int .i64 s, .int .i64 x, .int .i64 y, .slice ga gn gc, .int .i64 r0, .int .i64 r1, .int .i64 r2, .int .i64 r3] 38)) ga gn gc (wr.heap.size + 1) gs HGN.out (by have := HGS.out; have := HGN.out; omega) (HHL.out.below b1) z1
    have k2 := k1.below hb1
    have hb2 := below_t5 b1 hb1
    have q0 := k2.cell 0
    have q1 := k2.cell 1
    have q2 := k2.cell 2
    have q3 := k2.cell 3
    have q4 := k2.cell 4
    have q5 := k2.cell 5
    have q6 := k2.cell 6
    have q7 := k2.cell 7
    have q8 := k2.cell 8
    have q9 := k2.cell 9
    have q5z := k2.frozen 5
    have q5l := k2.lt
    simp only [List.getElem?_toArray, List.getElem?_cons_succ, List.getElem?_cons_zero] at q0 q1 q2 q3 q4 q5 q6 q7 q8 q9
    have hrow1 := HROW.out.below hb2
    have hne : u3.ownBlock ≠ some wr.heap.size := fun e => Nat.lt_irrefl _ (HOWN.out _ e)
    have k3 := k2.set 5 (.slice (some ⟨g, 0, none⟩) gn c')
    have hrow3 := hrow1.set k2 hne 5 (.slice (some ⟨g, 0, none⟩) gn c')
    have hLI3 := hLI.set k2 tmi 5 (.slice (some ⟨g, 0, none⟩) gn c')
    have hb3 : Below wr.heap.size wr (w1.setCell ⟨wr.heap.size, 5, none⟩ (.slice (some ⟨g, 0, none⟩) gn c')) := hb2.setCell (p := ⟨wr.heap.size, 5, none⟩) (Nat.le_refl _) _
    have HRU := hide hr
    clear hr hLI hle hb1 k2 hb2 hrow1 hne k1 b1
    have HROW3 := hide hrow3
    have HLI3 := hide hLI3
    have HB3 := hide hb3
    have HK3 := hide k3
    clear hrow3 hLI3 hb3 k3
    have HAM := hide (app_m (cs := cs) (v := u3) ⟨⟨K, f, s, x, y, gs, r0, r1, r2, r3⟩, some ⟨g, 0, none⟩, c'⟩ w1.heap.size HROW3.out HLI3.out (Nat.le_trans HSZ.out HB3.out.size) (by have := HCL.out; omega) (by simp))
    simp only [cecs, HGN.out] at HAM
    obtain ⟨v', w4, hr4, hrow4, hb4⟩ := HAM.out
    have hb5 := (HB.out.trans (HB3.out.mono HSZ.out)).trans hb4
    have HR4 := hide hr4
    have HFIN := hide (show k + 1 ≤ n ∧ Below w.heap.size w w4 ∧ MRow w4 w.heap.size v' (cs ++ [⟨⟨K, f, s, x, y, gs, r0, r1, r2, r3⟩, some ⟨g, 0, none⟩, c'⟩]) ∧ (cs ++ [(⟨⟨K, f, s, x, y, gs, r0, r1, r2, r3⟩, some ⟨g, 0, none⟩, c'⟩ : CE)]).map (·.m) = ms.take (k + 1) from ⟨by omega, hb5, hrow4, by rw [List.map_append, HCS.out, HTK.out]; rfl⟩)
    clear HAM hr4 hrow4 hb4 hb5 HROW3 HLI3 HB3 HK3 HROW HB HCS HTK HHL HOWN HSH
    go_wp2_with (at_builtin; first | (refine Lib.wpList_append_run _ rfl _ _ _ _ rfl _ _ rfl rfl _ _ HRU.out ?_; clear HRU) | (refine Lib.wpList_append_run _ rfl _ _ _ _ rfl _ _ rfl rfl _ _ HR4.out ?_; clear HR4))
    go_roundw
    case rel => exact ⟨k + 1, _, by go_num, HFIN⟩
    case measure => simp [intOf]; omega
end Go.Proofs.YthhhepbflggojaaDoor.E15
