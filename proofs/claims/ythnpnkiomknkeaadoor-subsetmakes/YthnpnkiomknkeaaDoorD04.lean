/-
  Joined: S13J.
-/
import Derived.BigQuiet
import Derived.BigRegion
import Derived.ChangeAlike
import Derived.Deep.AppendLies
import Derived.Deep.AppendSrc
import Derived.Deep.CutRange
import Derived.Deep.Draws
import Derived.Deep.LoopGhost
import Derived.Deep.QuietTactic
import Derived.Deep.RegionHeld3
import Derived.Deep.RegionLaw
import Derived.Deep.RegionWith
import Derived.Deep.Trees
import Derived.Defers
import Derived.Laws.Bits64b
import Derived.Laws.BitsLemmas
import Derived.Laws.BytesArg
import Derived.Laws.CopyRow
import Derived.Laws.EntriesVeiled
import Derived.Laws.IdiomStrings
import Derived.Laws.OwnMore
import Derived.Laws.Pointers
import Derived.Lib.AppendStr
import Derived.Lib.AppendZeros
import Derived.Lib.BitFns
import Derived.Lib.BufferWrite
import Derived.Lib.MinMax
import Derived.Lib.Mul64
import Derived.Lib.SlBuf
import Derived.Lib.Small
import Derived.Lib.Strings
import Derived.Lib.Walk
import Derived.Maps.RangeWalk
import Derived.Outline
import Derived.OwnWalk
import Derived.Recover
import Derived.RegionDies
import Derived.RegionTactic
import Derived.Shelf.Slices.Turned
import Derived.Shelf.Strings.Trim
import Derived.Test.YthnpnkiomknkeaaDoorProg
import Derived.WalkKit
import Derived.WalkMore
import Derived.WalkSmall
import Derived.Test.YthnpnkiomknkeaaDoorC00
import Derived.Test.YthnpnkiomknkeaaDoorC01
import Derived.Test.YthnpnkiomknkeaaDoorC02
import Derived.Test.YthnpnkiomknkeaaDoorC03
import Derived.Test.YthnpnkiomknkeaaDoorC04
import Derived.Test.YthnpnkiomknkeaaDoorC05
import Derived.Test.YthnpnkiomknkeaaDoorC06
import Derived.Test.YthnpnkiomknkeaaDoorC07
import Derived.Test.YthnpnkiomknkeaaDoorC08
import Derived.Test.YthnpnkiomknkeaaDoorC09
import Derived.Test.YthnpnkiomknkeaaDoorC10
import Derived.Test.YthnpnkiomknkeaaDoorC11
import Derived.Test.YthnpnkiomknkeaaDoorC12
import Derived.Test.YthnpnkiomknkeaaDoorC13
import Derived.Test.YthnpnkiomknkeaaDoorC14
import Derived.Test.YthnpnkiomknkeaaDoorC15
import Derived.Test.YthnpnkiomknkeaaDoorC16
import Derived.Test.YthnpnkiomknkeaaDoorC18
import Derived.Test.YthnpnkiomknkeaaDoorC19
import Derived.Test.YthnpnkiomknkeaaDoorC20
import Derived.Test.YthnpnkiomknkeaaDoorC21
import Derived.Test.YthnpnkiomknkeaaDoorC22
import Derived.Test.YthnpnkiomknkeaaDoorC23
import Derived.Test.YthnpnkiomknkeaaDoorC24
import Derived.Test.YthnpnkiomknkeaaDoorD00
import Derived.Test.YthnpnkiomknkeaaDoorD01
import Derived.Test.YthnpnkiomknkeaaDoorD02
namespace Go.Proofs.YthnpnkiomknkeaaDoor.S13
open Go.RowKit Go.Deep Go.Maps Go.Proofs.YthnpnkiomknkeaaDoor.F12
set_option linter.unusedVariables false
set_option linter.unusedSimpArgs false
theorem step_append_run {P : Program} (w : World) {ops : Array Oper} {o : Oper} {a : Act} {K : Act → World → Prop} {Q : Exit → Act → World → Prop} {E : Prop} (hgd : o.guard = none) (s x : Operand) (t tn : TypeId)
    (ho : o.op = .call { callee := .builtin .append, args := #[s, x], argTypes := #[t, tn] }) (vs vx : Value) (hs : a.eval s = vs) (hx : a.eval x = vx)
    (v' : Value) (w' : World) (hr : (Builtin.append_ #[t, tn] o.type #[vs, vx]).run P w = .ok v' w') (h : K (a.put o.dst v') w') :
    if Region.wanted o (yielded ops a.tmps) = true then Oper.wp P o a w K Q else E := by
  rw [if_pos (by simp [Region.wanted, hgd])]
  exact Lib.wp_append_run w s x t tn ho vs vx hs hx v' w' hr h
theorem pk_snoc (zs : List Int) (old : List Nat) (k : Nat) (h : k < old.length) : pkV zs (old.take (k + 1)) = pkV zs (old.take k) ++ [zs.getD (old.getD k 0) 0] := by
  unfold pkV
  rw [List.take_add_one, List.getElem?_eq_getElem h, Option.toList_some, List.map_append, List.getD_eq_getElem?_getD (l := old), List.getElem?_eq_getElem h]
  rfl
theorem rn_snoc (f : Nat → ByteArray) (old : List Nat) (k : Nat) (h : k < old.length) : (old.take (k + 1)).map f = (old.take k).map f ++ [f (old.getD k 0)] := by
  rw [List.take_add_one, List.getElem?_eq_getElem h, Option.toList_some, List.map_append, List.getD_eq_getElem?_getD, List.getElem?_eq_getElem h]
  rfl
def Sep (a b : Value) : Prop := ∀ k, a.ownBlock = some k → b.ownBlock ≠ some k
theorem Sep.symm {a b : Value} (h : Sep a b) : Sep b a := fun k hb ha => h k ha hb
theorem Sep.nil (b : Value) : Sep (.slice none 0 0) b := fun k h => by cases h
theorem row_own {w w' : World} {B : Nat} {e : TypeId} {size n : Nat} {v : Value} {xs : List Value} (h : w.ownsRow B e size v n xs) (hk : ∀ k, v.ownBlock = some k → k < w.heap.size → w'.heap[k]? = w.heap[k]?) : w'.ownsRow B e size v n xs := by
  obtain ⟨h0, h | ⟨g, cap, cur, hv, hg, hh, rest⟩⟩ := h
  · exact ⟨h0, Or.inl h⟩
  · have hlt : g < w.heap.size := (Array.getElem?_eq_some_iff.1 hh).1
    exact ⟨h0, Or.inr ⟨g, cap, cur, hv, hg, (hk g (by rw [hv]; rfl) hlt).trans hh, rest⟩⟩
def TRow (w : World) (B : Nat) (v : Value) (ss : List ByteArray) : Prop := w.ownsRow B 9 1 v ss.length (ss.map Value.string)
theorem TRow.nil (w : World) (B : Nat) : TRow w B (.slice none 0 0) [] := World.ownsRow_nil _ _ _ _
theorem info_str : (Tryd.prog.info? 9).map (fun i => (i.zero, i.size, i.bytes)) = some (some (.string ⟨#[]⟩), 1, 16) := by kernel_rfl
theorem TRow.lst {w : World} {B : Nat} {v : Value} {ss : List ByteArray} (h : TRow w B v ss) : ∃ a cap, v = .slice a ss.length cap ∧ G10.SLst w a ss := by
  have h' := h
  obtain ⟨_, ⟨h0, h1⟩ | ⟨g, cap, cur, hv, hg, hh, hc, hm, _⟩⟩ := h'
  · exact ⟨none, 0, by rw [h0, h1], Or.inl (List.eq_nil_of_length_eq_zero h1)⟩
  · refine ⟨some ⟨g, 0, none⟩, cap, hv, ?_⟩
    rw [hv] at h
    refine Or.inr ⟨g, 0, rfl, (World.ownsRow.lt h g rfl).2, fun i hi => ?_⟩
    rw [Nat.zero_add, World.ownsRow.cellAt h i (by omega), List.getElem?_map, List.getElem?_eq_getElem hi, List.getD_eq_getElem?_getD, List.getElem?_eq_getElem hi]
    rfl
theorem app_t1 {W : World} {B : Nat} {v : Value} {ss : List ByteArray} (x : ByteArray) (h : TRow W B v ss) (hB : B ≤ W.heap.size) (hl : ss.length ≤ 1000000) (H : Nat) (hH : W.heap.size = H) :
    ∃ v' w2, (Builtin.append_ #[26, 26] 26 #[v, .slice (some ⟨H, 0, none⟩) 1 1]).run Tryd.prog (W.alloc (.cells #[.string x] 9)) = .ok v' w2 ∧
      TRow w2 B v' (ss ++ [x]) ∧ (v'.ownBlock = v.ownBlock ∨ ∃ g, v'.ownBlock = some g ∧ W.heap.size ≤ g) ∧ (∀ k, k < W.heap.size → v.ownBlock ≠ some k → w2.heap[k]? = W.heap[k]?) ∧ Below B W w2 := by
  obtain ⟨i0, hi, hz0, hz1, hz2⟩ := info_parts5 info_str
  subst hH
  obtain ⟨g, cap, w2, hr, ho, hg, hat, _⟩ := run_append_lies (P := Tryd.prog) (W.alloc (.cells #[.string x] 9)) 26 26 B 9 i0 _ 1 16 Tryd.underlying26 hi hz0 hz1 hz2 rfl (by decide) v ss.length (ss.map Value.string) (World.ownsRow.alloc h _) ⟨W.heap.size, 0, none⟩ 1 1 [.string x] (by simp)
    (fun j u hu => by rw [Go.WideShapes.add_plain, Nat.zero_add, World.cell?_alloc_at _ _ _ _ rfl]; simpa using hu) (fun u hu => by simp at hu; subst hu; rfl) (by decide) (by unfold maxLen; omega) (by omega) (by simp; omega) (W.heap.size + 1) (by simp)
  refine ⟨_, w2, hr, ?_, ?_, ?_, ((Below.refl B W).alloc hB _).grown hg (by simp; omega) fun k hk' => (World.ownsRow.lt h k hk').1⟩
  · unfold TRow
    rw [List.map_append, List.length_append]
    exact ho
  · rcases hat with hat | hat
    · exact Or.inl (by rw [hat]; rfl)
    · exact Or.inr ⟨g, rfl, by omega⟩
  · intro k hk hne
    rw [hg.block k (by simp; omega) (Ne.symm hne)]
    exact ((Below.refl W.heap.size W).alloc (Nat.le_refl _) (.cells #[.string x] 9)).block k hk
structure RP (B : Nat) (v : Value) (P : World → Prop) : Prop where
  own : ∀ w w', P w → (∀ k, v.ownBlock = some k → k < w.heap.size → w'.heap[k]? = w.heap[k]?) → P w'
  lt : ∀ w k, P w → v.ownBlock = some k → B ≤ k ∧ k < w.heap.size
theorem rp_of (B : Nat) (e : TypeId) (size n : Nat) (v : Value) (xs : List Value) : RP B v (fun w => w.ownsRow B e size v n xs) := ⟨fun _ _ h hk => row_own h hk, fun _ k h hv => World.ownsRow.lt h k hv⟩
theorem upd1 {B pb j : Nat} {u w2 : World} {v v' x z : Value} {P : World → Prop} (hpb : pb < B) (hx : RP B x P) (h : P u) (hs : Sep v x) (r3 : v'.ownBlock = v.ownBlock ∨ ∃ g, v'.ownBlock = some g ∧ u.heap.size ≤ g) (r5 : ∀ k, k < u.heap.size → v.ownBlock ≠ some k → w2.heap[k]? = u.heap[k]?) :
    P (w2.setCell ⟨pb, j, none⟩ z) ∧ Sep v' x := by
  refine ⟨hx.own u _ h fun k hk hl => ?_, fun k hk hk2 => ?_⟩
  · have := (hx.lt u k h hk).1
    rw [Below.heap_setCell _ _ _ _ (by show k ≠ pb; omega)]
    exact r5 k hl (fun e => hs k e hk)
  · rcases r3 with r3 | ⟨g, r3, hg⟩
    · rw [r3] at hk; exact hs k hk hk2
    · rw [r3] at hk
      injection hk with hk
      subst hk
      have := (hx.lt u g h hk2).2
      omega
theorem upd0 {B pb j : Nat} {w2 : World} {x z : Value} {P : World → Prop} (hpb : pb < B) (hx : RP B x P) (h : P w2) : P (w2.setCell ⟨pb, j, none⟩ z) :=
  hx.own w2 _ h fun k hk hl => by
    have := (hx.lt w2 k h hk).1
    rw [Below.heap_setCell _ _ _ _ (by show k ≠ pb; omega)]
structure LQ (w1 : World) (B pb : Nat) (m : Mt) (va vb vg vc : Value) (la lb : List Int) (lg : List ByteArray) (lc : List C11.Ch) (w : World) : Prop where
  kp : Blk w pb (fcs m va vb vg vc) 29
  hpb : pb < B
  hp1 : w1.heap.size ≤ pb
  ra : IRow w B va la
  rb : IRow w B vb lb
  rg : TRow w B vg lg
  rc : C11.CRow w B vc lc
  ab : Sep va vb
  ag : Sep va vg
  ac : Sep va vc
  bg : Sep vb vg
  bc : Sep vb vc
  gc : Sep vg vc
  hb : Below w1.heap.size w1 w
  sz : B ≤ w.heap.size
theorem LQ.below {w1 : World} {B pb : Nat} {m : Mt} {va vb vg vc : Value} {la lb : List Int} {lg : List ByteArray} {lc : List C11.Ch} {w u : World} (h : LQ w1 B pb m va vb vg vc la lb lg lc w) (hu : Below w.heap.size w u) : LQ w1 B pb m va vb vg vc la lb lg lc u :=
  ⟨h.kp.below hu, h.hpb, h.hp1, row_own h.ra (fun k _ hk => hu.block k hk), row_own h.rb (fun k _ hk => hu.block k hk), row_own h.rg (fun k _ hk => hu.block k hk), row_own h.rc (fun k _ hk => hu.block k hk), h.ab, h.ag, h.ac, h.bg, h.bc, h.gc, below_t5 h.hb hu, Nat.le_trans h.sz hu.size⟩
theorem lq_blk {w1 : World} {B pb : Nat} {m : Mt} {va vb vg vc : Value} {la lb : List Int} {lg : List ByteArray} {lc : List C11.Ch} {u w2 : World} {v : Value} (h : LQ w1 B pb m va vb vg vc la lb lg lc u) (hv : ∀ k, v.ownBlock = some k → B ≤ k) (r5 : ∀ k, k < u.heap.size → v.ownBlock ≠ some k → w2.heap[k]? = u.heap[k]?) : Blk w2 pb (fcs m va vb vg vc) 29 := by
  have h1 := h.kp.lt
  have h2 := h.kp
  unfold Blk at h2 ⊢
  rw [r5 pb h1 (fun e => by have := hv pb e; have := h.hpb; omega)]
  exact h2
theorem LQ.a {w1 : World} {B pb : Nat} {m : Mt} {va vb vg vc : Value} {la lb : List Int} {lg : List ByteArray} {lc : List C11.Ch} {u : World} (h : LQ w1 B pb m va vb vg vc la lb lg lc u) (x : Int) (hl : la.length ≤ 1000000) :
    ∃ v' w2, (Builtin.append_ #[23, 23] 23 #[va, .slice (some ⟨u.heap.size, 0, none⟩) 1 1]).run Tryd.prog (u.alloc (.cells #[.int .i64 x] 3)) = .ok v' w2 ∧ (∃ a n c, v' = .slice a n c) ∧ Blk w2 pb (fcs m va vb vg vc) 29 ∧ LQ w1 B pb m v' vb vg vc (la ++ [x]) lb lg lc (w2.setCell ⟨pb, 9, none⟩ v') := by
  obtain ⟨v', w2, hr, r1, r3, r4, r5, r6⟩ := G10.app_i1 x h.ra h.sz hl u.heap.size rfl
  have ho := fun k hk => (World.ownsRow.lt h.ra k hk).1
  have kb := lq_blk h ho r5
  have h1 := upd1 (j := 9) (z := v') h.hpb (rp_of B _ _ _ _ _) h.rb h.ab r3 r5
  have h2 := upd1 (j := 9) (z := v') h.hpb (rp_of B _ _ _ _ _) h.rg h.ag r3 r5
  have h3 := upd1 (j := 9) (z := v') h.hpb (rp_of B _ _ _ _ _) h.rc h.ac r3 r5
  refine ⟨v', w2, hr, (by obtain ⟨a, c, e, _⟩ := IRow.lst r1; exact ⟨a, _, c, e⟩), kb, ⟨by have := kb.set 9 v'; simpa using this, h.hpb, h.hp1, upd0 h.hpb (rp_of B _ _ _ _ _) r1, h1.1, h2.1, h3.1, h1.2, h2.2, h3.2, h.bg, h.bc, h.gc, ?_, by have := r6.size; have := h.sz; simp [World.setCell]; omega⟩⟩
  exact (h.hb.trans (r6.mono (Nat.le_trans h.hp1 (Nat.le_of_lt h.hpb)))).setCell (p := ⟨pb, 9, none⟩) h.hp1 _
theorem LQ.b {w1 : World} {B pb : Nat} {m : Mt} {va vb vg vc : Value} {la lb : List Int} {lg : List ByteArray} {lc : List C11.Ch} {u : World} (h : LQ w1 B pb m va vb vg vc la lb lg lc u) (x : Int) (hl : lb.length ≤ 1000000) :
    ∃ v' w2, (Builtin.append_ #[23, 23] 23 #[vb, .slice (some ⟨u.heap.size, 0, none⟩) 1 1]).run Tryd.prog (u.alloc (.cells #[.int .i64 x] 3)) = .ok v' w2 ∧ (∃ a n c, v' = .slice a n c) ∧ Blk w2 pb (fcs m va vb vg vc) 29 ∧ LQ w1 B pb m va v' vg vc la (lb ++ [x]) lg lc (w2.setCell ⟨pb, 10, none⟩ v') := by
  obtain ⟨v', w2, hr, r1, r3, r4, r5, r6⟩ := G10.app_i1 x h.rb h.sz hl u.heap.size rfl
  have ho := fun k hk => (World.ownsRow.lt h.rb k hk).1
  have kb := lq_blk h ho r5
  have h1 := upd1 (j := 10) (z := v') h.hpb (rp_of B _ _ _ _ _) h.ra h.ab.symm r3 r5
  have h2 := upd1 (j := 10) (z := v') h.hpb (rp_of B _ _ _ _ _) h.rg h.bg r3 r5
  have h3 := upd1 (j := 10) (z := v') h.hpb (rp_of B _ _ _ _ _) h.rc h.bc r3 r5
  refine ⟨v', w2, hr, (by obtain ⟨a, c, e, _⟩ := IRow.lst r1; exact ⟨a, _, c, e⟩), kb, ⟨by have := kb.set 10 v'; simpa using this, h.hpb, h.hp1, h1.1, upd0 h.hpb (rp_of B _ _ _ _ _) r1, h2.1, h3.1, h1.2.symm, h.ag, h.ac, h2.2, h3.2, h.gc, ?_, by have := r6.size; have := h.sz; simp [World.setCell]; omega⟩⟩
  exact (h.hb.trans (r6.mono (Nat.le_trans h.hp1 (Nat.le_of_lt h.hpb)))).setCell (p := ⟨pb, 10, none⟩) h.hp1 _
theorem LQ.g {w1 : World} {B pb : Nat} {m : Mt} {va vb vg vc : Value} {la lb : List Int} {lg : List ByteArray} {lc : List C11.Ch} {u : World} (h : LQ w1 B pb m va vb vg vc la lb lg lc u) (x : ByteArray) (hl : lg.length ≤ 1000000) :
    ∃ v' w2, (Builtin.append_ #[26, 26] 26 #[vg, .slice (some ⟨u.heap.size, 0, none⟩) 1 1]).run Tryd.prog (u.alloc (.cells #[.string x] 9)) = .ok v' w2 ∧ (∃ a n c, v' = .slice a n c) ∧ Blk w2 pb (fcs m va vb vg vc) 29 ∧ LQ w1 B pb m va vb v' vc la lb (lg ++ [x]) lc (w2.setCell ⟨pb, 11, none⟩ v') := by
  obtain ⟨v', w2, hr, r1, r3, r5, r6⟩ := app_t1 x h.rg h.sz hl u.heap.size rfl
  have ho := fun k hk => (World.ownsRow.lt h.rg k hk).1
  have kb := lq_blk h ho r5
  have h1 := upd1 (j := 11) (z := v') h.hpb (rp_of B _ _ _ _ _) h.ra h.ag.symm r3 r5
  have h2 := upd1 (j := 11) (z := v') h.hpb (rp_of B _ _ _ _ _) h.rb h.bg.symm r3 r5
  have h3 := upd1 (j := 11) (z := v') h.hpb (rp_of B _ _ _ _ _) h.rc h.gc r3 r5
  refine ⟨v', w2, hr, (by obtain ⟨a, c, e, _⟩ := r1.lst; exact ⟨a, _, c, e⟩), kb, ⟨by have := kb.set 11 v'; simpa using this, h.hpb, h.hp1, h1.1, h2.1, upd0 h.hpb (rp_of B _ _ _ _ _) r1, h3.1, h.ab, h1.2.symm, h.ac, h2.2.symm, h.bc, h3.2, ?_, by have := r6.size; have := h.sz; simp [World.setCell]; omega⟩⟩
  exact (h.hb.trans (r6.mono (Nat.le_trans h.hp1 (Nat.le_of_lt h.hpb)))).setCell (p := ⟨pb, 11, none⟩) h.hp1 _
end Go.Proofs.YthnpnkiomknkeaaDoor.S13
