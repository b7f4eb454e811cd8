/-
  Three rows of ints that grow beside one another.
-/
import Derived.Test.YthgpchjkeidilaaC11Wt
import Derived.Test.YthgpchjkeidilaaC11T
namespace Go.Proofs.Ythgpchjkeidilaa
open Go.RowKit Go.Deep
set_option linter.unusedVariables false

theorem app_i1 {W : World} {B : Nat} {v : Value} {zs : List Int} (x : Int) (s : Nat) (h : IRow W B v zs) (hB : B ≤ W.heap.size) (hl : zs.length ≤ 1000000) (hs : Blk W s #[.int .i64 x] 3) :
    ∃ v' w2, (Builtin.append_ #[48, 48] 48 #[v, .slice (some ⟨s, 0, none⟩) 1 1]).run Try.prog W = .ok v' w2 ∧
      IRow w2 B v' (zs ++ [x]) ∧ (v'.ownBlock = v.ownBlock ∨ v'.ownBlock = some W.heap.size) ∧ W.heap.size ≤ w2.heap.size ∧ (∀ k, k < W.heap.size → v.ownBlock ≠ some k → w2.heap[k]? = W.heap[k]?) ∧ Below B W w2 := by
  obtain ⟨i0, hi, hz0, hz1, hz2⟩ := info_parts5 info_int
  obtain ⟨g, cap, w2, hr, ho, hg, hat, _⟩ := run_append_lies (P := Try.prog) W 48 48 B 3 i0 _ 1 8 Try.underlying48 hi hz0 hz1 hz2 rfl (by decide) v zs.length (zs.map (Value.int .i64)) h ⟨s, 0, none⟩ 1 1 [.int .i64 x] (by simp)
    (fun j u hu => by rw [Go.WideShapes.add_plain, Nat.zero_add, hs.cell j]; simpa using hu) (fun u hu => by simp at hu; subst hu; rfl) (by decide) (by unfold maxLen; omega) (by omega) hB W.heap.size rfl
  refine ⟨_, w2, hr, ?_, ?_, hg.size, fun k hk hne => hg.block k hk (Ne.symm hne), (Below.refl B W).grown hg (by omega) fun k hk' => (World.ownsRow.lt h k hk').1⟩
  · unfold IRow
    rw [List.map_append, List.length_append]
    exact ho
  · rcases hat with hat | hat
    · exact Or.inl (by rw [hat]; rfl)
    · exact Or.inr (by rw [hat]; rfl)
theorem IRow.keep {w w' : World} {B : Nat} {v : Value} {zs : List Int} (h : IRow w B v zs) (hk : ∀ k, v.ownBlock = some k → k < w.heap.size → w'.heap[k]? = w.heap[k]?) : IRow w' B v zs := by
  obtain ⟨h1, h2 | ⟨g, cap, cur, hv, hg, hh, hr⟩⟩ := h
  · exact ⟨h1, Or.inl h2⟩
  · have hlt : g < w.heap.size := by
      rcases Nat.lt_or_ge g w.heap.size with h | h
      · exact h
      · rw [Array.getElem?_eq_none h] at hh; simp at hh
    exact ⟨h1, Or.inr ⟨g, cap, cur, hv, hg, by rw [hk g (by rw [hv]; rfl) hlt]; exact hh, hr⟩⟩
theorem IRow.ownlt {w : World} {B : Nat} {v : Value} {zs : List Int} (h : IRow w B v zs) : ∀ k, v.ownBlock = some k → B ≤ k ∧ k < w.heap.size := fun k hk => World.ownsRow.lt h k hk
/- no block is both rows' -/
def Apart (v v' : Value) : Prop := ∀ k, v.ownBlock = some k → v'.ownBlock ≠ some k
theorem Apart.symm {v v' : Value} (h : Apart v v') : Apart v' v := fun k h1 h2 => h k h2 h1
/- three rows, what is to be appended to them, and a span's box -/
structure Q3 (w : World) (bx : Nat) (cs : Array Value) (u : World) (v3 v4 v5 : Value) (z3 z4 z5 : List Int) (src : List (Nat × Int)) : Prop where
  i3 : IRow u w.heap.size v3 z3
  i4 : IRow u w.heap.size v4 z4
  i5 : IRow u w.heap.size v5 z5
  a34 : Apart v3 v4
  a35 : Apart v3 v5
  a45 : Apart v4 v5
  src : ∀ p ∈ src, Blk u p.1 #[.int .i64 p.2] 3 ∧ v3.ownBlock ≠ some p.1 ∧ v4.ownBlock ≠ some p.1 ∧ v5.ownBlock ≠ some p.1
  low : Below w.heap.size w u
  box : Blk u bx cs 31
theorem box_own {u : World} {B bx : Nat} {cs : Array Value} {v : Value} {zs : List Int} (hb : Blk u bx cs 31) (h : IRow u B v zs) : v.ownBlock ≠ some bx := fun e => by
  obtain ⟨h1, h2 | ⟨g, cap, cur, hv, hg, hh, hr⟩⟩ := h
  · rw [h2.1] at e; simp [Value.ownBlock] at e
  · rw [hv] at e
    have : g = bx := by simpa [Value.ownBlock] using e
    subst this
    unfold Blk at hb
    rw [hh] at hb
    injection hb with e; injection e with _ e _; cases e
section
variable {w u : World} {bx : Nat} {cs : Array Value} {v3 v4 v5 : Value} {z3 z4 z5 : List Int} {src : List (Nat × Int)}
theorem Q3.alloc (h : Q3 w bx cs u v3 v4 v5 z3 z4 z5 src) (x : Int) : Q3 w bx cs (u.alloc (.cells #[.int .i64 x] 3)) v3 v4 v5 z3 z4 z5 ((u.heap.size, x) :: src) := by
  have hb : Below u.heap.size u (u.alloc (.cells #[.int .i64 x] 3)) := (Below.refl _ _).alloc (Nat.le_refl _) _
  refine ⟨World.ownsRow.alloc h.i3 _, World.ownsRow.alloc h.i4 _, World.ownsRow.alloc h.i5 _, h.a34, h.a35, h.a45, fun p hp => ?_, h.low.trans (hb.mono h.low.size), h.box.below hb⟩
  rcases List.mem_cons.1 hp with rfl | hp
  · exact ⟨Blk.new _ _ _, fun e => by have := (h.i3.ownlt _ e).2; omega, fun e => by have := (h.i4.ownlt _ e).2; omega, fun e => by have := (h.i5.ownlt _ e).2; omega⟩
  · obtain ⟨p1, p2⟩ := h.src p hp
    exact ⟨p1.below hb, p2⟩
theorem Q3.app3 (h : Q3 w bx cs u v3 v4 v5 z3 z4 z5 src) {s : Nat} {x : Int} (hs : (s, x) ∈ src) (hl : z3.length ≤ 1000000) :
    ∃ v' u', (Builtin.append_ #[48, 48] 48 #[v3, .slice (some ⟨s, 0, none⟩) 1 1]).run Try.prog u = .ok v' u' ∧ Q3 w bx cs u' v' v4 v5 (z3 ++ [x]) z4 z5 src := by
  obtain ⟨v', u', r, i, o, sz, bl, be⟩ := app_i1 x s h.i3 h.low.size hl (h.src _ hs).1
  have ap : ∀ v, Apart v3 v → (∀ k, v.ownBlock = some k → k < u.heap.size) → Apart v' v := fun v hv hk k e1 e2 => by
    rcases o with o | o
    · rw [o] at e1; exact hv k e1 e2
    · rw [o] at e1; have := hk k e2; simp at e1; omega
  refine ⟨v', u', r, i, h.i4.keep fun k e hk => bl k hk (fun e2 => h.a34 k e2 e), h.i5.keep fun k e hk => bl k hk (fun e2 => h.a35 k e2 e), ap _ h.a34 (fun k e => (h.i4.ownlt k e).2), ap _ h.a35 (fun k e => (h.i5.ownlt k e).2), h.a45, fun p hp => ?_, h.low.trans be, ?_⟩
  · obtain ⟨p1, p2, p3, p4⟩ := h.src p hp
    refine ⟨by unfold Blk at *; rw [bl _ (Blk.lt p1) p2]; exact p1, fun e => ?_, p3, p4⟩
    rcases o with o | o
    · rw [o] at e; exact p2 e
    · rw [o] at e; have := Blk.lt p1; simp at e; omega
  · have := h.box
    unfold Blk at *
    rw [bl _ (Blk.lt h.box) (box_own h.box h.i3)]; exact this
theorem Q3.r4 (h : Q3 w bx cs u v3 v4 v5 z3 z4 z5 src) : Q3 w bx cs u v4 v3 v5 z4 z3 z5 src :=
  ⟨h.i4, h.i3, h.i5, h.a34.symm, h.a45, h.a35, fun p hp => by obtain ⟨a, b, c, d⟩ := h.src p hp; exact ⟨a, c, b, d⟩, h.low, h.box⟩
theorem Q3.r5 (h : Q3 w bx cs u v3 v4 v5 z3 z4 z5 src) : Q3 w bx cs u v5 v4 v3 z5 z4 z3 src :=
  ⟨h.i5, h.i4, h.i3, h.a45.symm, h.a35.symm, h.a34.symm, fun p hp => by obtain ⟨a, b, c, d⟩ := h.src p hp; exact ⟨a, d, c, b⟩, h.low, h.box⟩
theorem Q3.app4 (h : Q3 w bx cs u v3 v4 v5 z3 z4 z5 src) {s : Nat} {x : Int} (hs : (s, x) ∈ src) (hl : z4.length ≤ 1000000) :
    ∃ v' u', (Builtin.append_ #[48, 48] 48 #[v4, .slice (some ⟨s, 0, none⟩) 1 1]).run Try.prog u = .ok v' u' ∧ Q3 w bx cs u' v3 v' v5 z3 (z4 ++ [x]) z5 src := by
  obtain ⟨v', u', r, q⟩ := h.r4.app3 hs hl
  exact ⟨v', u', r, q.r4⟩
theorem Q3.app5 (h : Q3 w bx cs u v3 v4 v5 z3 z4 z5 src) {s : Nat} {x : Int} (hs : (s, x) ∈ src) (hl : z5.length ≤ 1000000) :
    ∃ v' u', (Builtin.append_ #[48, 48] 48 #[v5, .slice (some ⟨s, 0, none⟩) 1 1]).run Try.prog u = .ok v' u' ∧ Q3 w bx cs u' v3 v4 v' z3 z4 (z5 ++ [x]) src := by
  obtain ⟨v', u', r, q⟩ := h.r5.app3 hs hl
  exact ⟨v', u', r, q.r5⟩
theorem Q3.drew (h : Q3 w bx cs u v3 v4 v5 z3 z4 z5 src) : Q3 w bx cs u.drew v3 v4 v5 z3 z4 z5 src :=
  ⟨h.i3, h.i4, h.i5, h.a34, h.a35, h.a45, h.src, h.low.drew, h.box⟩
end
end Go.Proofs.Ythgpchjkeidilaa
