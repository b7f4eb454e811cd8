/-
  Rows of bytes of a call's own, and what appends to them leave alone (for chapter 8).
-/
import Derived.Test.YthhhepbflggojaaDoorO5Row
import Derived.Deep.AppendLies
import Derived.Deep.Draws
import Derived.Deep.Trees
import Derived.Lib.Strings
import Derived.Lib.AppendStr
import Derived.Lib.AppendZeros
namespace Go.Proofs.YthhhepbflggojaaDoor
open Go.RowKit Go.Deep
set_option linter.unusedVariables false

theorem info_parts5 {t : TypeId} {z : Value} {a b : Nat} (h : (Tryd.prog.info? t).map (fun i => (i.zero, i.size, i.bytes)) = some (some z, a, b)) : ∃ i, Tryd.prog.info? t = some i ∧ i.zero = some z ∧ i.size = a ∧ i.bytes = b := by
  cases hi : Tryd.prog.info? t with
  | none => rw [hi] at h; cases h
  | some i => rw [hi] at h; simp at h; exact ⟨i, rfl, h.1, h.2.1, h.2.2⟩
theorem ownsRow_kept {w w' : World} {B : Nat} {e : TypeId} {size n : Nat} {v : Value} {xs : List Value} (h : w.ownsRow B e size v n xs) (hk : ∀ k, B ≤ k → k < w.heap.size → w'.heap[k]? = w.heap[k]?) : w'.ownsRow B e size v n xs := by
  obtain ⟨h1, h2 | ⟨g, cap, cur, hv, hg, hh, hr⟩⟩ := h
  · exact ⟨h1, Or.inl h2⟩
  · have hlt : g < w.heap.size := by
      rcases Nat.lt_or_ge g w.heap.size with h | h
      · exact h
      · rw [Array.getElem?_eq_none h] at hh; simp at hh
    exact ⟨h1, Or.inr ⟨g, cap, cur, hv, hg, by rw [hk g hg hlt]; exact hh, hr⟩⟩
theorem bcells_one (l : List UInt8) : ∀ u ∈ l.map bcell, u.oneCell' = true := fun u hu => by
  obtain ⟨_, _, rfl⟩ := List.mem_map.1 hu
  rfl
theorem below_t5 {V a x : World} (h : Below V.heap.size V a) (hx : Below a.heap.size a x) : Below V.heap.size V x :=
  h.trans ⟨hx.os, hx.tape, hx.output, hx.size, fun k hk => hx.block k (Nat.lt_of_lt_of_le hk h.size)⟩
theorem BRow.shape {w : World} {B : Nat} {v : Value} {ys : List UInt8} (h : BRow w B v ys) : ∃ a cap, v = .slice a ys.length cap := by
  obtain ⟨_, ⟨h0, h1⟩ | ⟨g, cap, cur, hv, _⟩⟩ := h
  · exact ⟨none, 0, by rw [h0, h1]⟩
  · exact ⟨_, cap, hv⟩
def Blk (w : World) (b : Nat) (cs : Array Value) (t : TypeId) : Prop := w.heap[b]? = some (.cells cs t (0, 0))
theorem Blk.new (w : World) (cs : Array Value) (t : TypeId) : Blk (w.alloc (.cells cs t)) w.heap.size cs t := by
  unfold Blk
  show (w.heap.push (.cells cs t))[w.heap.size]? = _
  simp
theorem Blk.lt {w : World} {b : Nat} {cs : Array Value} {t : TypeId} (h : Blk w b cs t) : b < w.heap.size := by
  rcases Nat.lt_or_ge b w.heap.size with hl | hl
  · exact hl
  · unfold Blk at h; rw [Array.getElem?_eq_none hl] at h; cases h
theorem Blk.below {w w' : World} {b : Nat} {cs : Array Value} {t : TypeId} (h : Blk w b cs t) (hb : Below w.heap.size w w') : Blk w' b cs t := by
  have hl := h.lt; unfold Blk at *; rw [hb.block b hl]; exact h
theorem Blk.cell {w : World} {b : Nat} {cs : Array Value} {t : TypeId} (h : Blk w b cs t) (j : Nat) : w.cell? ⟨b, j, none⟩ = cs[j]? := by
  unfold Blk at h; unfold World.cell?; simp [h]
theorem Blk.frozen {w : World} {b : Nat} {cs : Array Value} {t : TypeId} (h : Blk w b cs t) (j : Nat) : w.frozen? ⟨b, j, none⟩ = false := by
  unfold Blk at h; unfold World.frozen?; simp [h]

theorem Blk.set {w : World} {b : Nat} {cs : Array Value} {t : TypeId} (h : Blk w b cs t) (j : Nat) (v : Value) : Blk (w.setCell ⟨b, j, none⟩ v) b (cs.setIfInBounds j v) t := by
  unfold Blk at *
  simp [World.setCell, Array.getElem?_modify, h]
theorem Blk.other {w : World} {b b' : Nat} {cs : Array Value} {t : TypeId} (h : Blk w b cs t) (hne : b ≠ b') (j : Nat) (v : Value) : Blk (w.setCell ⟨b', j, none⟩ v) b cs t := by
  unfold Blk at *
  rw [Below.heap_setCell _ _ _ _ hne]; exact h
theorem Blk.kept {w w' : World} {b B : Nat} {cs : Array Value} {t : TypeId} (h : Blk w b cs t) (hb : Below B w w') (hl : b < B) : Blk w' b cs t := by
  unfold Blk at *; rw [hb.block b hl]; exact h
theorem strCells_b (s : ByteArray) : Lib.strCells s = s.data.toList.map bcell := rfl
structure NB (w w' : World) : Prop where
  size : w.heap.size ≤ w'.heap.size
  block : ∀ k, k < w.heap.size → (∀ c f, w.heap[k]? ≠ some (.cells c 5 f)) → w'.heap[k]? = w.heap[k]?
theorem NB.refl (w : World) : NB w w := ⟨Nat.le_refl _, fun _ _ _ => rfl⟩
theorem NB.trans {a b c : World} (h : NB a b) (k : NB b c) : NB a c :=
  ⟨Nat.le_trans h.size k.size, fun i hi hn => by
    have e := h.block i hi hn
    rw [k.block i (Nat.lt_of_lt_of_le hi h.size) (by rw [e]; exact hn), e]⟩
theorem NB.below {w w' : World} (h : Below w.heap.size w w') : NB w w' := ⟨h.size, fun k hk _ => h.block k hk⟩
theorem NB.grown {w w' : World} {B : Nat} {v : Value} {ys : List UInt8} (h : BRow w B v ys) (hg : w.grownBy w' v.ownBlock) : NB w w' :=
  ⟨hg.size, fun k hk hn => hg.block k hk (fun e => by
    obtain ⟨_, ⟨h0, _⟩ | ⟨g, cap, cur, hv, _, hh, _⟩⟩ := h
    · rw [h0] at e; simp [Value.ownBlock] at e
    · rw [hv] at e
      have : k = g := by simpa [Value.ownBlock] using e
      subst this
      exact hn _ _ hh)⟩
theorem app_b2 {W : World} {B : Nat} {v : Value} {ys : List UInt8} (news : List UInt8) (h : BRow W B v ys) (hB : B ≤ W.heap.size) (hm : 0 < news.length) (hl : ys.length + news.length ≤ 140737488355328) (H : Nat) (hH : W.heap.size = H) :
    ∃ v' w2, (Builtin.append_ #[43, 43] 43 #[v, .slice (some ⟨H, 0, none⟩) news.length news.length]).run Tryd.prog (W.alloc (.cells (news.map bcell).toArray 5)) = .ok v' w2 ∧
      BRow w2 B v' (ys ++ news) ∧ Below B W w2 ∧ NB W w2 := by
  obtain ⟨i0, hi, hz0, hz1, hz2⟩ := info_parts5 info_u8
  subst hH
  obtain ⟨g, cap, w2, hr, ho, hg, _, _⟩ := run_append_lies (P := Tryd.prog) (W.alloc (.cells (news.map bcell).toArray 5)) 43 43 B 5 i0 _ 1 1 Tryd.underlying43 hi hz0 hz1 hz2 rfl (by decide) v ys.length (ys.map bcell) (World.ownsRow.alloc h _) ⟨W.heap.size, 0, none⟩ news.length news.length (news.map bcell) (by simp)
    (fun j u hu => by rw [Go.WideShapes.add_plain, Nat.zero_add, World.cell?_alloc_at _ _ _ _ rfl]; simpa using hu) (bcells_one _) hm (by unfold maxLen; omega) (by omega) (by simp; omega) (W.heap.size + 1) (by simp)
  refine ⟨_, w2, hr, ?_, ((Below.refl B W).alloc hB _).grown hg (by simp; omega) fun k hk' => (World.ownsRow.lt h k hk').1, NB.trans (NB.below ((Below.refl _ _).alloc (Nat.le_refl _) _)) (NB.grown (World.ownsRow.alloc h _) hg)⟩
  unfold BRow
  rw [List.map_append, List.length_append]
  exact ho
theorem app_s2 {W : World} {B : Nat} {v : Value} {ys : List UInt8} (s : ByteArray) (h : BRow W B v ys) (hB : B ≤ W.heap.size) (hl : ys.length + s.size ≤ 140737488355328) :
    ∃ v' w2, (Builtin.append_ #[43, 9] 43 #[v, .string s]).run Tryd.prog W = .ok v' w2 ∧ BRow w2 B v' (ys ++ s.data.toList) ∧ Below B W w2 ∧ NB W w2 := by
  obtain ⟨i0, hi, hz0, hz1, hz2⟩ := info_parts5 info_u8
  obtain ⟨v', w2, hr, ho, hg, _⟩ := Lib.run_append_own_string (P := Tryd.prog) W B 43 9 43 5 i0 Tryd.underlying43 Tryd.underlying9 hi hz0 hz1 hz2 v ys.length (ys.map bcell) h s (by unfold maxLen; omega) hl hB
  refine ⟨v', w2, hr, ?_, (Below.refl B W).grown hg (by omega) fun k hk' => (World.ownsRow.lt h k hk').1, NB.grown h hg⟩
  unfold BRow
  rw [List.map_append, List.length_append, ← Lib.size_eq, ← strCells_b]
  exact ho
structure KB (B : Nat) (w w' : World) : Prop where
  below : Below B w w'
  nb : NB w w'
theorem KB.size {B : Nat} {w w' : World} (h : KB B w w') : w.heap.size ≤ w'.heap.size := h.nb.size
theorem KB.refl (B : Nat) (w : World) : KB B w w := ⟨Below.refl _ _, NB.refl _⟩
theorem KB.trans {B : Nat} {a b c : World} (h : KB B a b) (k : KB B b c) : KB B a c := ⟨h.below.trans k.below, h.nb.trans k.nb⟩
theorem KB.drewL {B : Nat} {w w' : World} (h : KB B w.drew w') : KB B w w' := ⟨⟨h.below.os, h.below.tape, h.below.output, h.below.size, h.below.block⟩, ⟨h.nb.size, h.nb.block⟩⟩
theorem app_b3 {W : World} {B : Nat} {v : Value} {ys : List UInt8} (news : List UInt8) (h : BRow W B v ys) (hB : B ≤ W.heap.size) (hm : 0 < news.length) (hl : ys.length + news.length ≤ 140737488355328) (H : Nat) (hH : W.heap.size = H) :
    ∃ v' w2, (Builtin.append_ #[43, 43] 43 #[v, .slice (some ⟨H, 0, none⟩) news.length news.length]).run Tryd.prog (W.alloc (.cells (news.map bcell).toArray 5)) = .ok v' w2 ∧ BRow w2 B v' (ys ++ news) ∧ KB B W w2 := by
  obtain ⟨v', w2, a, b, c, d⟩ := app_b2 news h hB hm hl H hH
  exact ⟨v', w2, a, b, c, d⟩
theorem app_s3 {W : World} {B : Nat} {v : Value} {ys : List UInt8} (s : ByteArray) (h : BRow W B v ys) (hB : B ≤ W.heap.size) (hl : ys.length + s.size ≤ 140737488355328) :
    ∃ v' w2, (Builtin.append_ #[43, 9] 43 #[v, .string s]).run Tryd.prog W = .ok v' w2 ∧ BRow w2 B v' (ys ++ s.data.toList) ∧ KB B W w2 := by
  obtain ⟨v', w2, a, b, c, d⟩ := app_s2 s h hB hl
  exact ⟨v', w2, a, b, c, d⟩
theorem BRow.later {w w' : World} {B : Nat} {v : Value} {ys : List UInt8} (h : BRow w B v ys) (hb : Below w.heap.size w w') : BRow w' B v ys := ownsRow_kept h (fun k _ hk => hb.block k hk)
theorem Blk.nb {w w' : World} {b : Nat} {cs : Array Value} {t : TypeId} (h : Blk w b cs t) (hn : NB w w') (ht : t ≠ 5) : Blk w' b cs t := by
  have hl := h.lt
  unfold Blk at *
  rw [hn.block b hl (fun c f e => by rw [h] at e; injection e with e; injection e with _ e _; exact ht e)]
  exact h
end Go.Proofs.YthhhepbflggojaaDoor
