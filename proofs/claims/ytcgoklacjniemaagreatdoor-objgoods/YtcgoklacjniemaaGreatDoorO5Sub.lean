/-
  What lies lies in a world that holds more; a world without one block; rows of objects that a call owns.
-/
import Derived.Test.YtcgoklacjniemaaGreatDoorO5Tree
import Derived.Test.YtcgoklacjniemaaGreatDoorO5Row
namespace Go.Proofs.YtcgoklacjniemaaGreatDoor
open Go.RowKit Go.Deep

structure Sub (w w' : World) : Prop where
  size : w.heap.size ≤ w'.heap.size
  cell : ∀ p v, w.cell? p = some v → w'.cell? p = some v
theorem Sub.of_below {w w' : World} (h : Below w.heap.size w w') : Sub w w' :=
  ⟨h.size, fun p v hv => by
    rcases Nat.lt_or_ge p.block w.heap.size with hl | hl
    · rw [h.cell hl]; exact hv
    · unfold World.cell? at hv; rw [Array.getElem?_eq_none hl] at hv; cases hv⟩
theorem Sub.trans {u v w : World} (h : Sub u v) (k : Sub v w) : Sub u w := ⟨Nat.le_trans h.size k.size, fun _ _ hx => k.cell _ _ (h.cell _ _ hx)⟩
theorem Strs.sub {w w' : World} {a : Option Addr} {ss : List ByteArray} (h : Strs w a ss) (hb : Sub w w') : Strs w' a ss := by
  rcases h with h | ⟨b, off, h1, h2, h3⟩
  · exact Or.inl h
  · exact Or.inr ⟨b, off, h1, Nat.lt_of_lt_of_le h2 hb.size, fun i hi => hb.cell _ _ (h3 i hi)⟩
theorem Six.sub {w w' : World} {b off : Nat} {p : Pay} {ka ia : Option Addr} {kc n ic : Nat} (h : Six w b off p ka kc ia n ic) (hb : Sub w w') : Six w' b off p ka kc ia n ic := by
  obtain ⟨h0, h1, h2, h3, h4, h5⟩ := h
  exact ⟨hb.cell _ _ h0, hb.cell _ _ h1, hb.cell _ _ h2, hb.cell _ _ h3, hb.cell _ _ h4, hb.cell _ _ h5⟩
theorem Rows.sub {w w' : World} (hb : Sub w w') : ∀ {T : BT Pay} {b off : Nat}, Rows w T b off → Rows w' T b off
  | .nil, _, _, _ => trivial
  | .node _ _ p T N, b, off, h => by
    obtain ⟨⟨ka, kc, ia, ic, h6, hok, ⟨hs, hk⟩, h1, h2, h3⟩, hN⟩ := h
    refine ⟨⟨ka, kc, ia, ic, h6.sub hb, hok, ⟨hs.sub hb, hk⟩, h1, h2, ?_⟩, Rows.sub hb hN⟩
    rcases h3 with h3 | ⟨b', off', e, hl, hT⟩
    · exact Or.inl h3
    · exact Or.inr ⟨b', off', e, Nat.lt_of_lt_of_le hl hb.size, Rows.sub hb hT⟩
theorem OIn.sub {w w' : World} (hb : Sub w w') {p : Pay} {T : BT Pay} {ka ia : Option Addr} {kc ic : Nat} (h : OIn w p T ka kc ia ic) : OIn w' p T ka kc ia ic := by
  obtain ⟨hok, ⟨hs, hk⟩, h1, h2, h3⟩ := h
  refine ⟨hok, ⟨hs.sub hb, hk⟩, h1, h2, ?_⟩
  rcases h3 with h3 | ⟨b', off', e, hl, hT⟩
  · exact Or.inl h3
  · exact Or.inr ⟨b', off', e, Nat.lt_of_lt_of_le hl hb.size, Rows.sub hb hT⟩
theorem OIn.at_ {w : World} {p : Pay} {T : BT Pay} {ka ia : Option Addr} {kc ic : Nat} (h : OIn w p T ka kc ia ic) : ∃ b off, (T = .nil ∨ (ia = some ⟨b, off, none⟩ ∧ b < w.heap.size)) ∧ Rows w T b off := by
  obtain ⟨_, _, _, _, h | ⟨b, off, e, hl, hT⟩⟩ := h
  · have := flen_zero h
    subst this
    exact ⟨0, 0, Or.inl rfl, trivial⟩
  · exact ⟨b, off, Or.inr ⟨e, hl⟩, hT⟩
theorem Strs.get {w : World} {a : Option Addr} {ss : List ByteArray} (h : Strs w a ss) {i : Nat} (hi : i < ss.length) : ∃ b off, a = some ⟨b, off, none⟩ ∧ b < w.heap.size ∧ ∀ i, i < ss.length → w.cell? ⟨b, off + i, none⟩ = some (.string (ss.getD i ByteArray.empty)) := by
  rcases h with h | h
  · rw [h] at hi; simp at hi
  · exact h
theorem Strs.get5 {w : World} {a : Option Addr} {ss : List ByteArray} (h : Strs w a ss) {i : Nat} (hi : i < ss.length) : ∃ b off, a = some ⟨b, off, none⟩ ∧ b < w.heap.size ∧ w.cell? ⟨b, off + i, none⟩ = some (.string (ss.getD i ByteArray.empty)) := by
  obtain ⟨b, off, h1, h2, h3⟩ := h.get hi
  exact ⟨b, off, h1, h2, h3 i hi⟩

/- a world's blocks that are S, and nothing of the others -/
open Classical in
noncomputable def only (S : Nat → Prop) (w : World) : World := { w with heap := w.heap.mapIdx fun k o => if S k then o else .cells #[] 0 }
theorem only_size (S : Nat → Prop) (w : World) : (only S w).heap.size = w.heap.size := by simp [only]
theorem only_block {S : Nat → Prop} {k : Nat} (w : World) (h : S k) : (only S w).heap[k]? = w.heap[k]? := by
  simp only [only, Array.getElem?_mapIdx, if_pos h]
  cases w.heap[k]? <;> rfl
theorem only_not {S : Nat → Prop} {p : Addr} (w : World) (h : ¬ S p.block) : (only S w).cell? p = none := by
  unfold World.cell?
  simp only [only, Array.getElem?_mapIdx, if_neg h]
  cases w.heap[p.block]? <;> simp
/- what lies in S lies in S', if nothing in S has turned and all of it is in S' -/
theorem only_sub {S S' : Nat → Prop} {w w' : World} (hs : w.heap.size ≤ w'.heap.size) (h : ∀ k, S k → k < w.heap.size → S' k ∧ w'.heap[k]? = w.heap[k]?) : Sub (only S w) (only S' w') := by
  refine ⟨by rw [only_size, only_size]; exact hs, fun p v hv => ?_⟩
  by_cases hp : S p.block
  · rcases Nat.lt_or_ge p.block w.heap.size with hl | hl
    · obtain ⟨h1, h2⟩ := h _ hp hl
      rw [World.cell?_of_block (w := only S w) (w' := only S' w') (by rw [only_block _ hp, only_block _ h1, h2])]; exact hv
    · unfold World.cell? at hv; rw [Array.getElem?_eq_none (by rw [only_size]; exact hl)] at hv; cases hv
  · rw [only_not _ hp] at hv; cases hv
theorem only_sub_all (S : Nat → Prop) (w : World) : Sub (only S w) w := by
  refine ⟨by rw [only_size]; exact Nat.le_refl _, fun p v hv => ?_⟩
  by_cases hp : S p.block
  · rw [World.cell?_of_block (w := only S w) (w' := w) (only_block _ hp).symm]; exact hv
  · rw [only_not _ hp] at hv; cases hv
theorem sub_only {S : Nat → Prop} {w : World} {p : Addr} {v : Value} (hp : S p.block) (h : w.cell? p = some v) : (only S w).cell? p = some v := by
  rw [World.cell?_of_block (w := w) (w' := only S w) (only_block _ hp)]; exact h
/- what a call has made -/
noncomputable def fresh (B : Nat) (w : World) : World := only (fun k => B ≤ k) w
theorem fresh_sub (B : Nat) (w : World) : Sub (fresh B w) w := only_sub_all _ _
theorem fresh_le {B B' : Nat} {w w' : World} (hB : B' ≤ B) (h : Below w.heap.size w w') : Sub (fresh B w) (fresh B' w') := only_sub h.size fun k hk hl => ⟨by omega, h.block k hl⟩

/- nothing old has turned but for the block b -/
structure But (b : Nat) (w w' : World) : Prop where
  os : w'.os = w.os
  tape : w'.tape = w.tape
  output : w'.output = w.output
  size : w.heap.size ≤ w'.heap.size
  block : ∀ k, k < w.heap.size → k ≠ b → w'.heap[k]? = w.heap[k]?
theorem But.refl (b : Nat) (w : World) : But b w w := ⟨rfl, rfl, rfl, Nat.le_refl _, fun _ _ _ => rfl⟩
theorem But.trans {b : Nat} {u v w : World} (h : But b u v) (k : But b v w) : But b u w :=
  ⟨k.os.trans h.os, k.tape.trans h.tape, k.output.trans h.output, Nat.le_trans h.size k.size, fun i hi hb => (k.block i (Nat.lt_of_lt_of_le hi h.size) hb).trans (h.block i hi hb)⟩
theorem But.of_below {b : Nat} {w w' : World} (h : Below w.heap.size w w') : But b w w' := ⟨h.os, h.tape, h.output, h.size, fun k hk _ => h.block k hk⟩
theorem But.setCell (b : Nat) (w : World) (o : Nat) (v : Value) : But b w (w.setCell ⟨b, o, none⟩ v) :=
  ⟨rfl, rfl, rfl, by simp [World.setCell], fun _ _ hb => Below.heap_setCell _ _ _ _ hb⟩
theorem But.below {b : Nat} {w w' W : World} (h : But b w w') (h0 : Below W.heap.size W w) (hb : W.heap.size ≤ b) : Below W.heap.size W w' :=
  h0.trans ⟨h.os, h.tape, h.output, h.size, fun k hk => h.block k (Nat.lt_of_lt_of_le hk h0.size) (by omega)⟩
theorem But.cell {b : Nat} {w w' : World} (h : But b w w') {p : Addr} (hk : p.block < w.heap.size) (hne : p.block ≠ b) : w'.cell? p = w.cell? p := World.cell?_of_block (w := w) (h.block _ hk hne)
theorem But.own {b B : Nat} {w w' : World} {e : TypeId} {size n : Nat} {v : Value} {xs : List Value} (h : w.ownsRow B e size v n xs) (hk : But b w w') (hb : b < B) : w'.ownsRow B e size v n xs := by
  obtain ⟨h1, h2 | ⟨g, cap, cur, hv, hg, hh, hr⟩⟩ := h
  · exact ⟨h1, Or.inl h2⟩
  · have hlt : g < w.heap.size := by
      rcases Nat.lt_or_ge g w.heap.size with h | h
      · exact h
      · rw [Array.getElem?_eq_none h] at hh; simp at hh
    exact ⟨h1, Or.inr ⟨g, cap, cur, hv, hg, by rw [hk.block _ hlt (by omega)]; exact hh, hr⟩⟩
/- a block that is known whole -/
def Blk (w : World) (b : Nat) (cs : Array Value) (t : TypeId) : Prop := w.heap[b]? = some (.cells cs t (0, 0))
theorem Blk.new (w : World) (cs : Array Value) (t : TypeId) : Blk (w.alloc (.cells cs t)) w.heap.size cs t := by
  unfold Blk
  show (w.heap.push (.cells cs t))[w.heap.size]? = _
  simp
theorem Blk.lt {w : World} {b : Nat} {cs : Array Value} {t : TypeId} (h : Blk w b cs t) : b < w.heap.size := by
  rcases Nat.lt_or_ge b w.heap.size with hl | hl
  · exact hl
  · unfold Blk at h; rw [Array.getElem?_eq_none hl] at h; cases h
theorem Blk.below {w w' : World} {b : Nat} {cs : Array Value} {t : TypeId} (h : Blk w b cs t) (hb : Below w.heap.size w w') : Blk w' b cs t := by
  have hl := h.lt; unfold Blk at *; rw [hb.block b hl]; exact h
theorem Blk.cell {w : World} {b : Nat} {cs : Array Value} {t : TypeId} (h : Blk w b cs t) (j : Nat) : w.cell? ⟨b, j, none⟩ = cs[j]? := by
  unfold Blk at h; unfold World.cell?; simp [h]
theorem Blk.frozen {w : World} {b : Nat} {cs : Array Value} {t : TypeId} (h : Blk w b cs t) (j : Nat) : w.frozen? ⟨b, j, none⟩ = false := by
  unfold Blk at h; unfold World.frozen?; simp [h]

theorem Blk.set {w : World} {b : Nat} {cs : Array Value} {t : TypeId} (h : Blk w b cs t) (j : Nat) (v : Value) : Blk (w.setCell ⟨b, j, none⟩ v) b (cs.setIfInBounds j v) t := by
  unfold Blk at *
  simp [World.setCell, Array.getElem?_modify, h]
theorem Blk.other {w : World} {b b' : Nat} {cs : Array Value} {t : TypeId} (h : Blk w b cs t) (hne : b ≠ b') (j : Nat) (v : Value) : Blk (w.setCell ⟨b', j, none⟩ v) b cs t := by
  unfold Blk at *
  rw [Below.heap_setCell _ _ _ _ hne]; exact h
theorem Blk.kept {w w' : World} {b B : Nat} {cs : Array Value} {t : TypeId} (h : Blk w b cs t) (hb : Below B w w') (hl : b < B) : Blk w' b cs t := by
  unfold Blk at *; rw [hb.block b hl]; exact h
/- six cells written -/
abbrev st6 (w : World) (b : Nat) (v0 v1 v2 v3 v4 v5 : Value) : World := (((((w.setCell ⟨b, 0, none⟩ v0).setCell ⟨b, 1, none⟩ v1).setCell ⟨b, 2, none⟩ v2).setCell ⟨b, 3, none⟩ v3).setCell ⟨b, 4, none⟩ v4).setCell ⟨b, 5, none⟩ v5
theorem st6_below {B : Nat} {a w : World} (h : Below B a w) {b : Nat} (hb : B ≤ b) (v0 v1 v2 v3 v4 v5 : Value) : Below B a (st6 w b v0 v1 v2 v3 v4 v5) :=
  (((((h.setCell (p := ⟨b, 0, none⟩) hb _).setCell (p := ⟨b, 1, none⟩) hb _).setCell (p := ⟨b, 2, none⟩) hb _).setCell (p := ⟨b, 3, none⟩) hb _).setCell (p := ⟨b, 4, none⟩) hb _).setCell (p := ⟨b, 5, none⟩) hb _
theorem st6_blk {w : World} {b : Nat} {x0 x1 x2 x3 x4 x5 : Value} {t : TypeId} (h : Blk w b #[x0, x1, x2, x3, x4, x5] t) (v0 v1 v2 v3 v4 v5 : Value) : Blk (st6 w b v0 v1 v2 v3 v4 v5) b #[v0, v1, v2, v3, v4, v5] t :=
  (((((h.set 0 v0).set 1 v1).set 2 v2).set 3 v3).set 4 v4).set 5 v5
theorem st6_block {w : World} {b k : Nat} (hk : k ≠ b) (v0 v1 v2 v3 v4 v5 : Value) : (st6 w b v0 v1 v2 v3 v4 v5).heap[k]? = w.heap[k]? := by
  rw [Below.heap_setCell _ _ _ _ hk, Below.heap_setCell _ _ _ _ hk, Below.heap_setCell _ _ _ _ hk, Below.heap_setCell _ _ _ _ hk, Below.heap_setCell _ _ _ _ hk, Below.heap_setCell _ _ _ _ hk]
theorem st6_size (w : World) (b : Nat) (v0 v1 v2 v3 v4 v5 : Value) : (st6 w b v0 v1 v2 v3 v4 v5).heap.size = w.heap.size := by simp [World.setCell]
theorem Blk.six {w : World} {b : Nat} {x0 x1 x2 x3 x4 x5 : Value} {t : TypeId} (h : Blk w b #[x0, x1, x2, x3, x4, x5] t) : (w.cell? ⟨b, 0, none⟩ = some x0 ∧ w.cell? ⟨b, 1, none⟩ = some x1 ∧ w.cell? ⟨b, 2, none⟩ = some x2 ∧ w.cell? ⟨b, 3, none⟩ = some x3 ∧ w.cell? ⟨b, 4, none⟩ = some x4 ∧ w.cell? ⟨b, 5, none⟩ = some x5) ∧
    (w.frozen? ⟨b, 0, none⟩ = false ∧ w.frozen? ⟨b, 1, none⟩ = false ∧ w.frozen? ⟨b, 2, none⟩ = false ∧ w.frozen? ⟨b, 3, none⟩ = false ∧ w.frozen? ⟨b, 4, none⟩ = false ∧ w.frozen? ⟨b, 5, none⟩ = false) :=
  ⟨⟨h.cell 0, h.cell 1, h.cell 2, h.cell 3, h.cell 4, h.cell 5⟩, ⟨h.frozen 0, h.frozen 1, h.frozen 2, h.frozen 3, h.frozen 4, h.frozen 5⟩⟩
/- objects one behind the other, in a row that a call owns -/
structure Ent where
  b0 : Nat
  o0 : Nat
  p : Pay
  T : BT Pay
  ka : Option Addr
  kc : Nat
  ia : Option Addr
  ic : Nat
def Ent.cells (x : Ent) : List Value := [.int .i64 x.p.kind, .bool x.p.flag, .int .i64 x.p.num, .string x.p.text, .slice x.ka x.p.keys.length x.kc, .slice x.ia (flen x.T) x.ic]
def Ent.lies (w : World) (x : Ent) : Prop := OIn w x.p x.T x.ka x.kc x.ia x.ic
def forest : List Ent → BT Pay
  | [] => .nil
  | x :: l => .node x.b0 x.o0 x.p x.T (forest l)
theorem forest_len : ∀ l : List Ent, flen (forest l) = l.length
  | [] => rfl
  | _ :: l => by simp [forest, flen, forest_len l]
def ecells (l : List Ent) : List Value := l.flatMap Ent.cells
theorem ecells_len : ∀ l : List Ent, (ecells l).length = l.length * 6
  | [] => rfl
  | x :: l => by
    have := ecells_len l
    simp only [ecells, List.flatMap_cons, List.length_append] at this ⊢
    rw [this]
    simp [Ent.cells]
    omega
theorem ecells_append (l : List Ent) (x : Ent) : ecells (l ++ [x]) = ecells l ++ x.cells := by simp [ecells]
/- their parts lie in memory that the call has made, outside the row itself -/
def Part (B : Nat) (v : Value) (k : Nat) : Prop := B ≤ k ∧ v.ownBlock ≠ some k
def ORow (w : World) (B : Nat) (v : Value) (l : List Ent) : Prop := w.ownsRow B 25 6 v l.length (ecells l) ∧ ∀ x ∈ l, x.lies (only (Part B v) w)
theorem ORow.nil (w : World) (B : Nat) : ORow w B (.slice none 0 0) [] := ⟨World.ownsRow_nil _ _ _ _, by simp⟩
theorem rows_cells {w : World} : ∀ {l : List Ent} {b off : Nat}, (∀ j, j < l.length * 6 → w.cell? ⟨b, off + j, none⟩ = (ecells l)[j]?) → (∀ x ∈ l, x.lies w) → Rows w (forest l) b off
  | [], _, _, _, _ => trivial
  | x :: l, b, off, h, hl => by
    have hc : ∀ j, j < 6 → w.cell? ⟨b, off + j, none⟩ = x.cells[j]? := fun j hj => by
      rw [h j (by simp; omega), show ecells (x :: l) = x.cells ++ ecells l by simp [ecells], List.getElem?_append_left (by simpa [Ent.cells] using hj)]
    refine rows_node.2 ⟨⟨x.ka, x.kc, x.ia, x.ic, ⟨?_, ?_, ?_, ?_, ?_, ?_⟩, hl x (by simp)⟩, rows_cells (fun j hj => ?_) fun y hy => hl y (by simp [hy])⟩
    · exact hc 0 (by omega)
    · exact hc 1 (by omega)
    · exact hc 2 (by omega)
    · exact hc 3 (by omega)
    · exact hc 4 (by omega)
    · exact hc 5 (by omega)
    · have := h (j + 6) (by simp; omega)
      rw [show off + 6 + j = off + (j + 6) by omega, this, show ecells (x :: l) = x.cells ++ ecells l by simp [ecells], List.getElem?_append_right (by simp [Ent.cells])]
      simp [Ent.cells]
theorem ORow.items {w : World} {B : Nat} {v : Value} {l : List Ent} (h : ORow w B v l) :
    ∃ a cap, v = .slice a (flen (forest l)) cap ∧ flen (forest l) ≤ cap ∧ cap ≤ 9223372036854775807 ∧ (flen (forest l) = 0 ∨ ∃ b' off', a = some ⟨b', off', none⟩ ∧ b' < (fresh B w).heap.size ∧ Rows (fresh B w) (forest l) b' off') := by
  rw [forest_len]
  obtain ⟨h, hl⟩ := h
  have h' := h
  obtain ⟨_, ⟨h0, h1⟩ | ⟨g, cap, cur, hv, hg, hh, hc, hm, _⟩⟩ := h'
  · exact ⟨none, 0, by rw [h0, h1], by omega, by omega, Or.inl h1⟩
  · refine ⟨some ⟨g, 0, none⟩, cap, hv, hc, by unfold maxLen at hm; exact hm, Or.inr ⟨g, 0, rfl, ?_, ?_⟩⟩
    · rw [hv] at h; rw [fresh, only_size]; exact (World.ownsRow.lt h g rfl).2
    · have hP : ∀ x ∈ l, x.lies (fresh B w) := fun x hx => OIn.sub (only_sub (Nat.le_refl _) fun k hk _ => ⟨hk.1, rfl⟩) (hl x hx)
      rw [hv] at h
      refine rows_cells (fun j hj => ?_) hP
      have he := World.ownsRow.cellAt h j hj
      rw [Nat.zero_add]
      have hj' : j < (ecells l).length := by rw [ecells_len]; exact hj
      rw [List.getElem?_eq_getElem hj'] at he ⊢
      exact sub_only (S := fun k => B ≤ k) hg he
theorem ORow.kept {w w' : World} {B : Nat} {v : Value} {l : List Ent} (h : ORow w B v l) (hs : w.heap.size ≤ w'.heap.size) (hk : ∀ k, B ≤ k → k < w.heap.size → w'.heap[k]? = w.heap[k]?) : ORow w' B v l := by
  refine ⟨?_, fun x hx => OIn.sub (only_sub hs fun k h1 h2 => ⟨h1, hk k h1.1 h2⟩) (h.2 x hx)⟩
  obtain ⟨h1, h2 | ⟨g, cap, cur, hv, hg, hh, hr⟩⟩ := h.1
  · exact ⟨h1, Or.inl h2⟩
  · have hlt : g < w.heap.size := by
      rcases Nat.lt_or_ge g w.heap.size with h | h
      · exact h
      · rw [Array.getElem?_eq_none h] at hh; simp at hh
    exact ⟨h1, Or.inr ⟨g, cap, cur, hv, hg, by rw [hk g hg hlt]; exact hh, hr⟩⟩
/- one more at the end: the new one's parts are new since w, the row was appended to in w1 -/
theorem ORow.appended {w w1 w2 : World} {B g cap : Nat} {v : Value} {l : List Ent} {x : Ent} (h : ORow w B v l) (hs : w.heap.size ≤ w1.heap.size) (hB : B ≤ w.heap.size) (hk : ∀ k, B ≤ k → k < w.heap.size → w1.heap[k]? = w.heap[k]?)
    (hx : x.lies (fresh w.heap.size w1)) (hown : w2.ownsRow B 25 6 (.slice (some ⟨g, 0, none⟩) (l.length + 1) cap) (l.length + 1) (ecells l ++ x.cells)) (hg : w1.grownBy w2 v.ownBlock) (hat : v.ownBlock = some g ∨ w1.heap.size ≤ g) :
    ORow w2 B (.slice (some ⟨g, 0, none⟩) (l.length + 1) cap) (l ++ [x]) := by
  have hv : ∀ k, v.ownBlock = some k → k < w.heap.size := fun k hk => (World.ownsRow.lt h.1 k hk).2
  have hb : ∀ k, k < w1.heap.size → v.ownBlock ≠ some k → w2.heap[k]? = w1.heap[k]? := fun k h1 h2 => hg.block k h1 (fun h => h2 h.symm)
  refine ⟨by rw [ecells_append]; simpa using hown, fun y hy => ?_⟩
  rcases List.mem_append.1 hy with hy | hy
  · refine OIn.sub (only_sub (Nat.le_trans hs hg.size) fun k h1 h2 => ⟨⟨h1.1, ?_⟩, ?_⟩) (h.2 y hy)
    · rw [hb k (by omega) h1.2, hk k h1.1 h2]
    · intro e
      have e : g = k := by simpa [Value.ownBlock] using e
      rcases hat with ha | ha
      · exact h1.2 (by rw [ha, e])
      · omega
  · obtain rfl : y = x := by simpa using hy
    refine OIn.sub (only_sub hg.size fun k h1 h2 => ⟨⟨by omega, ?_⟩, ?_⟩) hx
    · exact hb k h2 (fun e => by have := hv _ e; omega)
    · intro e
      have e : g = k := by simpa [Value.ownBlock] using e
      rcases hat with ha | ha
      · have := hv _ ha; omega
      · omega
/- strings in a row that a call owns -/
def SRow (w : World) (B : Nat) (v : Value) (ss : List ByteArray) : Prop := w.ownsRow B 9 1 v ss.length (ss.map Value.string)
theorem SRow.strs {w : World} {B : Nat} {v : Value} {ss : List ByteArray} (h : SRow w B v ss) :
    ∃ a cap, v = .slice a ss.length cap ∧ Strs (fresh B w) a ss ∧ ss.length ≤ cap ∧ cap ≤ 9223372036854775807 := by
  have h' := h
  obtain ⟨_, ⟨h0, h1⟩ | ⟨g, cap, cur, hv, hg, hh, hc, hm, _⟩⟩ := h'
  · exact ⟨none, 0, by rw [h0, h1], Or.inl (List.eq_nil_of_length_eq_zero h1), by omega, by omega⟩
  · refine ⟨some ⟨g, 0, none⟩, cap, hv, ?_, hc, by unfold maxLen at hm; exact hm⟩
    unfold SRow at h
    rw [hv] at h
    refine Or.inr ⟨g, 0, rfl, by rw [fresh, only_size]; exact (World.ownsRow.lt h g rfl).2, fun i hi => ?_⟩
    refine sub_only (S := fun k => B ≤ k) hg ?_
    rw [Nat.zero_add, World.ownsRow.cellAt h i (by omega), List.getElem?_map, List.getElem?_eq_getElem hi, List.getD_eq_getElem?_getD, List.getElem?_eq_getElem hi]
    rfl
theorem info_obj : (Tryz.prog.info? 25).map (fun i => (i.zero, i.size, i.bytes)) = some (some (.agg #[.int .i64 0, .bool false, .int .i64 0, .string ByteArray.empty, .slice none 0 0, .slice none 0 0]), 6, 88) := by kernel_rfl
theorem info_str : (Tryz.prog.info? 9).map (fun i => (i.zero, i.size, i.bytes)) = some (some (.string ByteArray.empty), 1, 16) := by kernel_rfl
end Go.Proofs.YtcgoklacjniemaaGreatDoor
