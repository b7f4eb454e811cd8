/-
  The law's own spoil: it writes only where what it is handed lies.
-/
import Derived.Test.YtalmcdbdibpgkaaGreatDoorBA
import Derived.Laws.IdiomCopy
namespace Go.Proofs.YtalmcdbdibpgkaaGreatDoor
open Go.RowKit Go.Deep
set_option linter.unusedVariables false

/- cells that hold strings, in blocks that are S -/
def SC (w : World) (S : Nat → Prop) (a : Option Addr) (n : Nat) : Prop := n = 0 ∨ ∃ b o, a = some ⟨b, o, none⟩ ∧ S b ∧ ∀ i, i < n → ∃ s, w.cell? ⟨b, o + i, none⟩ = some (.string s)
structure X6 (w : World) (b off : Nat) (kd : Int) (fl : Bool) (nm : Int) (tx : ByteArray) (ka : Option Addr) (kl kc : Nat) (ia : Option Addr) (n ic : Nat) : Prop where
  c0 : w.cell? ⟨b, off, none⟩ = some (.int .i64 kd)
  c1 : w.cell? ⟨b, off + 1, none⟩ = some (.bool fl)
  c2 : w.cell? ⟨b, off + 2, none⟩ = some (.int .i64 nm)
  c3 : w.cell? ⟨b, off + 3, none⟩ = some (.string tx)
  c4 : w.cell? ⟨b, off + 4, none⟩ = some (.slice ka kl kc)
  c5 : w.cell? ⟨b, off + 5, none⟩ = some (.slice ia n ic)
/- objects of which the parts lie in S; one that is written over has none -/
def WR (w : World) (S : Nat → Prop) : BT Pay → Nat → Nat → Prop
  | .nil, _, _ => True
  | .node _ _ _ T N, b, off => (S b ∧ ∃ kd fl nm tx ka kl kc ia n ic, X6 w b off kd fl nm tx ka kl kc ia n ic ∧ (kl ≤ kc ∧ kc ≤ 9223372036854775807) ∧ SC w S ka kl ∧ (n ≤ ic ∧ ic ≤ 9223372036854775807) ∧
      (n = 0 ∨ (n = flen T ∧ ∃ b' off', ia = some ⟨b', off', none⟩ ∧ WR w S T b' off'))) ∧ WR w S N b (off + 6)
def WOb (w : World) (S : Nat → Prop) (T : BT Pay) (ka : Option Addr) (kl kc : Nat) (ia : Option Addr) (n ic : Nat) : Prop :=
  (kl ≤ kc ∧ kc ≤ 9223372036854775807) ∧ SC w S ka kl ∧ (n ≤ ic ∧ ic ≤ 9223372036854775807) ∧ (n = 0 ∨ (n = flen T ∧ ∃ b' off', ia = some ⟨b', off', none⟩ ∧ WR w S T b' off'))
theorem SC.sub {w w' : World} {S : Nat → Prop} (h : Sub w w') {a : Option Addr} {n : Nat} (k : SC w S a n) : SC w' S a n := by
  rcases k with k | ⟨b, o, e, hs, k⟩
  · exact Or.inl k
  · exact Or.inr ⟨b, o, e, hs, fun i hi => by obtain ⟨s, hk⟩ := k i hi; exact ⟨s, h.cell _ _ hk⟩⟩
theorem WR.sub {w w' : World} {S : Nat → Prop} (h : Sub w w') : ∀ {T : BT Pay} {b off : Nat}, WR w S T b off → WR w' S T b off
  | .nil, _, _, _ => trivial
  | .node _ _ p T N, b, off, k => by
    obtain ⟨⟨hs, kd, fl, nm, tx, ka, kl, kc, ia, n, ic, h6, h1, h2, h3, h4⟩, hN⟩ := k
    refine ⟨⟨hs, kd, fl, nm, tx, ka, kl, kc, ia, n, ic, ⟨h.cell _ _ h6.c0, h.cell _ _ h6.c1, h.cell _ _ h6.c2, h.cell _ _ h6.c3, h.cell _ _ h6.c4, h.cell _ _ h6.c5⟩, h1, h2.sub h, h3, ?_⟩, WR.sub h hN⟩
    rcases h4 with h4 | ⟨e, b', off', e', h4⟩
    · exact Or.inl h4
    · exact Or.inr ⟨e, b', off', e', WR.sub h h4⟩
/- what spoil leaves -/
structure Sp (S : Nat → Prop) (w w' : World) : Prop where
  os : w'.os = w.os
  tape : w'.tape = w.tape
  output : w'.output = w.output
  size : w.heap.size ≤ w'.heap.size
  block : ∀ k, k < w.heap.size → ¬ S k → w'.heap[k]? = w.heap[k]?
  rows : ∀ T b off, WR w S T b off → WR w' S T b off
  strs : ∀ a n, SC w S a n → SC w' S a n
  frz : ∀ k j, S k → w.frozen? ⟨k, j, none⟩ = false → w'.frozen? ⟨k, j, none⟩ = false
theorem Sp.refl (S : Nat → Prop) (w : World) : Sp S w w := ⟨rfl, rfl, rfl, Nat.le_refl _, fun _ _ _ => rfl, fun _ _ _ h => h, fun _ _ h => h, fun _ _ _ h => h⟩
theorem Sp.trans {S : Nat → Prop} {u v w : World} (h : Sp S u v) (k : Sp S v w) : Sp S u w :=
  ⟨k.os.trans h.os, k.tape.trans h.tape, k.output.trans h.output, Nat.le_trans h.size k.size, fun i hi hs => (k.block i (Nat.lt_of_lt_of_le hi h.size) hs).trans (h.block i hi hs), fun T b o x => k.rows T b o (h.rows T b o x), fun a n x => k.strs a n (h.strs a n x), fun i j hs x => k.frz i j hs (h.frz i j hs x)⟩
theorem Sp.of_below {S : Nat → Prop} {w w' : World} (hS : ∀ k, S k → k < w.heap.size) (h : Below w.heap.size w w') : Sp S w w' :=
  ⟨h.os, h.tape, h.output, h.size, fun k hk _ => h.block k hk, fun T b o x => x.sub (Sub.of_below h), fun a n x => x.sub (Sub.of_below h), fun k j hs x => by rw [h.frozen (p := ⟨k, j, none⟩) (hS k hs)]; exact x⟩
/- a string is written over -/
theorem Sp.str {S : Nat → Prop} {w : World} {b o : Nat} {s0 : ByteArray} (hb : S b) (h : w.cell? ⟨b, o, none⟩ = some (.string s0)) (s : ByteArray) : Sp S w (w.setCell ⟨b, o, none⟩ (.string s)) := by
  have hcell : ∀ (q : Addr) (v : Value), w.cell? q = some v → (∀ t, v ≠ .string t) → (w.setCell ⟨b, o, none⟩ (.string s)).cell? q = some v := fun q v hv hn => by
    rw [World.cell?_setCell_other w ⟨b, o, none⟩ q (.string s)]
    · exact hv
    · rintro rfl; rw [h] at hv; exact hn s0 (Option.some.inj hv).symm
  have hstr : ∀ (q : Addr) (t : ByteArray), w.cell? q = some (.string t) → ∃ t', (w.setCell ⟨b, o, none⟩ (.string s)).cell? q = some (.string t') := fun q t hv => by
    by_cases e : (⟨b, o, none⟩ : Addr) = q
    · subst e; exact ⟨s, World.cell?_setCell_same _ _ _ h⟩
    · exact ⟨t, by rw [World.cell?_setCell_other _ _ _ _ e]; exact hv⟩
  have hSC : ∀ a n, SC w S a n → SC (w.setCell ⟨b, o, none⟩ (.string s)) S a n := fun a n k => by
    rcases k with k | ⟨b', o', e, hs, k⟩
    · exact Or.inl k
    · exact Or.inr ⟨b', o', e, hs, fun i hi => by obtain ⟨t, hk⟩ := k i hi; exact hstr _ t hk⟩
  have hWR : ∀ T b' off, WR w S T b' off → WR (w.setCell ⟨b, o, none⟩ (.string s)) S T b' off := by
    intro T
    induction T with
    | nil => exact fun _ _ _ => trivial
    | node b0 o0 p T N ihT ihN =>
      intro b' off k
      obtain ⟨⟨hs, kd, fl, nm, tx, ka, kl, kc, ia, n, ic, h6, h1, h2, h3, h4⟩, hN⟩ := k
      obtain ⟨t', ht'⟩ := hstr _ _ h6.c3
      refine ⟨⟨hs, kd, fl, nm, t', ka, kl, kc, ia, n, ic, ⟨hcell _ _ h6.c0 (by simp), hcell _ _ h6.c1 (by simp), hcell _ _ h6.c2 (by simp), ht', hcell _ _ h6.c4 (by simp), hcell _ _ h6.c5 (by simp)⟩, h1, hSC _ _ h2, h3, ?_⟩, ihN _ _ hN⟩
      rcases h4 with h4 | ⟨e, b2, off2, e', h4⟩
      · exact Or.inl h4
      · exact Or.inr ⟨e, b2, off2, e', ihT _ _ h4⟩
  exact ⟨rfl, rfl, rfl, by simp [World.setCell], fun k hk hs => Below.heap_setCell _ _ _ _ (by rintro rfl; exact hs hb), hWR, hSC, fun k j hs x => by rw [World.frozen?_setCell]; exact x⟩
/- an object is written over: it has no parts any more -/
def sp6 (w : World) (b o : Nat) : World := w.setCells b o [.int .i64 99, .bool false, .int .i64 0, .string ⟨#[]⟩, .slice none 0 0, .slice none 0 0]
theorem sp6_eq (w : World) (b o : Nat) : (((((w.setCell ⟨b, o, none⟩ (.int .i64 99)).setCell ⟨b, o + 1, none⟩ (.bool false)).setCell ⟨b, o + 2, none⟩ (.int .i64 0)).setCell ⟨b, o + 3, none⟩ (.string ⟨#[]⟩)).setCell ⟨b, o + 4, none⟩ (.slice none 0 0)).setCell ⟨b, o + 5, none⟩ (.slice none 0 0) = sp6 w b o := rfl
theorem sp6_out (w : World) (b o : Nat) (q : Addr) (h : q.block ≠ b ∨ q.off < o ∨ o + 6 ≤ q.off) : (sp6 w b o).cell? q = w.cell? q := by
  refine World.cell?_setCells_out b _ o w q fun h1 h2 => ?_
  rcases h with h | h | h
  · exact absurd h1 h
  · exact Or.inl h
  · exact Or.inr h
theorem sp6_in {w : World} {b o : Nat} {kd : Int} {fl : Bool} {nm : Int} {tx : ByteArray} {ka ia : Option Addr} {kl kc n ic : Nat} (h : X6 w b o kd fl nm tx ka kl kc ia n ic) : X6 (sp6 w b o) b o 99 false 0 ⟨#[]⟩ none 0 0 none 0 0 := by
  have hs : ∀ j, j < 6 → (w.cell? ⟨b, o + j, none⟩).isSome = true := fun j hj => by
    rcases (show j = 0 ∨ j = 1 ∨ j = 2 ∨ j = 3 ∨ j = 4 ∨ j = 5 by omega) with rfl | rfl | rfl | rfl | rfl | rfl
    · rw [Nat.add_zero, h.c0]; rfl
    · rw [h.c1]; rfl
    · rw [h.c2]; rfl
    · rw [h.c3]; rfl
    · rw [h.c4]; rfl
    · rw [h.c5]; rfl
  have k := World.cell?_setCells_in b [.int .i64 99, .bool false, .int .i64 0, .string ⟨#[]⟩, .slice none 0 0, .slice none 0 0] o w hs
  exact ⟨k 0 (by decide), k 1 (by decide), k 2 (by decide), k 3 (by decide), k 4 (by decide), k 5 (by decide)⟩
theorem sp6_block (w : World) (b o k : Nat) (hne : k ≠ b) : (sp6 w b o).heap[k]? = w.heap[k]? := by
  rw [← sp6_eq, Below.heap_setCell _ _ _ _ hne, Below.heap_setCell _ _ _ _ hne, Below.heap_setCell _ _ _ _ hne, Below.heap_setCell _ _ _ _ hne, Below.heap_setCell _ _ _ _ hne, Below.heap_setCell _ _ _ _ hne]
theorem sp6_size (w : World) (b o : Nat) : (sp6 w b o).heap.size = w.heap.size := by rw [← sp6_eq]; simp [World.setCell]
/- two objects in one block are one, or lie apart -/
set_option maxHeartbeats 1000000 in
theorem X6.apart {w : World} {b o o' : Nat} {kd : Int} {fl : Bool} {nm : Int} {tx : ByteArray} {ka ia : Option Addr} {kl kc n ic : Nat} {kd' : Int} {fl' : Bool} {nm' : Int} {tx' : ByteArray} {ka' ia' : Option Addr} {kl' kc' n' ic' : Nat}
    (h : X6 w b o kd fl nm tx ka kl kc ia n ic) (k : X6 w b o' kd' fl' nm' tx' ka' kl' kc' ia' n' ic') : o = o' ∨ o + 6 ≤ o' ∨ o' + 6 ≤ o := by
  have key : ∀ {o o' : Nat} {kd : Int} {fl : Bool} {nm : Int} {tx : ByteArray} {ka ia : Option Addr} {kl kc n ic : Nat} {kd' : Int} {fl' : Bool} {nm' : Int} {tx' : ByteArray} {ka' ia' : Option Addr} {kl' kc' n' ic' : Nat},
      X6 w b o kd fl nm tx ka kl kc ia n ic → X6 w b o' kd' fl' nm' tx' ka' kl' kc' ia' n' ic' → o < o' → o + 6 ≤ o' := by
    intro o o' kd fl nm tx ka ia kl kc n ic kd' fl' nm' tx' ka' ia' kl' kc' n' ic' h k hlt
    rcases (show o' = o + 1 ∨ o' = o + 2 ∨ o' = o + 3 ∨ o' = o + 4 ∨ o' = o + 5 ∨ o + 6 ≤ o' by omega) with e | e | e | e | e | e
    · subst e; have := h.c1.symm.trans k.c0; simp at this
    · subst e; have := h.c3.symm.trans k.c1; simp at this
    · subst e; have := h.c3.symm.trans k.c0; simp at this
    · subst e; have := h.c4.symm.trans k.c0; simp at this
    · subst e; have := h.c5.symm.trans k.c0; simp at this
    · exact e
  rcases Nat.lt_trichotomy o o' with e | e | e
  · exact Or.inr (Or.inl (key h k e))
  · exact Or.inl e
  · exact Or.inr (Or.inr (key k h e))
theorem scs_rest (b : Nat) : ∀ (vs : List Value) (o : Nat) (w : World), (w.setCells b o vs).os = w.os ∧ (w.setCells b o vs).tape = w.tape ∧ (w.setCells b o vs).output = w.output
  | [], _, _ => ⟨rfl, rfl, rfl⟩
  | v :: r, o, w => by
    rw [World.setCells]
    obtain ⟨h1, h2, h3⟩ := scs_rest b r (o + 1) (w.setCell ⟨b, o, none⟩ v)
    exact ⟨h1, h2, h3⟩
theorem sp6_rest (w : World) (b o : Nat) : (sp6 w b o).os = w.os ∧ (sp6 w b o).tape = w.tape ∧ (sp6 w b o).output = w.output := scs_rest b _ o w
set_option maxHeartbeats 1000000 in
theorem Sp.six {S : Nat → Prop} {w : World} {b o : Nat} (hb : S b) {kd : Int} {fl : Bool} {nm : Int} {tx : ByteArray} {ka ia : Option Addr} {kl kc n ic : Nat} (h : X6 w b o kd fl nm tx ka kl kc ia n ic) : Sp S w (sp6 w b o) := by
  have h9 := sp6_in h
  have hstr : ∀ (b' o' : Nat) (t : ByteArray), w.cell? ⟨b', o', none⟩ = some (.string t) → ∃ t', (sp6 w b o).cell? ⟨b', o', none⟩ = some (.string t') := fun b' o' t hv => by
    by_cases e : b' = b ∧ o ≤ o' ∧ o' < o + 6
    · obtain ⟨rfl, e1, e2⟩ := e
      rcases (show o' = o ∨ o' = o + 1 ∨ o' = o + 2 ∨ o' = o + 3 ∨ o' = o + 4 ∨ o' = o + 5 by omega) with e | e | e | e | e | e
      · subst e; have := h.c0.symm.trans hv; simp at this
      · subst e; have := h.c1.symm.trans hv; simp at this
      · subst e; have := h.c2.symm.trans hv; simp at this
      · subst e; exact ⟨_, h9.c3⟩
      · subst e; have := h.c4.symm.trans hv; simp at this
      · subst e; have := h.c5.symm.trans hv; simp at this
    · refine ⟨t, ?_⟩
      rw [sp6_out w b o]
      · exact hv
      · by_cases hbb : b' = b
        · have : ¬ (o ≤ o' ∧ o' < o + 6) := fun x => e ⟨hbb, x⟩
          exact Or.inr (by simp only; omega)
        · exact Or.inl hbb
  have hSC : ∀ a n, SC w S a n → SC (sp6 w b o) S a n := fun a n k => by
    rcases k with k | ⟨b', o', e, hs, k⟩
    · exact Or.inl k
    · exact Or.inr ⟨b', o', e, hs, fun i hi => by obtain ⟨t, hk⟩ := k i hi; exact hstr _ _ t hk⟩
  have hWR : ∀ T b' off, WR w S T b' off → WR (sp6 w b o) S T b' off := by
    intro T
    induction T with
    | nil => exact fun _ _ _ => trivial
    | node b0 o0 p T N ihT ihN =>
      intro b' off k
      obtain ⟨⟨hs, kd', fl', nm', tx', ka', kl', kc', ia', n', ic', h6, h1, h2, h3, h4⟩, hN⟩ := k
      refine ⟨⟨hs, ?_⟩, ihN _ _ hN⟩
      by_cases hbb : b' = b
      · subst hbb
        rcases h.apart h6 with e | e
        · subst e
          exact ⟨_, _, _, _, _, _, _, _, _, _, h9, ⟨by omega, by omega⟩, Or.inl rfl, ⟨by omega, by omega⟩, Or.inl rfl⟩
        · have out : ∀ j, j < 6 → (sp6 w b' o).cell? ⟨b', off + j, none⟩ = w.cell? ⟨b', off + j, none⟩ := fun j hj => sp6_out w b' o _ (Or.inr (by simp only; omega))
          refine ⟨kd', fl', nm', tx', ka', kl', kc', ia', n', ic', ⟨(out 0 (by omega)).trans h6.c0, (out 1 (by omega)).trans h6.c1, (out 2 (by omega)).trans h6.c2, (out 3 (by omega)).trans h6.c3, (out 4 (by omega)).trans h6.c4, (out 5 (by omega)).trans h6.c5⟩, h1, hSC _ _ h2, h3, ?_⟩
          rcases h4 with h4 | ⟨e, b2, off2, e', h4⟩
          · exact Or.inl h4
          · exact Or.inr ⟨e, b2, off2, e', ihT _ _ h4⟩
      · have out : ∀ j, (sp6 w b o).cell? ⟨b', off + j, none⟩ = w.cell? ⟨b', off + j, none⟩ := fun j => sp6_out w b o _ (Or.inl hbb)
        refine ⟨kd', fl', nm', tx', ka', kl', kc', ia', n', ic', ⟨(out 0).trans h6.c0, (out 1).trans h6.c1, (out 2).trans h6.c2, (out 3).trans h6.c3, (out 4).trans h6.c4, (out 5).trans h6.c5⟩, h1, hSC _ _ h2, h3, ?_⟩
        rcases h4 with h4 | ⟨e, b2, off2, e', h4⟩
        · exact Or.inl h4
        · exact Or.inr ⟨e, b2, off2, e', ihT _ _ h4⟩
  exact ⟨(sp6_rest w b o).1, (sp6_rest w b o).2.1, (sp6_rest w b o).2.2, by rw [sp6_size]; exact Nat.le_refl _, fun k hk hs => sp6_block w b o k (by rintro rfl; exact hs hb), hWR, hSC, fun k j hs x => (World.frozen?_setCells b _ o w _).trans x⟩
end Go.Proofs.YtalmcdbdibpgkaaGreatDoor
