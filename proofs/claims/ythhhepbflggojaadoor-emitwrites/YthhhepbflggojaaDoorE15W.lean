/-
  The writer's state; what number, line, glyphs answer.
-/
import Derived.Test.YthhhepbflggojaaDoorE15Y
import Derived.Test.YthhhepbflggojaaDoorE2Text
import Derived.Test.YthhhepbflggojaaDoorE2RText
import Derived.Test.YthhhepbflggojaaDoorShelfJ
import Derived.Lib.AppendStr
namespace Go.Proofs.YthhhepbflggojaaDoor.E15
open Go.RowKit Go.Deep
set_option linter.unusedVariables false
set_option linter.unusedSimpArgs false
set_option maxRecDepth 8000

def numT (x : Int) : List UInt8 := if inB x then D2.textL x else []
theorem number_any (x : Int) (w : World) (hg : D2.Glo w) : Calls Tryd.prog 48 #[.int .i64 x] w fun e w' => e = .returned (.string ⟨(numT x).toArray⟩) ∧ Below w.heap.size w w' := by
  have C := hide (D2.text_any x w hg)
  unfold D2.textV at C
  unfold numT
  generalize D2.textL x = L at *
  clear hg
  cases h : inB x
  all_goals (
    simp only [h, if_true, if_false, Bool.false_eq_true] at C ⊢
    go_enter Tryd.func48, Tryd.ntmps48
    go_wp2_with fail
    refine C.out.mono ?_
    rintro e w2 ⟨rfl, h2⟩
    have HB := hide h2
    clear h2
    go_wp2_with fail
    go_ret
    exact ⟨rfl, HB.out⟩)
theorem rnum_any (x : Int) (w : World) (hg : D2.Glo w) : Calls Tryd.prog 25 #[.int .i64 x] w fun e w' => e = .returned (.string ⟨(numT x).toArray⟩) ∧ Below w.heap.size w w' := by
  have C := hide (D2.rtext_any x w)
  unfold D2.textV at C
  unfold numT
  generalize D2.textL x = L at *
  clear hg
  cases h : inB x
  all_goals (
    simp only [h, if_true, if_false, Bool.false_eq_true] at C ⊢
    go_enter Tryd.func25, Tryd.ntmps25
    go_wp2_with fail
    refine C.out.mono ?_
    rintro e w2 ⟨rfl, h2⟩
    have HB := hide h2
    clear h2
    go_wp2_with fail
    go_ret
    exact ⟨rfl, HB.out⟩)
/- the writer: what has been written lies in a row of its own -/
structure WSt (w : World) (B b : Nat) (F : List UInt8) : Prop where
  at_ : ∃ v, Blk w b #[v] 45 ∧ BRow w B v F
  hb : B ≤ b
  hB : B ≤ w.heap.size
/- what writing leaves alone: all but the writer's own block and rows of bytes -/
structure PK (B b : Nat) (w w' : World) : Prop where
  below : Below B w w'
  block : ∀ k, k < w.heap.size → k ≠ b → (∀ c f, w.heap[k]? ≠ some (.cells c 5 f)) → w'.heap[k]? = w.heap[k]?
theorem PK.refl (B b : Nat) (w : World) : PK B b w w := ⟨Below.refl _ _, fun _ _ _ _ => rfl⟩
theorem PK.trans {B b : Nat} {u v w : World} (h : PK B b u v) (k : PK B b v w) : PK B b u w :=
  ⟨h.below.trans k.below, fun i hi hb hn => by
    have e := h.block i hi hb hn
    rw [k.block i (Nat.lt_of_lt_of_le hi h.below.size) hb (by rw [e]; exact hn), e]⟩
theorem PK.of_below {B b : Nat} {w w' : World} (h : Below w.heap.size w w') (hB : B ≤ w.heap.size) : PK B b w w' := ⟨⟨h.os, h.tape, h.output, h.size, fun k hk => h.block k (by omega)⟩, fun k hk _ _ => h.block k hk⟩
theorem PK.blk {B b : Nat} {w w' : World} (h : PK B b w w') {k : Nat} {cs : Array Value} {t : TypeId} (hk : Blk w k cs t) (hne : k ≠ b) (ht : t ≠ 5) : Blk w' k cs t := by
  have hl := hk.lt
  unfold Blk at *
  rw [h.block k hl hne (fun c f e => by rw [hk] at e; injection e with e; injection e with _ e _; exact ht e)]
  exact hk
theorem brow_ne {w : World} {B b : Nat} {v : Value} {ys : List UInt8} {cs : Array Value} {t : TypeId} (h : BRow w B v ys) (hb : Blk w b cs t) (ht : t ≠ 5) (o : Nat) (x : Value) : BRow (w.setCell ⟨b, o, none⟩ x) B v ys := by
  obtain ⟨h1, h2 | ⟨g, cap, cur, hv, hg, hh, hr⟩⟩ := h
  · exact ⟨h1, Or.inl h2⟩
  · refine ⟨h1, Or.inr ⟨g, cap, cur, hv, hg, ?_, hr⟩⟩
    rw [Below.heap_setCell]
    · exact hh
    · rintro rfl
      unfold Blk at hb
      rw [hb] at hh
      injection hh with hh
      injection hh with _ e _
      exact ht e
theorem tw_ne : (45 : TypeId) ≠ 5 := by decide
theorem tm_ne : (38 : TypeId) ≠ 5 := by decide
theorem ti_ne : (3 : TypeId) ≠ 5 := by decide
theorem PK.set {B b : Nat} {w : World} (hb : B ≤ b) (o : Nat) (x : Value) : PK B b w (w.setCell ⟨b, o, none⟩ x) :=
  ⟨(Below.refl B w).setCell (p := ⟨b, o, none⟩) hb x, fun k hk hne _ => Below.heap_setCell _ _ _ _ hne⟩
theorem PK.kb {B b : Nat} {w w' : World} (h : KB B w w') : PK B b w w' := ⟨h.below, fun k hk _ hn => h.nb.block k hk hn⟩
theorem WSt.below {w w' : World} {B b : Nat} {F : List UInt8} (h : WSt w B b F) (hb : Below w.heap.size w w') : WSt w' B b F := by
  obtain ⟨⟨v, h1, h2⟩, h5, h6⟩ := h
  exact ⟨⟨v, h1.below hb, ownsRow_kept h2 (fun k _ hk => hb.block k hk)⟩, h5, Nat.le_trans h6 hb.size⟩
theorem WSt.lt {w : World} {B b : Nat} {F : List UInt8} (h : WSt w B b F) : b < w.heap.size := by
  obtain ⟨⟨v, h1, _⟩, _, _⟩ := h
  exact h1.lt
/- texts lie at an address -/
def SL (w : World) (b o : Nat) (xs : List ByteArray) : Prop := b < w.heap.size ∧ ∀ (j : Nat) x, xs[j]? = some x → w.cell? ⟨b, o + j, none⟩ = some (.string x)
theorem SL.below {w w' : World} {b o : Nat} {xs : List ByteArray} (h : SL w b o xs) (hb : Below w.heap.size w w') : SL w' b o xs :=
  ⟨Nat.lt_of_lt_of_le h.1 hb.size, fun j x hx => by rw [hb.cell (p := ⟨b, o + j, none⟩) h.1]; exact h.2 j x hx⟩
def joinT (xs : List ByteArray) : List UInt8 := Lib.join (xs.map (·.data.toList)) [32]
theorem join_any (b o c : Nat) (xs : List ByteArray) (w : World) (h : SL w b o xs) (hN : xs.length ≤ 1000) (hcap : xs.length ≤ c) (hlen : (joinT xs).length ≤ 140737488355328) :
    Calls Tryd.prog 53 #[.slice (some ⟨b, o, none⟩) xs.length c, .string ⟨#[32]⟩] w fun e w' => e = .returned (.string ⟨(joinT xs).toArray⟩) ∧ Below w.heap.size w w' :=
  Any.strings_Join lays156 Builder_Extra_156 b o c xs ⟨#[32]⟩ w h.2 h.1 (by omega) hcap hlen
end Go.Proofs.YthhhepbflggojaaDoor.E15
