/-
  Objects in memory: a forest (the library's BT: first child, next sibling) whose payload is what an object holds beside its items.
-/
import Derived.Test.YtcgoklacjniemaaGreatDoorO5Wd
import Derived.Test.YtcgoklacjniemaaGreatDoorLst
import Derived.Deep.Trees
namespace Go.Proofs.YtcgoklacjniemaaGreatDoor
open Go.RowKit Go.Deep

structure Pay where
  kind : Int
  flag : Bool
  num : Int
  text : ByteArray
  keys : List ByteArray

/- how many stand beside one another; how many there are in all -/
def flen : BT Pay → Nat
  | .nil => 0
  | .node _ _ _ _ r => flen r + 1
def fsize : BT Pay → Nat
  | .nil => 0
  | .node _ _ _ l r => fsize l + fsize r + 1

def big : Nat := 9223372036854775807
def Pay.ok (p : Pay) : Prop := (-9223372036854775808 ≤ p.kind ∧ p.kind ≤ 9223372036854775807) ∧ (-9223372036854775808 ≤ p.num ∧ p.num ≤ 9223372036854775807) ∧ p.text.size ≤ 9223372036854775807 ∧ ∀ s ∈ p.keys, s.size ≤ 9223372036854775807

/- the strings ss lie at the address a -/
def Strs (w : World) (a : Option Addr) (ss : List ByteArray) : Prop :=
  ss = [] ∨ ∃ b off, a = some ⟨b, off, none⟩ ∧ b < w.heap.size ∧ ∀ i, i < ss.length → w.cell? ⟨b, off + i, none⟩ = some (.string (ss.getD i ByteArray.empty))
theorem Strs.below {w w' : World} {a : Option Addr} {ss : List ByteArray} (h : Strs w a ss) (hb : Below w.heap.size w w') : Strs w' a ss := by
  rcases h with h | ⟨b, off, h1, h2, h3⟩
  · exact Or.inl h
  · exact Or.inr ⟨b, off, h1, Nat.lt_of_lt_of_le h2 hb.size, fun i hi => by rw [hb.cell (p := ⟨b, off + i, none⟩) h2]; exact h3 i hi⟩

/- the six cells of an object -/
def Six (w : World) (b off : Nat) (p : Pay) (ka : Option Addr) (kc : Nat) (ia : Option Addr) (n ic : Nat) : Prop :=
  w.cell? ⟨b, off, none⟩ = some (.int .i64 p.kind) ∧ w.cell? ⟨b, off + 1, none⟩ = some (.bool p.flag) ∧ w.cell? ⟨b, off + 2, none⟩ = some (.int .i64 p.num) ∧ w.cell? ⟨b, off + 3, none⟩ = some (.string p.text) ∧
    w.cell? ⟨b, off + 4, none⟩ = some (.slice ka p.keys.length kc) ∧ w.cell? ⟨b, off + 5, none⟩ = some (.slice ia n ic)
theorem Six.below {w w' : World} {b off : Nat} {p : Pay} {ka ia : Option Addr} {kc n ic : Nat} (h : Six w b off p ka kc ia n ic) (hlt : b < w.heap.size) (hb : Below w.heap.size w w') : Six w' b off p ka kc ia n ic := by
  obtain ⟨h0, h1, h2, h3, h4, h5⟩ := h
  exact ⟨by rw [hb.cell (p := ⟨b, off, none⟩) hlt]; exact h0, by rw [hb.cell (p := ⟨b, off + 1, none⟩) hlt]; exact h1, by rw [hb.cell (p := ⟨b, off + 2, none⟩) hlt]; exact h2,
    by rw [hb.cell (p := ⟨b, off + 3, none⟩) hlt]; exact h3, by rw [hb.cell (p := ⟨b, off + 4, none⟩) hlt]; exact h4, by rw [hb.cell (p := ⟨b, off + 5, none⟩) hlt]; exact h5⟩

/- the forest lies at ⟨b, off⟩, six cells an object -/
def Rows (w : World) : BT Pay → Nat → Nat → Prop
  | .nil, _, _ => True
  | .node _ _ p T N, b, off =>
    (∃ ka kc ia ic, Six w b off p ka kc ia (flen T) ic ∧ p.ok ∧ (Strs w ka p.keys ∧ (p.keys.length ≤ kc ∧ p.keys.length ≤ 8796093022208) ∧ kc ≤ 9223372036854775807) ∧ (flen T ≤ ic ∧ flen T ≤ 1599289640401) ∧ ic ≤ 9223372036854775807 ∧
      (flen T = 0 ∨ ∃ b' off', ia = some ⟨b', off', none⟩ ∧ b' < w.heap.size ∧ Rows w T b' off')) ∧ Rows w N b (off + 6)

/- an object lies: its payload p, its items T -/
def OIn (w : World) (p : Pay) (T : BT Pay) (ka : Option Addr) (kc : Nat) (ia : Option Addr) (ic : Nat) : Prop :=
  p.ok ∧ (Strs w ka p.keys ∧ (p.keys.length ≤ kc ∧ p.keys.length ≤ 8796093022208) ∧ kc ≤ 9223372036854775807) ∧ (flen T ≤ ic ∧ flen T ≤ 1599289640401) ∧ ic ≤ 9223372036854775807 ∧ (flen T = 0 ∨ ∃ b' off', ia = some ⟨b', off', none⟩ ∧ b' < w.heap.size ∧ Rows w T b' off')

abbrev ov (p : Pay) (ka : Option Addr) (kc : Nat) (ia : Option Addr) (n ic : Nat) : Value :=
  .agg #[.int .i64 p.kind, .bool p.flag, .int .i64 p.num, .string p.text, .slice ka p.keys.length kc, .slice ia n ic]

theorem flen_zero {T : BT Pay} (h : flen T = 0) : T = .nil := by cases T <;> simp_all [flen]
theorem rows_node {w : World} {b0 o0 : Nat} {p : Pay} {T N : BT Pay} {b off : Nat} : Rows w (.node b0 o0 p T N) b off ↔ (∃ ka kc ia ic, Six w b off p ka kc ia (flen T) ic ∧ OIn w p T ka kc ia ic) ∧ Rows w N b (off + 6) := by
  simp only [Rows, OIn]
theorem Rows.below {w w' : World} (hb : Below w.heap.size w w') : ∀ {T : BT Pay} {b off : Nat}, b < w.heap.size → Rows w T b off → Rows w' T b off
  | .nil, _, _, _, _ => trivial
  | .node _ _ p T N, b, off, hlt, h => by
    obtain ⟨⟨ka, kc, ia, ic, h6, hok, ⟨hs, hk⟩, h1, h2, h3⟩, hN⟩ := h
    refine ⟨⟨ka, kc, ia, ic, h6.below hlt hb, hok, ⟨hs.below hb, hk⟩, h1, h2, ?_⟩, Rows.below hb hlt hN⟩
    rcases h3 with h3 | ⟨b', off', e, hl, hT⟩
    · exact Or.inl h3
    · exact Or.inr ⟨b', off', e, Nat.lt_of_lt_of_le hl hb.size, Rows.below hb hl hT⟩
theorem OIn.below {w w' : World} (hb : Below w.heap.size w w') {p : Pay} {T : BT Pay} {ka ia : Option Addr} {kc ic : Nat} (h : OIn w p T ka kc ia ic) : OIn w' p T ka kc ia ic := by
  obtain ⟨hok, ⟨hs, hk⟩, h1, h2, h3⟩ := h
  refine ⟨hok, ⟨hs.below hb, hk⟩, h1, h2, ?_⟩
  rcases h3 with h3 | ⟨b', off', e, hl, hT⟩
  · exact Or.inl h3
  · exact Or.inr ⟨b', off', e, Nat.lt_of_lt_of_le hl hb.size, Rows.below hb hl hT⟩

/- good objects: how many there are, with those ahead; -1: not good -/
def keysB : List (List UInt8) → List ByteArray → Bool
  | _, [] => true
  | seen, s :: ss => nameB s.data.toList && decide (s.data.toList ∉ seen) && keysB (seen ++ [s.data.toList]) ss
def flatV (p : Pay) (n : Nat) : Bool :=
  !((p.flag && p.kind != 1) || (p.num != 0 && p.kind != 2 && p.kind != 3 && p.kind != 8) || (p.text.size != 0 && p.kind != 4 && p.kind != 5) || (p.keys.length != 0 && p.kind != 7) || (n != 0 && p.kind != 6 && p.kind != 7)) &&
  (if p.kind = 2 then decide (-1099511627776 ≤ p.num ∧ p.num ≤ 1099511627776)
   else if p.kind = 3 then decide (-1099511627776 ≤ p.num ∧ p.num ≤ 1099511627776) && decide (p.num % 65536 ≠ 0)
   else if p.kind = 4 then nameB p.text.data.toList
   else if p.kind = 5 then decide (p.text.size ≤ 65536)
   else if p.kind = 7 then decide (p.keys.length = n) && keysB [] p.keys
   else if p.kind = 8 then decide (1 ≤ p.num ∧ p.num ≤ 4096)
   else p.kind == 0 || p.kind == 1 || p.kind == 6)
def cont (p : Pay) : Bool := p.kind == 6 || p.kind == 7
def gV (p : Pay) (len : Nat) (k : Int → Int → Int) (nest n : Int) : Int :=
  if 65536 < n + 1 ∨ flatV p len = false then -1 else if cont p = true then (if 32 < nest + 1 then -1 else k (nest + 1) (n + 1)) else k nest (n + 1)
def goodF : BT Pay → Int → Int → Int
  | .nil, _, n => n
  | .node _ _ p T N, nest, n => if gV p (flen T) (fun a b => goodF T a b) nest n < 0 then -1 else goodF N nest (gV p (flen T) (fun a b => goodF T a b) nest n)
def goodV (p : Pay) (T : BT Pay) (nest n : Int) : Int := gV p (flen T) (goodF T) nest n
theorem goodF_node {b o : Nat} {p : Pay} {T N : BT Pay} {nest n : Int} : goodF (.node b o p T N) nest n = if goodV p T nest n < 0 then -1 else goodF N nest (goodV p T nest n) := rfl
theorem goodF_le : ∀ (T : BT Pay) (nest n : Int), 0 ≤ n → n ≤ 65536 → -1 ≤ goodF T nest n ∧ goodF T nest n ≤ 65536
  | .nil, _, n, h0, h1 => ⟨by simp only [goodF]; omega, h1⟩
  | .node _ _ p T N, nest, n, h0, h1 => by
    have hg : -1 ≤ goodV p T nest n ∧ goodV p T nest n ≤ 65536 := by
      unfold goodV gV
      split
      · omega
      · rename_i hn
        split
        · split
          · omega
          · exact goodF_le T (nest + 1) (n + 1) (by omega) (by omega)
        · exact goodF_le T nest (n + 1) (by omega) (by omega)
    rw [goodF_node]
    split
    · omega
    · exact goodF_le N nest _ (by omega) hg.2
theorem goodV_le (p : Pay) (T : BT Pay) (nest n : Int) (h0 : 0 ≤ n) (h1 : n ≤ 65536) : -1 ≤ goodV p T nest n ∧ goodV p T nest n ≤ 65536 := by
  unfold goodV gV
  split
  · omega
  · rename_i hn
    split
    · split
      · omega
      · exact goodF_le T (nest + 1) (n + 1) (by omega) (by omega)
    · exact goodF_le T nest (n + 1) (by omega) (by omega)
theorem below_t5 {V a x : World} (h : Below V.heap.size V a) (hx : Below a.heap.size a x) : Below V.heap.size V x :=
  h.trans ⟨hx.os, hx.tape, hx.output, hx.size, fun k hk => hx.block k (Nat.lt_of_lt_of_le hk h.size)⟩
theorem six_box (w : World) (p : Pay) (ka : Option Addr) (kc : Nat) (ia : Option Addr) (n ic : Nat) (t : TypeId) :
    Six (w.alloc (.cells #[.int .i64 p.kind, .bool p.flag, .int .i64 p.num, .string p.text, .slice ka p.keys.length kc, .slice ia n ic] t)) w.heap.size 0 p ka kc ia n ic := by
  refine ⟨?_, ?_, ?_, ?_, ?_, ?_⟩ <;> simp
end Go.Proofs.YtcgoklacjniemaaGreatDoor
