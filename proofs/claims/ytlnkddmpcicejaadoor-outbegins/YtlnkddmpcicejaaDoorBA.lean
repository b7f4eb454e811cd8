/-
  Joined: Hide, O5Ch, O5Wd, Lst, O5Row, O5Tree, O5Sub, O5App, O5Cpy, O5RGet, InB, InL, InR.
-/
import Derived.WalkKit
import Derived.Test.YtlnkddmpcicejaaDoorProg
import Derived.Lib.Strings
import Derived.Outline
import Derived.Deep.Draws
import Derived.WalkSmall
import Derived.OwnWalk
import Derived.Laws.OwnMore
import Derived.Laws.BytesArg
import Derived.Laws.IdiomStrings
import Derived.Deep.Trees
import Derived.Deep.AppendSrc
import Derived.Lib.AppendZeros
import Derived.Deep.AppendLies
/-
  A fact kept from the walk, and given back.
-/
namespace Go.Proofs.YtlnkddmpcicejaaDoor
open Go.RowKit
theorem hide {p : Prop} (h : p) : Hid p := h
theorem unhide {p : Prop} (h : Hid p) : p := h
end Go.Proofs.YtlnkddmpcicejaaDoor
/-
  What the reference's small functions of bytes (chapter 5) answer: Blank, delim, hex, name, Blanks, word.
-/
namespace Go.Proofs.YtlnkddmpcicejaaDoor
open Go.RowKit

def isBl (b : Nat) : Bool := decide (b = 9 ∨ b = 10 ∨ b = 12 ∨ b = 13 ∨ b = 32)
def isDl (b : Nat) : Bool := decide (b = 40 ∨ b = 41 ∨ b = 60 ∨ b = 62 ∨ b = 91 ∨ b = 93 ∨ b = 123 ∨ b = 125 ∨ b = 47 ∨ b = 37)
def isEnd (b : Nat) : Bool := isBl b || isDl b
def hexV (b : Nat) : Int := if 48 ≤ b ∧ b ≤ 57 then (b : Int) - 48 else if 65 ≤ b ∧ b ≤ 70 then (b : Int) - 55 else if 97 ≤ b ∧ b ≤ 102 then (b : Int) - 87 else -1
theorem hexV_bd (b : Nat) : -1 ≤ hexV b ∧ hexV b ≤ 15 := by
  unfold hexV
  repeat' split
  all_goals omega
/- how many bytes from the head on are such -/
def run (p : Nat → Bool) : List UInt8 → Nat
  | [] => 0
  | c :: l => if p c.toNat then 1 + run p l else 0
theorem run_le (p : Nat → Bool) (l : List UInt8) : run p l ≤ l.length := by
  induction l with
  | nil => simp [run]
  | cons c l ih => unfold run; split <;> simp <;> omega
theorem drop_at (s : ByteArray) (k : Nat) (h : k < s.size) : s.data.toList.drop k = s[k] :: s.data.toList.drop (k + 1) := by
  rw [List.drop_eq_getElem_cons (by simpa using h)]
  rfl
def blanksV (l : List UInt8) (k : Nat) : Nat := k + run isBl (l.drop k)
def wordV (l : List UInt8) (k : Nat) : Nat := k + run (fun b => !isEnd b) (l.drop k)
end Go.Proofs.YtlnkddmpcicejaaDoor
/-
  What the reference's word, name and Integer (chapter 5) answer.
-/
namespace Go.Proofs.YtlnkddmpcicejaaDoor
open Go.RowKit

/- may bytes be a name's? -/
def nameB (l : List UInt8) : Bool := decide (1 ≤ l.length ∧ l.length ≤ 127) && l.all fun c => c.toNat != 0
theorem get_at (s : ByteArray) (k : Nat) (h : k < s.size) : s.data.toList[k]? = some s[k] := by
  rw [List.getElem?_eq_getElem (by simpa using h)]
  rfl
theorem take_at (s : ByteArray) (k : Nat) (h : k < s.size) : s.data.toList.take (k + 1) = s.data.toList.take k ++ [s[k]] := by
  rw [List.take_add_one, get_at s k h]
  rfl
theorem rname_any (s : ByteArray) (w : World) (hs : s.size ≤ 9223372036854775807) :
    Calls Tryd.prog 36 #[.string s] w fun e w' => e = .returned (.bool (nameB s.data.toList)) ∧ w' = w := by
  obtain ⟨R, hR⟩ : ∃ R, nameB s.data.toList = R := ⟨_, rfl⟩
  rw [hR]
  have HR := hide hR
  have hs' : (s.size : Int) ≤ 9223372036854775807 := by omega
  clear hR hs
  by_cases h1 : s.size < 1
  · have h1' : (s.size : Int) < 1 := by omega
    obtain rfl : R = false := by rw [← HR.out]; unfold nameB; rw [decide_eq_false (by rw [← Lib.size_eq]; omega)]; rfl
    clear HR h1
    go_enter Tryd.func36, Tryd.ntmps36
    go_wp2
    go_ret
    exact ⟨rfl, rfl⟩
  have h1' : decide ((s.size : Int) < 1) = false := by simp; omega
  by_cases h2 : 127 < s.size
  · have h2' : (127 : Int) < (s.size : Int) := by omega
    obtain rfl : R = false := by rw [← HR.out]; unfold nameB; rw [decide_eq_false (by rw [← Lib.size_eq]; omega)]; rfl
    clear HR h1 h2
    go_enter Tryd.func36, Tryd.ntmps36
    go_wp2
    go_ret
    exact ⟨rfl, rfl⟩
  have h2' : decide ((127 : Int) < (s.size : Int)) = false := by simp; omega
  have HN := hide (show nameB s.data.toList = (s.data.toList.all fun c => c.toNat != 0) by unfold nameB; rw [decide_eq_true (by rw [← Lib.size_eq]; omega)]; rfl)
  clear h1 h2
  go_enter Tryd.func36, Tryd.ntmps36
  go_wp2_with fail
  go_loop [3] (fun vn => ∃ k : Nat, vn = .int .i64 k ∧ Hid (k ≤ s.size ∧ ((s.data.toList.take k).all fun c => c.toNat != 0) = true)) (fun vn => s.size - (intOf vn).toNat)
  case atStart => exact ⟨0, rfl, hide ⟨by omega, by simp⟩⟩
  case round =>
    obtain ⟨k, rfl, HK⟩ := hrel
    obtain ⟨k1, k2⟩ := HK.out
    clear HK
    by_cases hlt : k < s.size
    · have hlt' : (k : Int) < (s.size : Int) := by omega
      have K := hide k2
      by_cases hz : s[k].toNat = 0
      · have hz' : ((s[k].toNat : Int) == 0) = true := by rw [beq_iff_eq]; omega
        obtain rfl : R = false := by
          rw [← HR.out, HN.out, List.all_eq_false]
          exact ⟨s[k], List.mem_iff_getElem?.2 ⟨k, get_at s k hlt⟩, by simp [hz]⟩
        clear k2 hz HR
        go_wp2
        go_ret
        exact ⟨rfl, rfl⟩
      · have hz' : ((s[k].toNat : Int) == 0) = false := by rw [beq_eq_false_iff_ne]; omega
        have HZ := hide hz
        clear k2 hz
        go_wp2
        go_round
        case rel => exact ⟨k + 1, by go_num, hide ⟨by omega, by rw [take_at s k hlt, List.all_append, K.out]; simpa using HZ.out⟩⟩
        case measure => simp [intOf]; omega
    · have hlt' : ¬ (k : Int) < (s.size : Int) := by omega
      obtain rfl : R = true := by
        rw [← HR.out, HN.out]
        rwa [List.take_of_length_le (by rw [← Lib.size_eq]; omega)] at k2
      clear k2 HR
      go_wp2
      go_ret
      exact ⟨rfl, rfl⟩
end Go.Proofs.YtlnkddmpcicejaaDoor
/-
  Lists of ints in memory.
-/
namespace Go.Proofs.YtlnkddmpcicejaaDoor
open Go.RowKit

/- the list zs lies at the address a (whatever a is, where the list is empty) -/
def Lst (w : World) (a : Option Addr) (zs : List Int) : Prop :=
  zs = [] ∨ ∃ b off, a = some ⟨b, off, none⟩ ∧ b < w.heap.size ∧ ∀ i, i < zs.length → w.cell? ⟨b, off + i, none⟩ = some (.int .i64 (zs.getD i 0))

theorem Lst.below {w w' : World} {a : Option Addr} {zs : List Int} (h : Lst w a zs) (hb : Below w.heap.size w w') : Lst w' a zs := by
  rcases h with h | ⟨b, off, h1, h2, h3⟩
  · exact Or.inl h
  · exact Or.inr ⟨b, off, h1, Nat.lt_of_lt_of_le h2 hb.size, fun i hi => by rw [hb.cell (p := ⟨b, off + i, none⟩) h2]; exact h3 i hi⟩
theorem Lst.drewN {w : World} {a : Option Addr} {zs : List Int} (h : Lst w a zs) (n : Nat) : Lst (w.drewN n) a zs := h
theorem Lst.take {w : World} {a : Option Addr} {zs : List Int} (h : Lst w a zs) (n : Nat) : Lst w a (zs.take n) := by
  rcases h with h | ⟨b, off, h1, h2, h3⟩
  · exact Or.inl (by rw [h]; simp)
  · refine Or.inr ⟨b, off, h1, h2, fun i hi => ?_⟩
    rw [List.length_take] at hi
    rw [h3 i (by omega), List.getD_eq_getElem?_getD, List.getD_eq_getElem?_getD, List.getElem?_take, if_pos (by omega)]
theorem below_drewN' (w : World) (n : Nat) : Below w.heap.size w (w.drewN n) := below_drewN (Below.refl _ _) n
end Go.Proofs.YtlnkddmpcicejaaDoor
/-
  Rows of ints and of bytes that a call owns.
-/
namespace Go.Proofs.YtlnkddmpcicejaaDoor
open Go.RowKit

theorem info_int : (Tryd.prog.info? 3).map (fun i => (i.zero, i.size, i.bytes)) = some (some (.int .i64 0), 1, 8) := by kernel_rfl
theorem info_u8 : (Tryd.prog.info? 5).map (fun i => (i.zero, i.size, i.bytes)) = some (some (.int .u8 0), 1, 1) := by kernel_rfl
def bcell (b : UInt8) : Value := Value.int .u8 (b.toNat : Int)
def IRow (w : World) (B : Nat) (v : Value) (zs : List Int) : Prop := w.ownsRow B 3 1 v zs.length (zs.map (Value.int .i64))
def BRow (w : World) (B : Nat) (v : Value) (ys : List UInt8) : Prop := w.ownsRow B 5 1 v ys.length (ys.map bcell)
theorem IRow.nil (w : World) (B : Nat) : IRow w B (.slice none 0 0) [] := World.ownsRow_nil _ _ _ _
theorem BRow.nil (w : World) (B : Nat) : BRow w B (.slice none 0 0) [] := World.ownsRow_nil _ _ _ _
theorem IRow.lst {w : World} {B : Nat} {v : Value} {zs : List Int} (h : IRow w B v zs) :
    ∃ a cap, v = .slice a zs.length cap ∧ Lst w a zs ∧ zs.length ≤ cap ∧ cap ≤ 9223372036854775807 := by
  have h' := h
  obtain ⟨_, ⟨h0, h1⟩ | ⟨g, cap, cur, hv, hg, hh, hc, hm, _⟩⟩ := h'
  · exact ⟨none, 0, by rw [h0, h1], Or.inl (List.eq_nil_of_length_eq_zero h1), by omega, by omega⟩
  · refine ⟨some ⟨g, 0, none⟩, cap, hv, ?_, hc, by unfold maxLen at hm; exact hm⟩
    rw [hv] at h
    refine Or.inr ⟨g, 0, rfl, (World.ownsRow.lt h g rfl).2, fun i hi => ?_⟩
    rw [Nat.zero_add, World.ownsRow.cellAt h i (by omega), List.getElem?_map, List.getElem?_eq_getElem hi, List.getD_eq_getElem?_getD, List.getElem?_eq_getElem hi]
    rfl
theorem BRow.text {w : World} {B : Nat} {v : Value} {ys : List UInt8} (h : BRow w B v ys) :
    (convert 52 9 v).run Tryd.prog w = .ok (.string ⟨ys.toArray⟩) w := by
  have h' := h
  obtain ⟨_, ⟨h0, h1⟩ | ⟨g, cap, cur, hv, _⟩⟩ := h'
  · obtain rfl : ys = [] := List.eq_nil_of_length_eq_zero h1
    rw [h0]
    exact run_convert_bytes_nil w 52 5 Tryd.underlying52 Tryd.underlying5 0 0 9 Tryd.underlying9
  · rw [hv] at h ⊢
    refine run_convert_bytes_back (P := Tryd.prog) w 52 9 5 ⟨g, 0, none⟩ cap ys Tryd.underlying52 Tryd.underlying5 Tryd.underlying9 ?_
    intro k hk
    rw [Go.WideShapes.add_plain, Nat.zero_add, World.ownsRow.cellAt h k (by omega), List.getElem?_map, List.getElem?_eq_getElem hk]
    rfl
/- a row that the call owns stands behind a call that turns nothing old -/
theorem own_below {w0 w w' : World} {e : TypeId} {size n : Nat} {v : Value} {xs : List Value} (h : w.ownsRow w0.heap.size e size v n xs) (_h0 : Below w0.heap.size w0 w) (hb : Below w.heap.size w w') : w'.ownsRow w0.heap.size e size v n xs := by
  obtain ⟨h1, h2 | ⟨g, cap, cur, hv, hg, hh, hr⟩⟩ := h
  · exact ⟨h1, Or.inl h2⟩
  · have hlt : g < w.heap.size := by
      rcases Nat.lt_or_ge g w.heap.size with h | h
      · exact h
      · rw [Array.getElem?_eq_none h] at hh; simp at hh
    exact ⟨h1, Or.inr ⟨g, cap, cur, hv, hg, by rw [hb.block g hlt]; exact hh, hr⟩⟩
def sLen : Value → Nat
  | .slice _ n _ => n
  | _ => 0
end Go.Proofs.YtlnkddmpcicejaaDoor
/-
  Objects in memory: a forest (the library's BT: first child, next sibling) whose payload is what an object holds beside its items.
-/
namespace Go.Proofs.YtlnkddmpcicejaaDoor
open Go.RowKit Go.Deep

structure Pay where
  kind : Int
  flag : Bool
  num : Int
  text : ByteArray
  keys : List ByteArray

/- how many stand beside one another; how many there are in all -/
def flen : BT Pay → Nat
  | .nil => 0
  | .node _ _ _ _ r => flen r + 1
def fsize : BT Pay → Nat
  | .nil => 0
  | .node _ _ _ l r => fsize l + fsize r + 1

def big : Nat := 9223372036854775807
def Pay.ok (p : Pay) : Prop := (-9223372036854775808 ≤ p.kind ∧ p.kind ≤ 9223372036854775807) ∧ (-9223372036854775808 ≤ p.num ∧ p.num ≤ 9223372036854775807) ∧ p.text.size ≤ 9223372036854775807 ∧ ∀ s ∈ p.keys, s.size ≤ 9223372036854775807

/- the strings ss lie at the address a -/
def Strs (w : World) (a : Option Addr) (ss : List ByteArray) : Prop :=
  ss = [] ∨ ∃ b off, a = some ⟨b, off, none⟩ ∧ b < w.heap.size ∧ ∀ i, i < ss.length → w.cell? ⟨b, off + i, none⟩ = some (.string (ss.getD i ByteArray.empty))
theorem Strs.below {w w' : World} {a : Option Addr} {ss : List ByteArray} (h : Strs w a ss) (hb : Below w.heap.size w w') : Strs w' a ss := by
  rcases h with h | ⟨b, off, h1, h2, h3⟩
  · exact Or.inl h
  · exact Or.inr ⟨b, off, h1, Nat.lt_of_lt_of_le h2 hb.size, fun i hi => by rw [hb.cell (p := ⟨b, off + i, none⟩) h2]; exact h3 i hi⟩

/- the six cells of an object -/
def Six (w : World) (b off : Nat) (p : Pay) (ka : Option Addr) (kc : Nat) (ia : Option Addr) (n ic : Nat) : Prop :=
  w.cell? ⟨b, off, none⟩ = some (.int .i64 p.kind) ∧ w.cell? ⟨b, off + 1, none⟩ = some (.bool p.flag) ∧ w.cell? ⟨b, off + 2, none⟩ = some (.int .i64 p.num) ∧ w.cell? ⟨b, off + 3, none⟩ = some (.string p.text) ∧
    w.cell? ⟨b, off + 4, none⟩ = some (.slice ka p.keys.length kc) ∧ w.cell? ⟨b, off + 5, none⟩ = some (.slice ia n ic)
theorem Six.below {w w' : World} {b off : Nat} {p : Pay} {ka ia : Option Addr} {kc n ic : Nat} (h : Six w b off p ka kc ia n ic) (hlt : b < w.heap.size) (hb : Below w.heap.size w w') : Six w' b off p ka kc ia n ic := by
  obtain ⟨h0, h1, h2, h3, h4, h5⟩ := h
  exact ⟨by rw [hb.cell (p := ⟨b, off, none⟩) hlt]; exact h0, by rw [hb.cell (p := ⟨b, off + 1, none⟩) hlt]; exact h1, by rw [hb.cell (p := ⟨b, off + 2, none⟩) hlt]; exact h2,
    by rw [hb.cell (p := ⟨b, off + 3, none⟩) hlt]; exact h3, by rw [hb.cell (p := ⟨b, off + 4, none⟩) hlt]; exact h4, by rw [hb.cell (p := ⟨b, off + 5, none⟩) hlt]; exact h5⟩

/- the forest lies at ⟨b, off⟩, six cells an object -/
def Rows (w : World) : BT Pay → Nat → Nat → Prop
  | .nil, _, _ => True
  | .node _ _ p T N, b, off =>
    (∃ ka kc ia ic, Six w b off p ka kc ia (flen T) ic ∧ p.ok ∧ (Strs w ka p.keys ∧ (p.keys.length ≤ kc ∧ p.keys.length ≤ 8796093022208) ∧ kc ≤ 9223372036854775807) ∧ (flen T ≤ ic ∧ flen T ≤ 1599289640401) ∧ ic ≤ 9223372036854775807 ∧
      (flen T = 0 ∨ ∃ b' off', ia = some ⟨b', off', none⟩ ∧ b' < w.heap.size ∧ Rows w T b' off')) ∧ Rows w N b (off + 6)

/- an object lies: its payload p, its items T -/
def OIn (w : World) (p : Pay) (T : BT Pay) (ka : Option Addr) (kc : Nat) (ia : Option Addr) (ic : Nat) : Prop :=
  p.ok ∧ (Strs w ka p.keys ∧ (p.keys.length ≤ kc ∧ p.keys.length ≤ 8796093022208) ∧ kc ≤ 9223372036854775807) ∧ (flen T ≤ ic ∧ flen T ≤ 1599289640401) ∧ ic ≤ 9223372036854775807 ∧ (flen T = 0 ∨ ∃ b' off', ia = some ⟨b', off', none⟩ ∧ b' < w.heap.size ∧ Rows w T b' off')

abbrev ov (p : Pay) (ka : Option Addr) (kc : Nat) (ia : Option Addr) (n ic : Nat) : Value :=
  .agg #[.int .i64 p.kind, .bool p.flag, .int .i64 p.num, .string p.text, .slice ka p.keys.length kc, .slice ia n ic]

theorem flen_zero {T : BT Pay} (h : flen T = 0) : T = .nil := by cases T <;> simp_all [flen]
theorem rows_node {w : World} {b0 o0 : Nat} {p : Pay} {T N : BT Pay} {b off : Nat} : Rows w (.node b0 o0 p T N) b off ↔ (∃ ka kc ia ic, Six w b off p ka kc ia (flen T) ic ∧ OIn w p T ka kc ia ic) ∧ Rows w N b (off + 6) := by
  simp only [Rows, OIn]
theorem Rows.below {w w' : World} (hb : Below w.heap.size w w') : ∀ {T : BT Pay} {b off : Nat}, b < w.heap.size → Rows w T b off → Rows w' T b off
  | .nil, _, _, _, _ => trivial
  | .node _ _ p T N, b, off, hlt, h => by
    obtain ⟨⟨ka, kc, ia, ic, h6, hok, ⟨hs, hk⟩, h1, h2, h3⟩, hN⟩ := h
    refine ⟨⟨ka, kc, ia, ic, h6.below hlt hb, hok, ⟨hs.below hb, hk⟩, h1, h2, ?_⟩, Rows.below hb hlt hN⟩
    rcases h3 with h3 | ⟨b', off', e, hl, hT⟩
    · exact Or.inl h3
    · exact Or.inr ⟨b', off', e, Nat.lt_of_lt_of_le hl hb.size, Rows.below hb hl hT⟩
theorem OIn.below {w w' : World} (hb : Below w.heap.size w w') {p : Pay} {T : BT Pay} {ka ia : Option Addr} {kc ic : Nat} (h : OIn w p T ka kc ia ic) : OIn w' p T ka kc ia ic := by
  obtain ⟨hok, ⟨hs, hk⟩, h1, h2, h3⟩ := h
  refine ⟨hok, ⟨hs.below hb, hk⟩, h1, h2, ?_⟩
  rcases h3 with h3 | ⟨b', off', e, hl, hT⟩
  · exact Or.inl h3
  · exact Or.inr ⟨b', off', e, Nat.lt_of_lt_of_le hl hb.size, Rows.below hb hl hT⟩

/- good objects: how many there are, with those ahead; -1: not good -/
def keysB : List (List UInt8) → List ByteArray → Bool
  | _, [] => true
  | seen, s :: ss => nameB s.data.toList && decide (s.data.toList ∉ seen) && keysB (seen ++ [s.data.toList]) ss
def flatV (p : Pay) (n : Nat) : Bool :=
  !((p.flag && p.kind != 1) || (p.num != 0 && p.kind != 2 && p.kind != 3 && p.kind != 8) || (p.text.size != 0 && p.kind != 4 && p.kind != 5) || (p.keys.length != 0 && p.kind != 7) || (n != 0 && p.kind != 6 && p.kind != 7)) &&
  (if p.kind = 2 then decide (-1099511627776 ≤ p.num ∧ p.num ≤ 1099511627776)
   else if p.kind = 3 then decide (-1099511627776 ≤ p.num ∧ p.num ≤ 1099511627776) && decide (p.num % 65536 ≠ 0)
   else if p.kind = 4 then nameB p.text.data.toList
   else if p.kind = 5 then decide (p.text.size ≤ 65536)
   else if p.kind = 7 then decide (p.keys.length = n) && keysB [] p.keys
   else if p.kind = 8 then decide (1 ≤ p.num ∧ p.num ≤ 4096)
   else p.kind == 0 || p.kind == 1 || p.kind == 6)
def cont (p : Pay) : Bool := p.kind == 6 || p.kind == 7
def gV (p : Pay) (len : Nat) (k : Int → Int → Int) (nest n : Int) : Int :=
  if 65536 < n + 1 ∨ flatV p len = false then -1 else if cont p = true then (if 32 < nest + 1 then -1 else k (nest + 1) (n + 1)) else k nest (n + 1)
def goodF : BT Pay → Int → Int → Int
  | .nil, _, n => n
  | .node _ _ p T N, nest, n => if gV p (flen T) (fun a b => goodF T a b) nest n < 0 then -1 else goodF N nest (gV p (flen T) (fun a b => goodF T a b) nest n)
def goodV (p : Pay) (T : BT Pay) (nest n : Int) : Int := gV p (flen T) (goodF T) nest n
theorem goodF_node {b o : Nat} {p : Pay} {T N : BT Pay} {nest n : Int} : goodF (.node b o p T N) nest n = if goodV p T nest n < 0 then -1 else goodF N nest (goodV p T nest n) := rfl
theorem goodF_le : ∀ (T : BT Pay) (nest n : Int), 0 ≤ n → n ≤ 65536 → -1 ≤ goodF T nest n ∧ goodF T nest n ≤ 65536
  | .nil, _, n, h0, h1 => ⟨by simp only [goodF]; omega, h1⟩
  | .node _ _ p T N, nest, n, h0, h1 => by
    have hg : -1 ≤ goodV p T nest n ∧ goodV p T nest n ≤ 65536 := by
      unfold goodV gV
      split
      · omega
      · rename_i hn
        split
        · split
          · omega
          · exact goodF_le T (nest + 1) (n + 1) (by omega) (by omega)
        · exact goodF_le T nest (n + 1) (by omega) (by omega)
    rw [goodF_node]
    split
    · omega
    · exact goodF_le N nest _ (by omega) hg.2
theorem goodV_le (p : Pay) (T : BT Pay) (nest n : Int) (h0 : 0 ≤ n) (h1 : n ≤ 65536) : -1 ≤ goodV p T nest n ∧ goodV p T nest n ≤ 65536 := by
  unfold goodV gV
  split
  · omega
  · rename_i hn
    split
    · split
      · omega
      · exact goodF_le T (nest + 1) (n + 1) (by omega) (by omega)
    · exact goodF_le T nest (n + 1) (by omega) (by omega)
theorem below_t5 {V a x : World} (h : Below V.heap.size V a) (hx : Below a.heap.size a x) : Below V.heap.size V x :=
  h.trans ⟨hx.os, hx.tape, hx.output, hx.size, fun k hk => hx.block k (Nat.lt_of_lt_of_le hk h.size)⟩
theorem six_box (w : World) (p : Pay) (ka : Option Addr) (kc : Nat) (ia : Option Addr) (n ic : Nat) (t : TypeId) :
    Six (w.alloc (.cells #[.int .i64 p.kind, .bool p.flag, .int .i64 p.num, .string p.text, .slice ka p.keys.length kc, .slice ia n ic] t)) w.heap.size 0 p ka kc ia n ic := by
  refine ⟨?_, ?_, ?_, ?_, ?_, ?_⟩ <;> simp
end Go.Proofs.YtlnkddmpcicejaaDoor
/-
  What lies lies in a world that holds more; a world without one block; rows of objects that a call owns.
-/
namespace Go.Proofs.YtlnkddmpcicejaaDoor
open Go.RowKit Go.Deep

structure Sub (w w' : World) : Prop where
  size : w.heap.size ≤ w'.heap.size
  cell : ∀ p v, w.cell? p = some v → w'.cell? p = some v
theorem Sub.of_below {w w' : World} (h : Below w.heap.size w w') : Sub w w' :=
  ⟨h.size, fun p v hv => by
    rcases Nat.lt_or_ge p.block w.heap.size with hl | hl
    · rw [h.cell hl]; exact hv
    · unfold World.cell? at hv; rw [Array.getElem?_eq_none hl] at hv; cases hv⟩
theorem Sub.trans {u v w : World} (h : Sub u v) (k : Sub v w) : Sub u w := ⟨Nat.le_trans h.size k.size, fun _ _ hx => k.cell _ _ (h.cell _ _ hx)⟩
theorem Strs.sub {w w' : World} {a : Option Addr} {ss : List ByteArray} (h : Strs w a ss) (hb : Sub w w') : Strs w' a ss := by
  rcases h with h | ⟨b, off, h1, h2, h3⟩
  · exact Or.inl h
  · exact Or.inr ⟨b, off, h1, Nat.lt_of_lt_of_le h2 hb.size, fun i hi => hb.cell _ _ (h3 i hi)⟩
theorem Six.sub {w w' : World} {b off : Nat} {p : Pay} {ka ia : Option Addr} {kc n ic : Nat} (h : Six w b off p ka kc ia n ic) (hb : Sub w w') : Six w' b off p ka kc ia n ic := by
  obtain ⟨h0, h1, h2, h3, h4, h5⟩ := h
  exact ⟨hb.cell _ _ h0, hb.cell _ _ h1, hb.cell _ _ h2, hb.cell _ _ h3, hb.cell _ _ h4, hb.cell _ _ h5⟩
theorem Rows.sub {w w' : World} (hb : Sub w w') : ∀ {T : BT Pay} {b off : Nat}, Rows w T b off → Rows w' T b off
  | .nil, _, _, _ => trivial
  | .node _ _ p T N, b, off, h => by
    obtain ⟨⟨ka, kc, ia, ic, h6, hok, ⟨hs, hk⟩, h1, h2, h3⟩, hN⟩ := h
    refine ⟨⟨ka, kc, ia, ic, h6.sub hb, hok, ⟨hs.sub hb, hk⟩, h1, h2, ?_⟩, Rows.sub hb hN⟩
    rcases h3 with h3 | ⟨b', off', e, hl, hT⟩
    · exact Or.inl h3
    · exact Or.inr ⟨b', off', e, Nat.lt_of_lt_of_le hl hb.size, Rows.sub hb hT⟩
theorem OIn.sub {w w' : World} (hb : Sub w w') {p : Pay} {T : BT Pay} {ka ia : Option Addr} {kc ic : Nat} (h : OIn w p T ka kc ia ic) : OIn w' p T ka kc ia ic := by
  obtain ⟨hok, ⟨hs, hk⟩, h1, h2, h3⟩ := h
  refine ⟨hok, ⟨hs.sub hb, hk⟩, h1, h2, ?_⟩
  rcases h3 with h3 | ⟨b', off', e, hl, hT⟩
  · exact Or.inl h3
  · exact Or.inr ⟨b', off', e, Nat.lt_of_lt_of_le hl hb.size, Rows.sub hb hT⟩
theorem OIn.at_ {w : World} {p : Pay} {T : BT Pay} {ka ia : Option Addr} {kc ic : Nat} (h : OIn w p T ka kc ia ic) : ∃ b off, (T = .nil ∨ (ia = some ⟨b, off, none⟩ ∧ b < w.heap.size)) ∧ Rows w T b off := by
  obtain ⟨_, _, _, _, h | ⟨b, off, e, hl, hT⟩⟩ := h
  · have := flen_zero h
    subst this
    exact ⟨0, 0, Or.inl rfl, trivial⟩
  · exact ⟨b, off, Or.inr ⟨e, hl⟩, hT⟩
theorem Strs.get {w : World} {a : Option Addr} {ss : List ByteArray} (h : Strs w a ss) {i : Nat} (hi : i < ss.length) : ∃ b off, a = some ⟨b, off, none⟩ ∧ b < w.heap.size ∧ ∀ i, i < ss.length → w.cell? ⟨b, off + i, none⟩ = some (.string (ss.getD i ByteArray.empty)) := by
  rcases h with h | h
  · rw [h] at hi; simp at hi
  · exact h
theorem Strs.get5 {w : World} {a : Option Addr} {ss : List ByteArray} (h : Strs w a ss) {i : Nat} (hi : i < ss.length) : ∃ b off, a = some ⟨b, off, none⟩ ∧ b < w.heap.size ∧ w.cell? ⟨b, off + i, none⟩ = some (.string (ss.getD i ByteArray.empty)) := by
  obtain ⟨b, off, h1, h2, h3⟩ := h.get hi
  exact ⟨b, off, h1, h2, h3 i hi⟩

/- a world's blocks that are S, and nothing of the others -/
/- a block that may be written -/
def Unf (o : Obj) : Prop := ∀ c t f, o = .cells c t f → f = (0, 0)
theorem Unf.cells (c : Array Value) (t : TypeId) : Unf (.cells c t (0, 0)) := fun _ _ _ e => by injection e with _ _ e; exact e.symm
open Classical in
noncomputable def only (S : Nat → Prop) (w : World) : World := { w with heap := w.heap.mapIdx fun k o => if S k ∧ Unf o then o else .cells #[] 0 }
theorem only_size (S : Nat → Prop) (w : World) : (only S w).heap.size = w.heap.size := by simp [only]
theorem only_block {S : Nat → Prop} {k : Nat} (w : World) (h : S k) {o : Obj} (ho : w.heap[k]? = some o) (hu : Unf o) : (only S w).heap[k]? = w.heap[k]? := by
  simp only [only, Array.getElem?_mapIdx, ho, Option.map_some, if_pos (And.intro h hu)]
theorem only_cell {S : Nat → Prop} {w : World} {p : Addr} {v : Value} (h : (only S w).cell? p = some v) : S p.block ∧ (∃ o, w.heap[p.block]? = some o ∧ Unf o) ∧ w.cell? p = some v := by
  cases ho : w.heap[p.block]? with
  | none =>
    exfalso
    unfold World.cell? at h
    simp [only, ho] at h
  | some o =>
    by_cases hc : S p.block ∧ Unf o
    · exact ⟨hc.1, ⟨o, rfl, hc.2⟩, by rw [← World.cell?_of_block (w := w) (w' := only S w) (only_block w hc.1 ho hc.2)]; exact h⟩
    · exfalso
      unfold World.cell? at h
      simp [only, ho, if_neg hc] at h
/- what lies in S lies in S', if nothing in S has turned and all of it is in S' -/
theorem only_sub {S S' : Nat → Prop} {w w' : World} (hs : w.heap.size ≤ w'.heap.size) (h : ∀ k, S k → k < w.heap.size → S' k ∧ w'.heap[k]? = w.heap[k]?) : Sub (only S w) (only S' w') := by
  refine ⟨by rw [only_size, only_size]; exact hs, fun p v hv => ?_⟩
  obtain ⟨h1, ⟨o, ho, hu⟩, h3⟩ := only_cell hv
  have hl : p.block < w.heap.size := by
    rcases Nat.lt_or_ge p.block w.heap.size with hl | hl
    · exact hl
    · rw [Array.getElem?_eq_none hl] at ho; cases ho
  obtain ⟨h4, h5⟩ := h _ h1 hl
  rw [World.cell?_of_block (w := w') (w' := only S' w') (only_block w' h4 (h5.trans ho) hu), World.cell?_of_block (w := w) (w' := w') h5]
  exact h3
theorem only_sub_all (S : Nat → Prop) (w : World) : Sub (only S w) w := ⟨by rw [only_size]; exact Nat.le_refl _, fun p v hv => (only_cell hv).2.2⟩
theorem sub_only {S : Nat → Prop} {w : World} {p : Addr} {v : Value} (hp : S p.block) (hu : ∃ c t, w.heap[p.block]? = some (.cells c t (0, 0))) (h : w.cell? p = some v) : (only S w).cell? p = some v := by
  obtain ⟨c, t, ho⟩ := hu
  rw [World.cell?_of_block (w := w) (w' := only S w) (only_block w hp ho (Unf.cells c t))]; exact h
/- the same, whatever the blocks are -/
open Classical in
noncomputable def onlyA (S : Nat → Prop) (w : World) : World := { w with heap := w.heap.mapIdx fun k o => if S k then o else .cells #[] 0 }
theorem onlyA_size (S : Nat → Prop) (w : World) : (onlyA S w).heap.size = w.heap.size := by simp [onlyA]
theorem onlyA_block {S : Nat → Prop} {k : Nat} (w : World) (h : S k) : (onlyA S w).heap[k]? = w.heap[k]? := by
  simp only [onlyA, Array.getElem?_mapIdx, if_pos h]
  cases w.heap[k]? <;> rfl
theorem onlyA_not {S : Nat → Prop} {p : Addr} (w : World) (h : ¬ S p.block) : (onlyA S w).cell? p = none := by
  unfold World.cell?
  simp only [onlyA, Array.getElem?_mapIdx, if_neg h]
  cases w.heap[p.block]? <;> simp
theorem onlyA_sub {S S' : Nat → Prop} {w w' : World} (hs : w.heap.size ≤ w'.heap.size) (h : ∀ k, S k → k < w.heap.size → S' k ∧ w'.heap[k]? = w.heap[k]?) : Sub (onlyA S w) (onlyA S' w') := by
  refine ⟨by rw [onlyA_size, onlyA_size]; exact hs, fun p v hv => ?_⟩
  by_cases hp : S p.block
  · rcases Nat.lt_or_ge p.block w.heap.size with hl | hl
    · obtain ⟨h1, h2⟩ := h _ hp hl
      rw [World.cell?_of_block (w := onlyA S w) (w' := onlyA S' w') (by rw [onlyA_block _ hp, onlyA_block _ h1, h2])]; exact hv
    · unfold World.cell? at hv; rw [Array.getElem?_eq_none (by rw [onlyA_size]; exact hl)] at hv; cases hv
  · rw [onlyA_not _ hp] at hv; cases hv
theorem onlyA_sub_all (S : Nat → Prop) (w : World) : Sub (onlyA S w) w := by
  refine ⟨by rw [onlyA_size]; exact Nat.le_refl _, fun p v hv => ?_⟩
  by_cases hp : S p.block
  · rw [World.cell?_of_block (w := onlyA S w) (w' := w) (onlyA_block _ hp).symm]; exact hv
  · rw [onlyA_not _ hp] at hv; cases hv
theorem sub_onlyA {S : Nat → Prop} {w : World} {p : Addr} {v : Value} (hp : S p.block) (h : w.cell? p = some v) : (onlyA S w).cell? p = some v := by
  rw [World.cell?_of_block (w := w) (w' := onlyA S w) (onlyA_block _ hp)]; exact h
/- what a call has made -/
noncomputable def fresh (B : Nat) (w : World) : World := only (fun k => B ≤ k) w
theorem fresh_sub (B : Nat) (w : World) : Sub (fresh B w) w := only_sub_all _ _
theorem fresh_le {B B' : Nat} {w w' : World} (hB : B' ≤ B) (h : Below w.heap.size w w') : Sub (fresh B w) (fresh B' w') := only_sub h.size fun k hk hl => ⟨by omega, h.block k hl⟩

/- nothing old has turned but for the block b -/
structure But (b : Nat) (w w' : World) : Prop where
  os : w'.os = w.os
  tape : w'.tape = w.tape
  output : w'.output = w.output
  size : w.heap.size ≤ w'.heap.size
  block : ∀ k, k < w.heap.size → k ≠ b → w'.heap[k]? = w.heap[k]?
theorem But.refl (b : Nat) (w : World) : But b w w := ⟨rfl, rfl, rfl, Nat.le_refl _, fun _ _ _ => rfl⟩
theorem But.trans {b : Nat} {u v w : World} (h : But b u v) (k : But b v w) : But b u w :=
  ⟨k.os.trans h.os, k.tape.trans h.tape, k.output.trans h.output, Nat.le_trans h.size k.size, fun i hi hb => (k.block i (Nat.lt_of_lt_of_le hi h.size) hb).trans (h.block i hi hb)⟩
theorem But.of_below {b : Nat} {w w' : World} (h : Below w.heap.size w w') : But b w w' := ⟨h.os, h.tape, h.output, h.size, fun k hk _ => h.block k hk⟩
theorem But.setCell (b : Nat) (w : World) (o : Nat) (v : Value) : But b w (w.setCell ⟨b, o, none⟩ v) :=
  ⟨rfl, rfl, rfl, by simp [World.setCell], fun _ _ hb => Below.heap_setCell _ _ _ _ hb⟩
theorem But.below {b : Nat} {w w' W : World} (h : But b w w') (h0 : Below W.heap.size W w) (hb : W.heap.size ≤ b) : Below W.heap.size W w' :=
  h0.trans ⟨h.os, h.tape, h.output, h.size, fun k hk => h.block k (Nat.lt_of_lt_of_le hk h0.size) (by omega)⟩
theorem But.cell {b : Nat} {w w' : World} (h : But b w w') {p : Addr} (hk : p.block < w.heap.size) (hne : p.block ≠ b) : w'.cell? p = w.cell? p := World.cell?_of_block (w := w) (h.block _ hk hne)
theorem But.own {b B : Nat} {w w' : World} {e : TypeId} {size n : Nat} {v : Value} {xs : List Value} (h : w.ownsRow B e size v n xs) (hk : But b w w') (hb : b < B) : w'.ownsRow B e size v n xs := by
  obtain ⟨h1, h2 | ⟨g, cap, cur, hv, hg, hh, hr⟩⟩ := h
  · exact ⟨h1, Or.inl h2⟩
  · have hlt : g < w.heap.size := by
      rcases Nat.lt_or_ge g w.heap.size with h | h
      · exact h
      · rw [Array.getElem?_eq_none h] at hh; simp at hh
    exact ⟨h1, Or.inr ⟨g, cap, cur, hv, hg, by rw [hk.block _ hlt (by omega)]; exact hh, hr⟩⟩
/- a block that is known whole -/
def Blk (w : World) (b : Nat) (cs : Array Value) (t : TypeId) : Prop := w.heap[b]? = some (.cells cs t (0, 0))
theorem Blk.new (w : World) (cs : Array Value) (t : TypeId) : Blk (w.alloc (.cells cs t)) w.heap.size cs t := by
  unfold Blk
  show (w.heap.push (.cells cs t))[w.heap.size]? = _
  simp
theorem Blk.lt {w : World} {b : Nat} {cs : Array Value} {t : TypeId} (h : Blk w b cs t) : b < w.heap.size := by
  rcases Nat.lt_or_ge b w.heap.size with hl | hl
  · exact hl
  · unfold Blk at h; rw [Array.getElem?_eq_none hl] at h; cases h
theorem Blk.below {w w' : World} {b : Nat} {cs : Array Value} {t : TypeId} (h : Blk w b cs t) (hb : Below w.heap.size w w') : Blk w' b cs t := by
  have hl := h.lt; unfold Blk at *; rw [hb.block b hl]; exact h
theorem Blk.cell {w : World} {b : Nat} {cs : Array Value} {t : TypeId} (h : Blk w b cs t) (j : Nat) : w.cell? ⟨b, j, none⟩ = cs[j]? := by
  unfold Blk at h; unfold World.cell?; simp [h]
theorem Blk.frozen {w : World} {b : Nat} {cs : Array Value} {t : TypeId} (h : Blk w b cs t) (j : Nat) : w.frozen? ⟨b, j, none⟩ = false := by
  unfold Blk at h; unfold World.frozen?; simp [h]

theorem Blk.set {w : World} {b : Nat} {cs : Array Value} {t : TypeId} (h : Blk w b cs t) (j : Nat) (v : Value) : Blk (w.setCell ⟨b, j, none⟩ v) b (cs.setIfInBounds j v) t := by
  unfold Blk at *
  simp [World.setCell, Array.getElem?_modify, h]
theorem Blk.other {w : World} {b b' : Nat} {cs : Array Value} {t : TypeId} (h : Blk w b cs t) (hne : b ≠ b') (j : Nat) (v : Value) : Blk (w.setCell ⟨b', j, none⟩ v) b cs t := by
  unfold Blk at *
  rw [Below.heap_setCell _ _ _ _ hne]; exact h
theorem Blk.kept {w w' : World} {b B : Nat} {cs : Array Value} {t : TypeId} (h : Blk w b cs t) (hb : Below B w w') (hl : b < B) : Blk w' b cs t := by
  unfold Blk at *; rw [hb.block b hl]; exact h
/- six cells written -/
abbrev st6 (w : World) (b : Nat) (v0 v1 v2 v3 v4 v5 : Value) : World := (((((w.setCell ⟨b, 0, none⟩ v0).setCell ⟨b, 1, none⟩ v1).setCell ⟨b, 2, none⟩ v2).setCell ⟨b, 3, none⟩ v3).setCell ⟨b, 4, none⟩ v4).setCell ⟨b, 5, none⟩ v5
theorem st6_below {B : Nat} {a w : World} (h : Below B a w) {b : Nat} (hb : B ≤ b) (v0 v1 v2 v3 v4 v5 : Value) : Below B a (st6 w b v0 v1 v2 v3 v4 v5) :=
  (((((h.setCell (p := ⟨b, 0, none⟩) hb _).setCell (p := ⟨b, 1, none⟩) hb _).setCell (p := ⟨b, 2, none⟩) hb _).setCell (p := ⟨b, 3, none⟩) hb _).setCell (p := ⟨b, 4, none⟩) hb _).setCell (p := ⟨b, 5, none⟩) hb _
theorem st6_blk {w : World} {b : Nat} {x0 x1 x2 x3 x4 x5 : Value} {t : TypeId} (h : Blk w b #[x0, x1, x2, x3, x4, x5] t) (v0 v1 v2 v3 v4 v5 : Value) : Blk (st6 w b v0 v1 v2 v3 v4 v5) b #[v0, v1, v2, v3, v4, v5] t :=
  (((((h.set 0 v0).set 1 v1).set 2 v2).set 3 v3).set 4 v4).set 5 v5
theorem st6_block {w : World} {b k : Nat} (hk : k ≠ b) (v0 v1 v2 v3 v4 v5 : Value) : (st6 w b v0 v1 v2 v3 v4 v5).heap[k]? = w.heap[k]? := by
  rw [Below.heap_setCell _ _ _ _ hk, Below.heap_setCell _ _ _ _ hk, Below.heap_setCell _ _ _ _ hk, Below.heap_setCell _ _ _ _ hk, Below.heap_setCell _ _ _ _ hk, Below.heap_setCell _ _ _ _ hk]
theorem st6_size (w : World) (b : Nat) (v0 v1 v2 v3 v4 v5 : Value) : (st6 w b v0 v1 v2 v3 v4 v5).heap.size = w.heap.size := by simp [World.setCell]
theorem Blk.six {w : World} {b : Nat} {x0 x1 x2 x3 x4 x5 : Value} {t : TypeId} (h : Blk w b #[x0, x1, x2, x3, x4, x5] t) : (w.cell? ⟨b, 0, none⟩ = some x0 ∧ w.cell? ⟨b, 1, none⟩ = some x1 ∧ w.cell? ⟨b, 2, none⟩ = some x2 ∧ w.cell? ⟨b, 3, none⟩ = some x3 ∧ w.cell? ⟨b, 4, none⟩ = some x4 ∧ w.cell? ⟨b, 5, none⟩ = some x5) ∧
    (w.frozen? ⟨b, 0, none⟩ = false ∧ w.frozen? ⟨b, 1, none⟩ = false ∧ w.frozen? ⟨b, 2, none⟩ = false ∧ w.frozen? ⟨b, 3, none⟩ = false ∧ w.frozen? ⟨b, 4, none⟩ = false ∧ w.frozen? ⟨b, 5, none⟩ = false) :=
  ⟨⟨h.cell 0, h.cell 1, h.cell 2, h.cell 3, h.cell 4, h.cell 5⟩, ⟨h.frozen 0, h.frozen 1, h.frozen 2, h.frozen 3, h.frozen 4, h.frozen 5⟩⟩
/- objects one behind the other, in a row that a call owns -/
structure Ent where
  b0 : Nat
  o0 : Nat
  p : Pay
  T : BT Pay
  ka : Option Addr
  kc : Nat
  ia : Option Addr
  ic : Nat
def Ent.cells (x : Ent) : List Value := [.int .i64 x.p.kind, .bool x.p.flag, .int .i64 x.p.num, .string x.p.text, .slice x.ka x.p.keys.length x.kc, .slice x.ia (flen x.T) x.ic]
def Ent.lies (w : World) (x : Ent) : Prop := OIn w x.p x.T x.ka x.kc x.ia x.ic
def forest : List Ent → BT Pay
  | [] => .nil
  | x :: l => .node x.b0 x.o0 x.p x.T (forest l)
theorem forest_len : ∀ l : List Ent, flen (forest l) = l.length
  | [] => rfl
  | _ :: l => by simp [forest, flen, forest_len l]
def ecells (l : List Ent) : List Value := l.flatMap Ent.cells
theorem ecells_len : ∀ l : List Ent, (ecells l).length = l.length * 6
  | [] => rfl
  | x :: l => by
    have := ecells_len l
    simp only [ecells, List.flatMap_cons, List.length_append] at this ⊢
    rw [this]
    simp [Ent.cells]
    omega
theorem ecells_append (l : List Ent) (x : Ent) : ecells (l ++ [x]) = ecells l ++ x.cells := by simp [ecells]
/- their parts lie in memory that the call has made, outside the row itself -/
def Part (B : Nat) (v : Value) (k : Nat) : Prop := B ≤ k ∧ v.ownBlock ≠ some k
def ORow (w : World) (B : Nat) (v : Value) (l : List Ent) : Prop := w.ownsRow B 39 6 v l.length (ecells l) ∧ ∀ x ∈ l, x.lies (only (Part B v) w)
theorem ORow.nil (w : World) (B : Nat) : ORow w B (.slice none 0 0) [] := ⟨World.ownsRow_nil _ _ _ _, by simp⟩
theorem rows_cells {w : World} : ∀ {l : List Ent} {b off : Nat}, (∀ j, j < l.length * 6 → w.cell? ⟨b, off + j, none⟩ = (ecells l)[j]?) → (∀ x ∈ l, x.lies w) → Rows w (forest l) b off
  | [], _, _, _, _ => trivial
  | x :: l, b, off, h, hl => by
    have hc : ∀ j, j < 6 → w.cell? ⟨b, off + j, none⟩ = x.cells[j]? := fun j hj => by
      rw [h j (by simp; omega), show ecells (x :: l) = x.cells ++ ecells l by simp [ecells], List.getElem?_append_left (by simpa [Ent.cells] using hj)]
    refine rows_node.2 ⟨⟨x.ka, x.kc, x.ia, x.ic, ⟨?_, ?_, ?_, ?_, ?_, ?_⟩, hl x (by simp)⟩, rows_cells (fun j hj => ?_) fun y hy => hl y (by simp [hy])⟩
    · exact hc 0 (by omega)
    · exact hc 1 (by omega)
    · exact hc 2 (by omega)
    · exact hc 3 (by omega)
    · exact hc 4 (by omega)
    · exact hc 5 (by omega)
    · have := h (j + 6) (by simp; omega)
      rw [show off + 6 + j = off + (j + 6) by omega, this, show ecells (x :: l) = x.cells ++ ecells l by simp [ecells], List.getElem?_append_right (by simp [Ent.cells])]
      simp [Ent.cells]
theorem ORow.items {w : World} {B : Nat} {v : Value} {l : List Ent} (h : ORow w B v l) :
    ∃ a cap, v = .slice a (flen (forest l)) cap ∧ flen (forest l) ≤ cap ∧ cap ≤ 9223372036854775807 ∧ (flen (forest l) = 0 ∨ ∃ b' off', a = some ⟨b', off', none⟩ ∧ b' < (fresh B w).heap.size ∧ Rows (fresh B w) (forest l) b' off') := by
  rw [forest_len]
  obtain ⟨h, hl⟩ := h
  have h' := h
  obtain ⟨_, ⟨h0, h1⟩ | ⟨g, cap, cur, hv, hg, hh, hc, hm, _⟩⟩ := h'
  · exact ⟨none, 0, by rw [h0, h1], by omega, by omega, Or.inl h1⟩
  · refine ⟨some ⟨g, 0, none⟩, cap, hv, hc, by unfold maxLen at hm; exact hm, Or.inr ⟨g, 0, rfl, ?_, ?_⟩⟩
    · rw [hv] at h; rw [fresh, only_size]; exact (World.ownsRow.lt h g rfl).2
    · have hP : ∀ x ∈ l, x.lies (fresh B w) := fun x hx => OIn.sub (only_sub (Nat.le_refl _) fun k hk _ => ⟨hk.1, rfl⟩) (hl x hx)
      rw [hv] at h
      refine rows_cells (fun j hj => ?_) hP
      have he := World.ownsRow.cellAt h j hj
      rw [Nat.zero_add]
      have hj' : j < (ecells l).length := by rw [ecells_len]; exact hj
      rw [List.getElem?_eq_getElem hj'] at he ⊢
      exact sub_only (S := fun k => B ≤ k) hg ⟨_, _, hh⟩ he
theorem ORow.kept {w w' : World} {B : Nat} {v : Value} {l : List Ent} (h : ORow w B v l) (hs : w.heap.size ≤ w'.heap.size) (hk : ∀ k, B ≤ k → k < w.heap.size → w'.heap[k]? = w.heap[k]?) : ORow w' B v l := by
  refine ⟨?_, fun x hx => OIn.sub (only_sub hs fun k h1 h2 => ⟨h1, hk k h1.1 h2⟩) (h.2 x hx)⟩
  obtain ⟨h1, h2 | ⟨g, cap, cur, hv, hg, hh, hr⟩⟩ := h.1
  · exact ⟨h1, Or.inl h2⟩
  · have hlt : g < w.heap.size := by
      rcases Nat.lt_or_ge g w.heap.size with h | h
      · exact h
      · rw [Array.getElem?_eq_none h] at hh; simp at hh
    exact ⟨h1, Or.inr ⟨g, cap, cur, hv, hg, by rw [hk g hg hlt]; exact hh, hr⟩⟩
/- one more at the end: the new one's parts are new since w, the row was appended to in w1 -/
theorem ORow.appended {w w1 w2 : World} {B g cap : Nat} {v : Value} {l : List Ent} {x : Ent} (h : ORow w B v l) (hs : w.heap.size ≤ w1.heap.size) (hB : B ≤ w.heap.size) (hk : ∀ k, B ≤ k → k < w.heap.size → w1.heap[k]? = w.heap[k]?)
    (hx : x.lies (fresh w.heap.size w1)) (hown : w2.ownsRow B 39 6 (.slice (some ⟨g, 0, none⟩) (l.length + 1) cap) (l.length + 1) (ecells l ++ x.cells)) (hg : w1.grownBy w2 v.ownBlock) (hat : v.ownBlock = some g ∨ w1.heap.size ≤ g) :
    ORow w2 B (.slice (some ⟨g, 0, none⟩) (l.length + 1) cap) (l ++ [x]) := by
  have hv : ∀ k, v.ownBlock = some k → k < w.heap.size := fun k hk => (World.ownsRow.lt h.1 k hk).2
  have hb : ∀ k, k < w1.heap.size → v.ownBlock ≠ some k → w2.heap[k]? = w1.heap[k]? := fun k h1 h2 => hg.block k h1 (fun h => h2 h.symm)
  refine ⟨by rw [ecells_append]; simpa using hown, fun y hy => ?_⟩
  rcases List.mem_append.1 hy with hy | hy
  · refine OIn.sub (only_sub (Nat.le_trans hs hg.size) fun k h1 h2 => ⟨⟨h1.1, ?_⟩, ?_⟩) (h.2 y hy)
    · rw [hb k (by omega) h1.2, hk k h1.1 h2]
    · intro e
      have e : g = k := by simpa [Value.ownBlock] using e
      rcases hat with ha | ha
      · exact h1.2 (by rw [ha, e])
      · omega
  · obtain rfl : y = x := by simpa using hy
    refine OIn.sub (only_sub hg.size fun k h1 h2 => ⟨⟨by omega, ?_⟩, ?_⟩) hx
    · exact hb k h2 (fun e => by have := hv _ e; omega)
    · intro e
      have e : g = k := by simpa [Value.ownBlock] using e
      rcases hat with ha | ha
      · have := hv _ ha; omega
      · omega
/- strings in a row that a call owns -/
def SRow (w : World) (B : Nat) (v : Value) (ss : List ByteArray) : Prop := w.ownsRow B 9 1 v ss.length (ss.map Value.string)
theorem SRow.strs {w : World} {B : Nat} {v : Value} {ss : List ByteArray} (h : SRow w B v ss) :
    ∃ a cap, v = .slice a ss.length cap ∧ Strs (fresh B w) a ss ∧ ss.length ≤ cap ∧ cap ≤ 9223372036854775807 := by
  have h' := h
  obtain ⟨_, ⟨h0, h1⟩ | ⟨g, cap, cur, hv, hg, hh, hc, hm, _⟩⟩ := h'
  · exact ⟨none, 0, by rw [h0, h1], Or.inl (List.eq_nil_of_length_eq_zero h1), by omega, by omega⟩
  · refine ⟨some ⟨g, 0, none⟩, cap, hv, ?_, hc, by unfold maxLen at hm; exact hm⟩
    unfold SRow at h
    rw [hv] at h
    refine Or.inr ⟨g, 0, rfl, by rw [fresh, only_size]; exact (World.ownsRow.lt h g rfl).2, fun i hi => ?_⟩
    refine sub_only (S := fun k => B ≤ k) hg ⟨_, _, hh⟩ ?_
    rw [Nat.zero_add, World.ownsRow.cellAt h i (by omega), List.getElem?_map, List.getElem?_eq_getElem hi, List.getD_eq_getElem?_getD, List.getElem?_eq_getElem hi]
    rfl
theorem info_obj : (Tryd.prog.info? 39).map (fun i => (i.zero, i.size, i.bytes)) = some (some (.agg #[.int .i64 0, .bool false, .int .i64 0, .string ByteArray.empty, .slice none 0 0, .slice none 0 0]), 6, 88) := by kernel_rfl
theorem info_str : (Tryd.prog.info? 9).map (fun i => (i.zero, i.size, i.bytes)) = some (some (.string ByteArray.empty), 1, 16) := by kernel_rfl
end Go.Proofs.YtlnkddmpcicejaaDoor
/-
  append to an empty slice of strings: append([]string{}, l...), append([]string(nil), l...).
-/
namespace Go.Proofs.YtlnkddmpcicejaaDoor
open Go.RowKit Go.Deep

theorem strs_one (ss : List ByteArray) : ∀ u ∈ ss.map Value.string, u.oneCell' = true := fun u hu => by
  obtain ⟨_, _, rfl⟩ := List.mem_map.1 hu
  rfl
theorem info_parts5 {t : TypeId} {z : Value} {a b : Nat} (h : (Tryd.prog.info? t).map (fun i => (i.zero, i.size, i.bytes)) = some (some z, a, b)) : ∃ i, Tryd.prog.info? t = some i ∧ i.zero = some z ∧ i.size = a ∧ i.bytes = b := by
  cases hi : Tryd.prog.info? t with
  | none => rw [hi] at h; cases h
  | some i => rw [hi] at h; simp at h; exact ⟨i, rfl, h.1, h.2.1, h.2.2⟩
theorem app_keys (base ka : Option Addr) (ss : List ByteArray) (kc : Nat) (W : World) (hS : Strs W ka ss) (hn : ss.length ≤ 8796093022208) (hba : base = none ∨ ∃ H, base = some ⟨H, 0, none⟩) :
    ∃ a c W', (Builtin.append_ #[36, 36] 36 #[.slice base 0 0, .slice ka ss.length kc]).run Tryd.prog W = .ok (.slice a ss.length c) W' ∧
      (Strs (fresh (W.heap.size) W') a ss ∧ (ss.length ≤ c ∧ ss.length ≤ 8796093022208) ∧ c ≤ 9223372036854775807) ∧ Below W.heap.size W W' := by
  obtain ⟨i0, hi, hz0, hz1, hz2⟩ := info_parts5 info_str
  by_cases h0 : ss = []
  · subst h0
    have hs : Src Tryd.prog i0.size 36 (.slice ka 0 kc) 0 [] W := by
      cases ka with
      | none => exact Src.ofNil W Tryd.underlying36 kc
      | some a => exact Src.ofSlice W Tryd.underlying36 a 0 kc [] (by simp) (by simp) (by simp)
    rcases hba with rfl | ⟨H, rfl⟩
    · refine ⟨none, 0, W, ?_, ⟨Or.inl rfl, ⟨Nat.le_refl _, by simp⟩, by omega⟩, Below.refl _ _⟩
      simp [Builtin.append_, run_underlying Tryd.underlying36, sizeOf, typeInfo, hi, hs.len, hs.cells]
    · refine ⟨some ⟨H, 0, none⟩, 0, W, ?_, ⟨Or.inl rfl, ⟨Nat.le_refl _, by simp⟩, by omega⟩, Below.refl _ _⟩
      have hr := run_append_room_src (P := Tryd.prog) W 36 36 36 9 i0 Tryd.underlying36 hi H 0 0 0 _ 0 [] hs (by omega) (by simp) (by simp)
      simpa [World.setCells] using hr
  · have hpos : 0 < ss.length := List.length_pos_iff.2 h0
    rcases hS with hS | ⟨b, off, rfl, hb, hc⟩
    · exact absurd hS h0
    have hs : Src Tryd.prog i0.size 36 (.slice (some ⟨b, off, none⟩) ss.length kc) ss.length (ss.map Value.string) W := by
      refine Src.ofSlice W Tryd.underlying36 ⟨b, off, none⟩ ss.length kc _ (by rw [hz1]; simp) ?_ (strs_one ss)
      intro j u hu
      have hj : j < ss.length := by
        have := List.getElem?_eq_some_iff.1 hu
        simpa using this.1
      rw [Go.WideShapes.add_plain, hc j hj]
      rw [List.getElem?_map, List.getElem?_eq_getElem hj] at hu
      simp at hu
      rw [← hu, List.getD_eq_getElem?_getD, List.getElem?_eq_getElem hj]
      rfl
    have hold : (Builtin.firstCells i0.size 0 (.slice base 0 0)).run Tryd.prog W.drew = .ok ([] : List Value).toArray W.drew := by
      rcases hba with rfl | ⟨H, rfl⟩
      · exact run_firstCells_none _ i0.size 0 0 0
      · exact run_firstCells_some _ i0.size 0 _ 0 0 [] (by simp) (by simp)
    have hr := run_append_grow_src (P := Tryd.prog) W 36 36 36 9 i0 (.string ByteArray.empty) Tryd.underlying36 hi hz0 base 0 0 [] hold _ ss.length _ hs (by omega) (by omega)
      (by rw [hz2]; have := growslice_fits (need := 0 + ss.length) (old := 0) (bytes := 16) (by omega) (by omega); exact this)
    simp only [Nat.zero_add, List.nil_append] at hr
    refine ⟨_, _, _, hr, ⟨Or.inr ⟨W.heap.size, 0, rfl, by rw [fresh, only_size]; simp, fun i hi => sub_only (S := fun k => W.heap.size ≤ k) (Nat.le_refl _) ⟨_, _, Array.getElem?_push_size⟩ ?_⟩, ⟨grownCap_ge _ _ _ _, hn⟩, ?_⟩, (below_drewN' W 1).alloc (by simp) _⟩
    · rw [Nat.zero_add, World.cell?_alloc_at _ _ _ _ (by simp), Array.getElem?_append_left (by simpa using hi)]
      simp [List.getElem?_eq_getElem hi, List.getD_eq_getElem?_getD]
    · have := grownCap_le_maxLen W ss.length 0 9 (by simp only [maxLen]; omega)
      simpa only [maxLen] using this
theorem ownsRow_kept {w w' : World} {B : Nat} {e : TypeId} {size n : Nat} {v : Value} {xs : List Value} (h : w.ownsRow B e size v n xs) (hk : ∀ k, B ≤ k → k < w.heap.size → w'.heap[k]? = w.heap[k]?) : w'.ownsRow B e size v n xs := by
  obtain ⟨h1, h2 | ⟨g, cap, cur, hv, hg, hh, hr⟩⟩ := h
  · exact ⟨h1, Or.inl h2⟩
  · have hlt : g < w.heap.size := by
      rcases Nat.lt_or_ge g w.heap.size with h | h
      · exact h
      · rw [Array.getElem?_eq_none h] at hh; simp at hh
    exact ⟨h1, Or.inr ⟨g, cap, cur, hv, hg, by rw [hk g hg hlt]; exact hh, hr⟩⟩
theorem part_sub {w1 w2 : World} {B g n cap : Nat} {v : Value} (hg : w1.grownBy w2 v.ownBlock) (hat : v.ownBlock = some g ∨ w1.heap.size ≤ g) : Sub (only (Part B v) w1) (only (Part B (.slice (some ⟨g, 0, none⟩) n cap)) w2) := by
  refine only_sub hg.size fun k h1 h2 => ⟨⟨h1.1, ?_⟩, hg.block k h2 (fun e => h1.2 e.symm)⟩
  intro e
  have e : g = k := by simpa [Value.ownBlock] using e
  rcases hat with ha | ha
  · exact h1.2 (by rw [ha, e])
  · omega
theorem step_append_run {P : Program} (w : World) {ops : Array Oper} {o : Oper} {a : Act} {K : Act → World → Prop} {Q : Exit → Act → World → Prop} {E : Prop} (hgd : o.guard = none) (s x : Operand) (t tn : TypeId)
    (ho : o.op = .call { callee := .builtin .append, args := #[s, x], argTypes := #[t, tn] }) (vs vx : Value) (hs : a.eval s = vs) (hx : a.eval x = vx)
    (v' : Value) (w' : World) (hr : (Builtin.append_ #[t, tn] o.type #[vs, vx]).run P w = .ok v' w') (h : K (a.put o.dst v') w') :
    if Region.wanted o (yielded ops a.tmps) = true then Oper.wp P o a w K Q else E := by
  rw [if_pos (by simp [Region.wanted, hgd])]
  exact Lib.wp_append_run w s x t tn ho vs vx hs hx v' w' hr h
/- one more object at the end of a row -/
theorem app_obj {W W1 : World} {B : Nat} {v : Value} {l : List Ent} (x : Ent) (h : ORow W B v l) (hs : W.heap.size ≤ W1.heap.size) (hk : ∀ k, B ≤ k → k < W.heap.size → W1.heap[k]? = W.heap[k]?) (hB : B ≤ W.heap.size) (hx : x.lies (fresh W.heap.size W1)) (hn : l.length + 1 ≤ 1599289640401) (H : Nat) (hH : W1.heap.size = H) :
    ∃ g cap w2, (Builtin.append_ #[37, 37] 37 #[v, .slice (some ⟨H, 0, none⟩) 1 1]).run Tryd.prog (W1.alloc (.cells x.cells.toArray 39)) = .ok (.slice (some ⟨g, 0, none⟩) (l.length + 1) cap) w2 ∧
      ORow w2 B (.slice (some ⟨g, 0, none⟩) (l.length + 1) cap) (l ++ [x]) ∧ Below B W1 w2 ∧ Sub (only (Part B v) W1) (only (Part B (.slice (some ⟨g, 0, none⟩) (l.length + 1) cap)) w2) := by
  obtain ⟨i0, hi, hz0, hz1, hz2⟩ := info_parts5 info_obj
  have hown : (W1.alloc (.cells x.cells.toArray 39)).ownsRow B 39 6 v l.length (ecells l) := (ownsRow_kept h.1 hk).alloc _
  subst hH
  obtain ⟨g, cap, w2, hr, ho, hg, hat, hlt⟩ := run_append_lies (P := Tryd.prog) (W1.alloc (.cells x.cells.toArray 39)) 37 37 B 39 i0 _ 6 88 Tryd.underlying37 hi hz0 hz1 hz2 rfl (by decide) v l.length (ecells l) hown ⟨W1.heap.size, 0, none⟩ 1 1 x.cells rfl
    (fun j u hu => by rw [Go.WideShapes.add_plain, Nat.zero_add, World.cell?_alloc_at _ _ _ _ rfl]; simpa using hu) (fun u hu => by simp [Ent.cells] at hu; rcases hu with rfl | rfl | rfl | rfl | rfl | rfl <;> rfl) (by decide) (by unfold maxLen; omega) (by omega) (by simp; omega) (W1.heap.size + 1) (by simp)
  refine ⟨g, cap, w2, hr, ?_, ?_, ?_⟩
  · refine h.appended (w1 := W1.alloc (.cells x.cells.toArray 39)) (by simp; omega) hB (fun k h1 h2 => by rw [Below.heap_alloc _ _ _ (by omega)]; exact hk k h1 h2) (OIn.sub (fresh_le (Nat.le_refl _) ((Below.refl _ _).alloc (Nat.le_refl _) _)) hx) ho hg ?_
    rcases hat with ha | ha
    · exact Or.inl ha
    · exact Or.inr (by rw [ha]; simp)
  · exact ((Below.refl B W1).alloc (by omega) _).grown hg (by simp; omega) fun k hk' => (World.ownsRow.lt h.1 k hk').1
  · refine Sub.trans (only_sub (w' := W1.alloc (.cells x.cells.toArray 39)) (by simp) fun k h1 h2 => ⟨h1, Below.heap_alloc _ _ _ h2⟩) (part_sub hg ?_)
    rcases hat with ha | ha
    · exact Or.inl ha
    · exact Or.inr (by rw [ha]; simp)
end Go.Proofs.YtlnkddmpcicejaaDoor
/-
  What the reference's Copy (chapter 5) answers: the same object in memory of its own.
-/
namespace Go.Proofs.YtlnkddmpcicejaaDoor
open Go.RowKit Go.Deep

def joinF : List Ent → BT Pay → BT Pay
  | [], U => U
  | x :: l, U => .node x.b0 x.o0 x.p x.T (joinF l U)
theorem joinF_nil : ∀ l : List Ent, joinF l .nil = forest l
  | [] => rfl
  | x :: l => by simp [joinF, forest, joinF_nil l]
theorem joinF_snoc (x : Ent) (U : BT Pay) : ∀ l : List Ent, joinF (l ++ [x]) U = joinF l (.node x.b0 x.o0 x.p x.T U)
  | [] => rfl
  | y :: l => by simp [joinF, joinF_snoc x U l]
abbrev zobj : Array Value := #[.int .i64 0, .bool false, .int .i64 0, .string ⟨#[]⟩, .slice none 0 0, .slice none 0 0]
abbrev obox (p : Pay) (ka : Option Addr) (kc : Nat) (ia : Option Addr) (n ic : Nat) : Array Value := #[.int .i64 p.kind, .bool p.flag, .int .i64 p.num, .string p.text, .slice ka p.keys.length kc, .slice ia n ic]

set_option maxRecDepth 8000 in
set_option maxHeartbeats 4000000 in
theorem rcopy_step (M : Nat)
    (ih : ∀ (p : Pay) (T : BT Pay) (ka : Option Addr) (kc : Nat) (ia : Option Addr) (ic : Nat) (w : World), fsize T < M → OIn w p T ka kc ia ic →
      Calls Tryd.prog 15 #[ov p ka kc ia (flen T) ic] w fun e w' => (∃ ka' kc' ia' ic', e = .returned (ov p ka' kc' ia' (flen T) ic') ∧ OIn (fresh w.heap.size w') p T ka' kc' ia' ic') ∧ Below w.heap.size w w')
    (p : Pay) (T : BT Pay) (ka : Option Addr) (kc : Nat) (ia : Option Addr) (ic : Nat) (w : World) (hM : fsize T ≤ M) (hin : OIn w p T ka kc ia ic) :
      Calls Tryd.prog 15 #[ov p ka kc ia (flen T) ic] w fun e w' => (∃ ka' kc' ia' ic', e = .returned (ov p ka' kc' ia' (flen T) ic') ∧ OIn (fresh w.heap.size w') p T ka' kc' ia' ic') ∧ Below w.heap.size w w' := by
  have IH := hide ih
  have HI := hide hin
  have HM := hide hM
  have hl1 : (flen T : Int) ≤ 9223372036854775807 := by have h := hin.2.2.1; have h' := hin.2.2.2.1; omega
  have hl0 : (0 : Int) ≤ (flen T : Int) := by omega
  have HB0 := hide ((((Below.refl w.heap.size w).alloc (Nat.le_refl _) (.cells (obox p ka kc ia (flen T) ic) 39)).alloc (by simp) (.cells zobj 39)).alloc (by simp; omega) (.cells #[] 9))
  obtain ⟨ka', kc', w1, hr, hS1, hb1⟩ := app_keys (some ⟨w.heap.size + 1 + 1, 0, none⟩) ka p.keys kc (((w.alloc (.cells (obox p ka kc ia (flen T) ic) 39)).alloc (.cells zobj 39)).alloc (.cells #[] 9)) (hin.2.1.1.below HB0.out) (by have := hin.2.1.2.1; omega) (Or.inr ⟨_, rfl⟩)
  clear ih hin hM
  have HS1 := hide hS1
  have HB1 := hide (below_t5 HB0.out hb1)
  have hz : w.heap.size + 1 + 1 + 1 ≤ w1.heap.size := by have := hb1.size; simpa using this
  have hk0 : Blk w1 w.heap.size (obox p ka kc ia (flen T) ic) 39 := (((Blk.new w _ _).below ((Below.refl _ _).alloc (Nat.le_refl _) _)).below ((Below.refl _ _).alloc (Nat.le_refl _) _)).below hb1
  have hk1 : Blk w1 (w.heap.size + 1) zobj 39 := by
    have := Blk.new (w.alloc (.cells (obox p ka kc ia (flen T) ic) 39)) zobj 39
    rw [show (w.alloc (.cells (obox p ka kc ia (flen T) ic) 39)).heap.size = w.heap.size + 1 by simp] at this
    exact (this.below ((Below.refl _ _).alloc (Nat.le_refl _) _)).below hb1
  have c4 := hk0.cell 4
  have z4 := hk0.frozen 4
  have HK0 := hide hk0
  have HK1 := hide hk1
  have HR := hide hr
  clear hS1 hb1 hr hk0 hk1 HB0
  go_enter Tryd.func15, Tryd.ntmps15
  go_wp2_with (at_builtin; refine Lib.wpList_append_run _ rfl _ _ _ _ rfl _ _ rfl rfl _ _ HR.out ?_)
  clear c4 z4
  obtain ⟨b, off, hia, hrows⟩ := OIn.at_ HI.out
  have HRW := hide hrows
  have HIA := hide hia
  have HW1 : Hid (Below w.heap.size w (w1.setCell ⟨w.heap.size, 4, none⟩ (.slice ka' p.keys.length kc'))) := hide (HB1.out.setCell (p := ⟨w.heap.size, 4, none⟩) (Nat.le_refl _) _)
  have HST : Hid (Strs (fresh (w.heap.size + 1 + 1) (w1.setCell ⟨w.heap.size, 4, none⟩ (.slice ka' p.keys.length kc'))) ka' p.keys) := hide (HS1.out.1.sub (only_sub (by simp [World.setCell]) fun k h1 h2 => ⟨by simp at h1; omega, Below.heap_setCell _ _ _ _ (by simp at h1; simp; omega)⟩))
  have HKA := hide (HK0.out.set 4 (.slice ka' p.keys.length kc'))
  have HKB := hide (HK1.out.other (b' := w.heap.size) (by omega) 4 (.slice ka' p.keys.length kc'))
  have hz' : w.heap.size + 1 + 1 ≤ (w1.setCell ⟨w.heap.size, 4, none⟩ (.slice ka' p.keys.length kc')).heap.size := by simp [World.setCell]; omega
  generalize w1.setCell ⟨w.heap.size, 4, none⟩ (.slice ka' p.keys.length kc') = w2 at HW1 HST HKA HKB hz' ⊢
  clear hrows hia HK0 HK1 hz HB1 HR
  go_loopw [3, 4] (fun vl vi wr => ∃ (k : Nat) (l : List Ent) (U : BT Pay), vi = .int .i64 k ∧ Hid (flen U + k = flen T ∧ fsize U ≤ fsize T ∧ Rows w U b (off + k * 6) ∧ l.length = k ∧ joinF l U = T ∧ ORow wr (w.heap.size + 1 + 1) vl l ∧ Below w.heap.size w wr ∧ Blk wr w.heap.size (obox p ka' kc' ia (flen T) ic) 39 ∧ Blk wr (w.heap.size + 1) zobj 39 ∧ Strs (only (Part (w.heap.size + 1 + 1) vl) wr) ka' p.keys ∧ w.heap.size + 1 + 1 ≤ wr.heap.size)) (fun _ vi _ => flen T - (intOf vi).toNat)
  case atStart => exact ⟨0, [], T, rfl, hide ⟨by omega, Nat.le_refl _, by simpa using HRW.out, rfl, rfl, ORow.nil _ _, HW1.out, HKA.out, HKB.out, HST.out.sub (only_sub (Nat.le_refl _) fun k h1 _ => ⟨⟨h1, by simp [Value.ownBlock]⟩, rfl⟩), hz'⟩⟩
  case round =>
    clear HW1 HST HKA HKB hz' HRW
    obtain ⟨k, l, U, rfl, HV⟩ := hrel
    obtain ⟨hk, hu, hrow, hlen, hj, hor, hbel, hk0, hk1, hst, hsz⟩ := HV.out
    clear HV
    have HB := hide hbel
    have HK0 := hide hk0
    have HK1 := hide hk1
    have HST := hide hst
    have HOR := hide hor
    have HJ := hide hj
    have hkk : (0 : Int) ≤ (k : Int) := by omega
    have s5 := hk0.cell 5
    have hs5 : (obox p ka' kc' ia (flen T) ic)[5]? = some (.slice ia (flen T) ic) := rfl
    rw [hs5] at s5
    clear hs5
    cases U with
    | nil =>
      have hk' : ¬ k < flen T := by simp [flen] at hk; omega
      have hjT : forest l = T := by rw [← joinF_nil]; exact hj
      obtain ⟨ia', ic', rfl, hi1, hi2, hi3⟩ := hor.items
      rw [hjT] at hi1 hi3
      have s0 := hk0.cell 0
      have s1 := hk0.cell 1
      have s2 := hk0.cell 2
      have s3 := hk0.cell 3
      have s4 := hk0.cell 4
      have z5 := hk0.frozen 5
      have r0 := hk1.cell 0
      have r1 := hk1.cell 1
      have r2 := hk1.cell 2
      have r3 := hk1.cell 3
      have r4 := hk1.cell 4
      have r5 := hk1.cell 5
      have y0 := hk1.frozen 0
      have y1 := hk1.frozen 1
      have y2 := hk1.frozen 2
      have y3 := hk1.frozen 3
      have y4 := hk1.frozen 4
      have y5 := hk1.frozen 5
      rw [hjT]
      have HI3 := hide hi3
      have HI1 := hide hi1
      clear hk hrow hbel hj hk0 hk1 hst hor hi3 hi1 hjT
      go_wp2_with fail
      have hbf : Below w.heap.size w (((((((wr.setCell ⟨w.heap.size, 5, none⟩ (.slice ia' (flen T) ic')).setCell ⟨w.heap.size + 1, 0, none⟩ (.int .i64 p.kind)).setCell ⟨w.heap.size + 1, 1, none⟩ (.bool p.flag)).setCell ⟨w.heap.size + 1, 2, none⟩ (.int .i64 p.num)).setCell ⟨w.heap.size + 1, 3, none⟩ (.string p.text)).setCell ⟨w.heap.size + 1, 4, none⟩ (.slice ka' p.keys.length kc')).setCell ⟨w.heap.size + 1, 5, none⟩ (.slice ia' (flen T) ic')) :=
        ((((((HB.out.setCell (p := ⟨w.heap.size, 5, none⟩) (Nat.le_refl _) _).setCell (p := ⟨w.heap.size + 1, 0, none⟩) (by simp) _).setCell (p := ⟨w.heap.size + 1, 1, none⟩) (by simp) _).setCell (p := ⟨w.heap.size + 1, 2, none⟩) (by simp) _).setCell (p := ⟨w.heap.size + 1, 3, none⟩) (by simp) _).setCell (p := ⟨w.heap.size + 1, 4, none⟩) (by simp) _).setCell (p := ⟨w.heap.size + 1, 5, none⟩) (by simp) _
      have hkf := ((((((HK1.out.other (b' := w.heap.size) (by omega) 5 (.slice ia' (flen T) ic')).set 0 (.int .i64 p.kind)).set 1 (.bool p.flag)).set 2 (.int .i64 p.num)).set 3 (.string p.text)).set 4 (.slice ka' p.keys.length kc')).set 5 (.slice ia' (flen T) ic')
      have hsub : Sub (fresh (w.heap.size + 1 + 1) wr) (fresh w.heap.size (((((((wr.setCell ⟨w.heap.size, 5, none⟩ (.slice ia' (flen T) ic')).setCell ⟨w.heap.size + 1, 0, none⟩ (.int .i64 p.kind)).setCell ⟨w.heap.size + 1, 1, none⟩ (.bool p.flag)).setCell ⟨w.heap.size + 1, 2, none⟩ (.int .i64 p.num)).setCell ⟨w.heap.size + 1, 3, none⟩ (.string p.text)).setCell ⟨w.heap.size + 1, 4, none⟩ (.slice ka' p.keys.length kc')).setCell ⟨w.heap.size + 1, 5, none⟩ (.slice ia' (flen T) ic'))) := by
        refine only_sub (by simp [World.setCell]) fun k h1 h2 => ⟨by omega, ?_⟩
        rw [Below.heap_setCell _ _ _ _ (by simp; omega), Below.heap_setCell _ _ _ _ (by simp; omega), Below.heap_setCell _ _ _ _ (by simp; omega), Below.heap_setCell _ _ _ _ (by simp; omega), Below.heap_setCell _ _ _ _ (by simp; omega), Below.heap_setCell _ _ _ _ (by simp; omega), Below.heap_setCell _ _ _ _ (by simp; omega)]
      generalize (((((((wr.setCell ⟨w.heap.size, 5, none⟩ (.slice ia' (flen T) ic')).setCell ⟨w.heap.size + 1, 0, none⟩ (.int .i64 p.kind)).setCell ⟨w.heap.size + 1, 1, none⟩ (.bool p.flag)).setCell ⟨w.heap.size + 1, 2, none⟩ (.int .i64 p.num)).setCell ⟨w.heap.size + 1, 3, none⟩ (.string p.text)).setCell ⟨w.heap.size + 1, 4, none⟩ (.slice ka' p.keys.length kc')).setCell ⟨w.heap.size + 1, 5, none⟩ (.slice ia' (flen T) ic')) = wf at hbf hkf hsub ⊢
      have f0 := hkf.cell 0
      have f1 := hkf.cell 1
      have f2 := hkf.cell 2
      have f3 := hkf.cell 3
      have f4 := hkf.cell 4
      have f5 := hkf.cell 5
      simp at f0 f1 f2 f3 f4 f5
      refine bodyPost_ret (v := ov p ka' kc' ia' (flen T) ic') (by simp [results, Tryd.results15, go_sem, f0, f1, f2, f3, f4, f5]) rfl ⟨⟨ka', kc', ia', ic', rfl, ?_⟩, hbf⟩
      refine ⟨HI.out.1, ⟨?_, HS1.out.2.1, HS1.out.2.2⟩, ⟨HI1.out, HI.out.2.2.1.2⟩, hi2, ?_⟩
      · exact (HST.out.sub (only_sub (S' := fun k => w.heap.size + 1 + 1 ≤ k) (Nat.le_refl _) fun k h1 _ => ⟨h1.1, rfl⟩)).sub hsub
      · rcases HI3.out with h | ⟨b', off', e, hl, hR⟩
        · exact Or.inl h
        · exact Or.inr ⟨b', off', e, Nat.lt_of_lt_of_le hl hsub.size, hR.sub hsub⟩
    | node b0 o0 q TT N =>
      obtain ⟨⟨ka2, kc2, ia2, ic2, g6, gin⟩, grest⟩ := rows_node.1 hrow
      obtain rfl | ⟨rfl, hbz⟩ := HIA.out
      · simp [flen] at hk
      have hlt : k < flen T := by simp [flen] at hk; omega
      have hst' : fsize TT < M := by have := HM.out; simp [fsize] at hu; omega
      have CI := IH.out q TT ka2 kc2 ia2 ic2 wr hst' (gin.below hbel)
      obtain ⟨c0, c1, c2, c3, c4, c5⟩ := g6.below hbz hbel
      have CI := hide CI
      have HK := hide (show flen N + (k + 1) = flen T ∧ fsize N ≤ fsize T by simp [flen, fsize] at hk hu; omega)
      have HRR := hide grest
      have HL := hide hlen
      have AP : Hid (∀ (x : Ent) (y : World), Below wr.heap.size wr y → x.lies (fresh wr.heap.size y) → ∃ g cap w2, (Builtin.append_ #[37, 37] 37 #[u3, .slice (some ⟨y.heap.size, 0, none⟩) 1 1]).run Tryd.prog (y.alloc (.cells x.cells.toArray 39)) = .ok (.slice (some ⟨g, 0, none⟩) (l.length + 1) cap) w2 ∧
          ORow w2 (w.heap.size + 1 + 1) (.slice (some ⟨g, 0, none⟩) (l.length + 1) cap) (l ++ [x]) ∧ Below (w.heap.size + 1 + 1) y w2 ∧ Sub (only (Part (w.heap.size + 1 + 1) u3) y) (only (Part (w.heap.size + 1 + 1) (.slice (some ⟨g, 0, none⟩) (l.length + 1) cap)) w2)) := hide (fun x y hy hx => app_obj x hor hy.size (fun k _ h2 => hy.block k h2) hsz hx (by have := HI.out.2.2.1.2; omega) _ rfl)
      clear hk hu hrow hbel g6 gin grest hor hj hk0 hk1 hst hlen
      go_wp2_with (first | (go_at_call 15; refine CI.out.mono ?_; rintro e wy ⟨⟨ka3, kc3, ia3, ic3, rfl, hin3⟩, hy⟩; obtain ⟨g, cap, w2, hr, hor2, hb2, hp2⟩ := AP.out ⟨b0, o0, q, TT, ka3, kc3, ia3, ic3⟩ wy hy hin3; have HR := hide hr; have HY := hide hy; have HO2 := hide hor2; have HB2 := hide hb2; have HP2 := hide hp2; clear hr hy hin3 hor2 hb2 hp2) | (at_builtin; refine Lib.wpList_append_run _ rfl _ _ _ _ rfl _ _ rfl rfl _ _ HR.out ?_))
      go_roundw
      case rel =>
        have hb3 : Below w.heap.size w wy := below_t5 HB.out HY.out
        have hw2 : Below w.heap.size w w2 := hb3.trans (HB2.out.mono (by omega))
        exact ⟨k + 1, l ++ [⟨b0, o0, q, TT, ka3, kc3, ia3, ic3⟩], N, by go_num, hide ⟨HK.out.1, HK.out.2, by have := HRR.out; rw [show off + (k + 1) * 6 = off + k * 6 + 6 by omega]; exact this, by simp [HL.out], by rw [joinF_snoc]; exact HJ.out, HO2.out, hw2, (HK0.out.below HY.out).kept HB2.out (by omega), (HK1.out.below HY.out).kept HB2.out (by omega), (HST.out.sub (only_sub HY.out.size fun k h1 h2 => ⟨h1, HY.out.block k h2⟩)).sub HP2.out, Nat.le_trans (Nat.le_trans hsz HY.out.size) HB2.out.size⟩⟩
      case measure => simp [intOf]; omega
theorem rcopy_core : ∀ (M : Nat) (p : Pay) (T : BT Pay) (ka : Option Addr) (kc : Nat) (ia : Option Addr) (ic : Nat) (w : World), fsize T < M → OIn w p T ka kc ia ic →
      Calls Tryd.prog 15 #[ov p ka kc ia (flen T) ic] w fun e w' => (∃ ka' kc' ia' ic', e = .returned (ov p ka' kc' ia' (flen T) ic') ∧ OIn (fresh w.heap.size w') p T ka' kc' ia' ic') ∧ Below w.heap.size w w'
  | 0 => fun _ _ _ _ _ _ _ h => absurd h (Nat.not_lt_zero _)
  | M + 1 => fun p T ka kc ia ic w hM hin => rcopy_step M (rcopy_core M) p T ka kc ia ic w (by omega) hin
theorem rcopy_any (p : Pay) (T : BT Pay) (ka : Option Addr) (kc : Nat) (ia : Option Addr) (ic : Nat) (w : World) (hin : OIn w p T ka kc ia ic) :
      Calls Tryd.prog 15 #[ov p ka kc ia (flen T) ic] w fun e w' => (∃ ka' kc' ia' ic', e = .returned (ov p ka' kc' ia' (flen T) ic') ∧ OIn (fresh w.heap.size w') p T ka' kc' ia' ic') ∧ Below w.heap.size w w' :=
  rcopy_core _ p T ka kc ia ic w (Nat.lt_succ_self _) hin
end Go.Proofs.YtlnkddmpcicejaaDoor
/-
  What the reference's Get (chapter 5) answers.
-/
namespace Go.Proofs.YtlnkddmpcicejaaDoor
open Go.RowKit Go.Deep

/- the first of the keys that is the key -/
def kfind (x : ByteArray) : List ByteArray → Option Nat
  | [] => none
  | y :: l => if y.toList == x.toList then some 0 else (kfind x l).map (· + 1)
/- the n-th of a forest -/
def nthF : BT Pay → Nat → Option (Pay × BT Pay)
  | .nil, _ => none
  | .node _ _ p T _, 0 => some (p, T)
  | .node _ _ _ _ N, n + 1 => nthF N n
def getV (p : Pay) (T : BT Pay) (x : ByteArray) : Option (Pay × BT Pay) := if p.kind = 7 then (kfind x p.keys).bind (nthF T) else none
theorem nthF_none : ∀ (T : BT Pay) (n : Nat), flen T ≤ n → nthF T n = none
  | .nil, _, _ => by simp [nthF]
  | .node _ _ _ _ N, 0, h => by simp [flen] at h
  | .node _ _ _ _ N, n + 1, h => by simp only [nthF]; exact nthF_none N n (by simp [flen] at h; omega)
theorem nthF_rows {w : World} : ∀ {T : BT Pay} {b off n : Nat}, n < flen T → Rows w T b off → ∃ p U ka kc ia ic, nthF T n = some (p, U) ∧ Six w b (off + n * 6) p ka kc ia (flen U) ic ∧ OIn w p U ka kc ia ic
  | .nil, _, _, _, h, _ => by simp [flen] at h
  | .node _ _ p T N, b, off, 0, _, hr => by
    obtain ⟨⟨ka, kc, ia, ic, h6, hin⟩, _⟩ := rows_node.1 hr
    exact ⟨p, T, ka, kc, ia, ic, rfl, by simpa using h6, hin⟩
  | .node _ _ p T N, b, off, n + 1, h, hr => by
    obtain ⟨_, hN⟩ := rows_node.1 hr
    obtain ⟨q, U, ka, kc, ia, ic, h1, h2, h3⟩ := nthF_rows (n := n) (by simp [flen] at h; omega) hN
    exact ⟨q, U, ka, kc, ia, ic, h1, by rw [show off + (n + 1) * 6 = off + 6 + n * 6 by omega]; exact h2, h3⟩
theorem kfind_step {x : ByteArray} {l : List ByteArray} {i : Nat} (h : i < l.length) : kfind x (l.drop i) = if (l.getD i ByteArray.empty).toList == x.toList then some 0 else (kfind x (l.drop (i + 1))).map (· + 1) := by
  rw [List.drop_eq_getElem_cons h, kfind, List.getD_eq_getElem?_getD, List.getElem?_eq_getElem h]
  rfl
def zpay : Pay := ⟨0, false, 0, ⟨#[]⟩, []⟩
theorem zin (w : World) : OIn w zpay .nil none 0 none 0 := by
  refine ⟨⟨⟨by simp [zpay], by simp [zpay]⟩, ⟨by simp [zpay], by simp [zpay]⟩, by simp [zpay, ByteArray.size], by simp [zpay]⟩, ⟨Or.inl rfl, ⟨by simp [zpay], by simp [zpay]⟩, by omega⟩, ⟨by simp [flen], by simp [flen]⟩, by omega, Or.inl rfl⟩

/- what Get answers: an object that lies, or none -/
def Got (w : World) (r : Option (Pay × BT Pay)) (e : Ending) : Prop :=
  match r with
  | some (q, U) => ∃ ka kc ia ic, e = .returned (.tuple #[ov q ka kc ia (flen U) ic, .bool true]) ∧ OIn w q U ka kc ia ic
  | none => e = .returned (.tuple #[ov zpay none 0 none 0 0, .bool false])
end Go.Proofs.YtlnkddmpcicejaaDoor
/-
  Which numbers are lengths.
-/
namespace Go.Proofs.YtlnkddmpcicejaaDoor
open Go.RowKit

def inB (x : Int) : Bool := decide (-1099511627776 ≤ x ∧ x ≤ 1099511627776)
def tolV (x : Int) : Int := if inB x = true then x else 0
theorem inB_t {x : Int} (h1 : -1099511627776 ≤ x) (h2 : x ≤ 1099511627776) : inB x = true := by unfold inB; simp [h1, h2]
theorem inB_f {x : Int} (h : ¬ (-1099511627776 ≤ x ∧ x ≤ 1099511627776)) : inB x = false := by unfold inB; simp only [decide_eq_false_iff_not]; exact h
theorem inB_bd {x : Int} (h : inB x = true) : -1099511627776 ≤ x ∧ x ≤ 1099511627776 := by unfold inB at h; simpa using h
theorem tolV_t {x : Int} (h : inB x = true) : tolV x = x := by unfold tolV; rw [if_pos h]
theorem tolV_f {x : Int} (h : inB x = false) : tolV x = 0 := by unfold tolV; rw [if_neg (by simp [h])]
end Go.Proofs.YtlnkddmpcicejaaDoor
/-
  What fixed.In answers.
-/
namespace Go.Proofs.YtlnkddmpcicejaaDoor
open Go.RowKit

theorem in_t (x : Int) (w : World) (h1 : -1099511627776 ≤ x) (h2 : x ≤ 1099511627776) :
    Calls Tryd.prog 50 #[.int .i64 x] w fun e w' => e = .returned (.bool true) ∧ w' = w := by
  go_enter Tryd.func50, Tryd.ntmps50
  go_wp2
  go_ret
  exact ⟨rfl, rfl⟩
theorem in_lo (x : Int) (w : World) (h1 : x < -1099511627776) :
    Calls Tryd.prog 50 #[.int .i64 x] w fun e w' => e = .returned (.bool false) ∧ w' = w := by
  go_enter Tryd.func50, Tryd.ntmps50
  go_wp2
  go_ret
  exact ⟨rfl, rfl⟩
theorem in_hi (x : Int) (w : World) (h1 : 1099511627776 < x) :
    Calls Tryd.prog 50 #[.int .i64 x] w fun e w' => e = .returned (.bool false) ∧ w' = w := by
  have h0 : -1099511627776 ≤ x := by omega
  have hd : decide (x ≤ 1099511627776) = false := by simp; omega
  go_enter Tryd.func50, Tryd.ntmps50
  go_wp2
  go_ret
  exact ⟨rfl, rfl⟩
theorem in_any (x : Int) (w : World) :
    Calls Tryd.prog 50 #[.int .i64 x] w fun e w' => e = .returned (.bool (inB x)) ∧ w' = w := by
  by_cases h1 : -1099511627776 ≤ x
  · by_cases h2 : x ≤ 1099511627776
    · rw [inB_t h1 h2]; exact in_t x w h1 h2
    · rw [inB_f (by omega)]; exact in_hi x w (by omega)
  · rw [inB_f (by omega)]; exact in_lo x w (by omega)
end Go.Proofs.YtlnkddmpcicejaaDoor
/-
  What the reference's In (chapter 1) answers.
-/
namespace Go.Proofs.YtlnkddmpcicejaaDoor
open Go.RowKit

theorem rin_t (x : Int) (w : World) (h1 : -1099511627776 ≤ x) (h2 : x ≤ 1099511627776) :
    Calls Tryd.prog 35 #[.int .i64 x] w fun e w' => e = .returned (.bool true) ∧ w' = w := by
  go_enter Tryd.func35, Tryd.ntmps35
  go_wp2
  go_ret
  exact ⟨rfl, rfl⟩
theorem rin_lo (x : Int) (w : World) (h1 : x < -1099511627776) :
    Calls Tryd.prog 35 #[.int .i64 x] w fun e w' => e = .returned (.bool false) ∧ w' = w := by
  go_enter Tryd.func35, Tryd.ntmps35
  go_wp2
  go_ret
  exact ⟨rfl, rfl⟩
theorem rin_hi (x : Int) (w : World) (h1 : 1099511627776 < x) :
    Calls Tryd.prog 35 #[.int .i64 x] w fun e w' => e = .returned (.bool false) ∧ w' = w := by
  have h0 : -1099511627776 ≤ x := by omega
  have hd : decide (x ≤ 1099511627776) = false := by simp; omega
  go_enter Tryd.func35, Tryd.ntmps35
  go_wp2
  go_ret
  exact ⟨rfl, rfl⟩
theorem rin_any (x : Int) (w : World) :
    Calls Tryd.prog 35 #[.int .i64 x] w fun e w' => e = .returned (.bool (inB x)) ∧ w' = w := by
  by_cases h1 : -1099511627776 ≤ x
  · by_cases h2 : x ≤ 1099511627776
    · rw [inB_t h1 h2]; exact rin_t x w h1 h2
    · rw [inB_f (by omega)]; exact rin_hi x w (by omega)
  · rw [inB_f (by omega)]; exact rin_lo x w (by omega)
end Go.Proofs.YtlnkddmpcicejaaDoor
