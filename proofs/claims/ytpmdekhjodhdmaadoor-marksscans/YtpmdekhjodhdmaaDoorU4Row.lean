/-
  Rows of ints and of bytes that a call owns.
-/
import Derived.Test.YtpmdekhjodhdmaaDoorLst
import Derived.Test.YtpmdekhjodhdmaaDoorU4P
import Derived.OwnWalk
import Derived.Laws.OwnMore
import Derived.Laws.BytesArg
import Derived.Laws.IdiomStrings
namespace Go.Proofs.YtpmdekhjodhdmaaDoor
open Go.RowKit

theorem info_int : (Tryd.prog.info? 3).map (fun i => (i.zero, i.size, i.bytes)) = some (some (.int .i64 0), 1, 8) := by kernel_rfl
theorem info_u8 : (Tryd.prog.info? 5).map (fun i => (i.zero, i.size, i.bytes)) = some (some (.int .u8 0), 1, 1) := by kernel_rfl
def bcell (b : UInt8) : Value := Value.int .u8 (b.toNat : Int)
def IRow (w : World) (B : Nat) (v : Value) (zs : List Int) : Prop := w.ownsRow B 3 1 v zs.length (zs.map (Value.int .i64))
def BRow (w : World) (B : Nat) (v : Value) (ys : List UInt8) : Prop := w.ownsRow B 5 1 v ys.length (ys.map bcell)
theorem IRow.nil (w : World) (B : Nat) : IRow w B (.slice none 0 0) [] := World.ownsRow_nil _ _ _ _
theorem BRow.nil (w : World) (B : Nat) : BRow w B (.slice none 0 0) [] := World.ownsRow_nil _ _ _ _
theorem IRow.lst {w : World} {B : Nat} {v : Value} {zs : List Int} (h : IRow w B v zs) :
    ∃ a cap, v = .slice a zs.length cap ∧ Lst w a zs ∧ zs.length ≤ cap ∧ cap ≤ 9223372036854775807 := by
  have h' := h
  obtain ⟨_, ⟨h0, h1⟩ | ⟨g, cap, cur, hv, hg, hh, hc, hm, _⟩⟩ := h'
  · exact ⟨none, 0, by rw [h0, h1], Or.inl (List.eq_nil_of_length_eq_zero h1), by omega, by omega⟩
  · refine ⟨some ⟨g, 0, none⟩, cap, hv, ?_, hc, by unfold maxLen at hm; exact hm⟩
    rw [hv] at h
    refine Or.inr ⟨g, 0, rfl, (World.ownsRow.lt h g rfl).2, fun i hi => ?_⟩
    rw [Nat.zero_add, World.ownsRow.cellAt h i (by omega), List.getElem?_map, List.getElem?_eq_getElem hi, List.getD_eq_getElem?_getD, List.getElem?_eq_getElem hi]
    rfl
theorem BRow.text {w : World} {B : Nat} {v : Value} {ys : List UInt8} (h : BRow w B v ys) :
    (convert 56 9 v).run Tryd.prog w = .ok (.string ⟨ys.toArray⟩) w := by
  have h' := h
  obtain ⟨_, ⟨h0, h1⟩ | ⟨g, cap, cur, hv, _⟩⟩ := h'
  · obtain rfl : ys = [] := List.eq_nil_of_length_eq_zero h1
    rw [h0]
    exact run_convert_bytes_nil w 56 5 Tryd.underlying56 Tryd.underlying5 0 0 9 Tryd.underlying9
  · rw [hv] at h ⊢
    refine run_convert_bytes_back (P := Tryd.prog) w 56 9 5 ⟨g, 0, none⟩ cap ys Tryd.underlying56 Tryd.underlying5 Tryd.underlying9 ?_
    intro k hk
    rw [Go.WideShapes.add_plain, Nat.zero_add, World.ownsRow.cellAt h k (by omega), List.getElem?_map, List.getElem?_eq_getElem hk]
    rfl
/- a row that the call owns stands behind a call that turns nothing old -/
theorem own_below {w0 w w' : World} {e : TypeId} {size n : Nat} {v : Value} {xs : List Value} (h : w.ownsRow w0.heap.size e size v n xs) (_h0 : Below w0.heap.size w0 w) (hb : Below w.heap.size w w') : w'.ownsRow w0.heap.size e size v n xs := by
  obtain ⟨h1, h2 | ⟨g, cap, cur, hv, hg, hh, hr⟩⟩ := h
  · exact ⟨h1, Or.inl h2⟩
  · have hlt : g < w.heap.size := by
      rcases Nat.lt_or_ge g w.heap.size with h | h
      · exact h
      · rw [Array.getElem?_eq_none h] at hh; simp at hh
    exact ⟨h1, Or.inr ⟨g, cap, cur, hv, hg, by rw [hb.block g hlt]; exact hh, hr⟩⟩
def sLen : Value → Nat
  | .slice _ n _ => n
  | _ => 0
end Go.Proofs.YtpmdekhjodhdmaaDoor
