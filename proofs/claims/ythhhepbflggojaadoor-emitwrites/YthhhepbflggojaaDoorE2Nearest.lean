/-
  What digits.nearest answers.
-/
import Derived.Test.YthhhepbflggojaaDoorE2Nrow
namespace Go.Proofs.YthhhepbflggojaaDoor.D2
set_option maxRecDepth 8000
open Go.RowKit

theorem info_u8 : (Tryd.prog.info? 5).map (fun i => (i.zero, i.size, i.bytes)) = some (some (.int .u8 0), 1, 1) := by kernel_rfl
def bcell (b : UInt8) : Value := Value.int .u8 (b.toNat : Int)
/- a row of the call's own that holds bytes -/
def OwnB (w : World) (base g n cap : Nat) (ys : List UInt8) : Prop := w.ownsRow base 5 1 (.slice (some ⟨g, 0, none⟩) n cap) n (ys.map bcell)
theorem OwnB.at {w : World} {base g n cap : Nat} {ys : List UInt8} (h : OwnB w base g n cap ys) (i : Nat) (hi : i < ys.length) : w.cell? ⟨g, i, none⟩ = some (bcell ys[i]) := by
  have := World.ownsRow.cellAt h i (by have := h.1; simp at this; omega)
  rw [this, List.getElem?_map, List.getElem?_eq_getElem hi]
  rfl
theorem OwnB.stored {w : World} {base g n cap : Nat} {ys : List UInt8} (h : OwnB w base g n cap ys) (j : Nat) (x : UInt8) : OwnB (w.setCell ⟨g, j, none⟩ (bcell x)) base g n cap (ys.set j x) := by
  have := (World.ownsRow.stored h j (bcell x)).1
  unfold OwnB
  rw [List.map_set]
  exact this
theorem own_made8 (w1 : World) (base g n : Nat) (h : w1.ownsRow base 5 1 (.slice (some ⟨g, 0, none⟩) n n) n (madeCells (Value.int .u8 0).cells (n * 1)).toList) :
    OwnB w1 base g n n (List.replicate n 0) := by
  unfold OwnB
  have e : (madeCells (Value.int .u8 0).cells (n * 1)).toList = (List.replicate n (0 : UInt8)).map bcell := by
    rw [Nat.mul_one, show (Value.int .u8 0).cells = #[Value.int .u8 0] from rfl, toList_madeCells_one, List.map_replicate]
    rfl
  rw [← e]
  exact h
/- string(row) -/
theorem OwnB.text {w : World} {base g n cap : Nat} {ys : List UInt8} (h : OwnB w base g n cap ys) (hn : ys.length = n) :
    (convert 43 9 (.slice (some ⟨g, 0, none⟩) n cap)).run Tryd.prog w = .ok (.string ⟨ys.toArray⟩) w := by
  subst hn
  refine run_convert_bytes_back (P := Tryd.prog) w 43 9 5 ⟨g, 0, none⟩ cap ys Tryd.underlying43 Tryd.underlying5 Tryd.underlying9 ?_
  intro k hk
  have := h.at k hk
  rw [Go.WideShapes.add_plain, Nat.zero_add, this]
  rfl

/- the row while the loop goes: j places to go -/
def nst (l : List UInt8) (j : Nat) : List UInt8 := List.replicate j 0 ++ (nrow (l.drop j)).2
theorem nst_len (l : List UInt8) (j : Nat) (h : j ≤ l.length) : (nst l j).length = l.length := by
  unfold nst
  rw [List.length_append, nrow_len, List.length_replicate, List.length_drop]
  omega
theorem nst_set (l : List UInt8) (j : Nat) (x : UInt8) (d : Nat) (hx : x = dgB d) (h : nrow (l.drop j) = (((nrow (l.drop j)).1), dgB d :: (nrow (l.drop (j + 1))).2)) :
    (nst l (j + 1)).set j x = nst l j := by
  unfold nst
  rw [h, hx]
  simp only []
  rw [List.set_append, if_pos (by simp), List.replicate_succ', List.set_append, if_neg (by simp)]
  simp

end Go.Proofs.YthhhepbflggojaaDoor.D2
