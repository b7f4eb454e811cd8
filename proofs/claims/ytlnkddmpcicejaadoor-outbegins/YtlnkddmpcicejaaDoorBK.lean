/-
  Joined: O5RTa, O5RTb, O5RTd, O5RPr.
-/
import Derived.Test.YtlnkddmpcicejaaDoorBF
import Derived.Test.YtlnkddmpcicejaaDoorBJ
import Derived.Test.YtlnkddmpcicejaaDoorBH
import Derived.Deep.RegionHeld3
import Derived.Test.YtlnkddmpcicejaaDoorBC
/-
  What the reference's text and Print answer: of any good object.
-/
namespace Go.Proofs.YtlnkddmpcicejaaDoor
open Go.RowKit Go.Deep

/- a row within a call: its bytes, and what has been left alone since wA -/
structure RI (B : Nat) (wA x : World) (V : Value) (zs : List UInt8) : Prop where
  row : BRow x B V zs
  kb : KB B wA x
  size : B ≤ x.heap.size
theorem RI.alloc {B : Nat} {wA x : World} {V : Value} {zs : List UInt8} (h : RI B wA x V zs) (o : Obj) : RI B wA (x.alloc o) V zs := ⟨World.ownsRow.alloc h.row o, h.kb.trans (KB.alloc x o h.size), by simp; have := h.size; omega⟩
theorem RI.drew {B : Nat} {wA x : World} {V : Value} {zs : List UInt8} (h : RI B wA x V zs) : RI B wA x.drew V zs :=
  ⟨h.row, ⟨⟨h.kb.below.os, h.kb.below.tape, h.kb.below.output, h.kb.below.size, h.kb.below.block⟩, ⟨h.kb.nb.size, h.kb.nb.block⟩⟩, h.size⟩
theorem RI.below {B : Nat} {wA x y : World} {V : Value} {zs : List UInt8} (h : RI B wA x V zs) (hy : Below x.heap.size x y) : RI B wA y V zs := ⟨h.row.later hy, h.kb.trans (KB.of_below h.size hy), Nat.le_trans h.size hy.size⟩
theorem Blk.far {x y : World} {H : Nat} {cs : Array Value} {t : TypeId} {B : Nat} {V : Value} {zs : List UInt8} {x0 : World} (h : Blk x H cs t) (hg : x.grownBy y V.ownBlock) (hr : BRow x0 B V zs) (hx : x0.heap.size ≤ H) : Blk y H cs t := by
  have hl := h.lt
  unfold Blk at *
  rw [hg.block H hl (fun e => by have := (World.ownsRow.lt hr H e.symm).2; omega)]
  exact h
theorem step_app_s {w : World} {ops : Array Oper} {o : Oper} {a : Act} {K : Act → World → Prop} {Q : Exit → Act → World → Prop} {E : Prop} (hgd : o.guard = none) (s x : Operand)
    (ho : o.op = .call { callee := .builtin .append, args := #[s, x], argTypes := #[52, 9] }) (ht : o.type = 52) (vs : Value) (bs : ByteArray) (hs : a.eval s = vs) (hx : a.eval x = .string bs)
    {B : Nat} {wA : World} {zs : List UInt8} (h : RI B wA w vs zs) (hl : zs.length + bs.size ≤ 140737488355328)
    (hk : ∀ v' w', RI B wA w' v' (zs ++ bs.data.toList) → w.grownBy w' vs.ownBlock → K (a.put o.dst v') w') :
    if Region.wanted o (yielded ops a.tmps) = true then Oper.wp Tryd.prog o a w K Q else E := by
  obtain ⟨i0, hi, hz0, hz1, hz2⟩ := info_parts5 info_u8
  obtain ⟨v', w2, hr, ho2, hg, _⟩ := Lib.run_append_own_string (P := Tryd.prog) w B 52 9 52 5 i0 Tryd.underlying52 Tryd.underlying9 hi hz0 hz1 hz2 vs zs.length (zs.map bcell) h.row bs (by unfold maxLen; omega) hl h.size
  have hb2 : BRow w2 B v' (zs ++ bs.data.toList) := by
    unfold BRow
    rw [List.map_append, List.length_append, ← Lib.size_eq, ← strCells_b]
    exact ho2
  have hkb : KB B w w2 := ⟨(Below.refl B w).grown hg h.size fun k hk' => (World.ownsRow.lt h.row k hk').1, NB.grown h.row hg⟩
  refine step_append_run w hgd s x _ _ ho vs (.string bs) hs hx v' w2 (by rw [ht]; exact hr) (hk v' w2 ⟨hb2, h.kb.trans hkb, Nat.le_trans h.size hg.size⟩ hg)
theorem step_app_c {w : World} {ops : Array Oper} {o : Oper} {a : Act} {K : Act → World → Prop} {Q : Exit → Act → World → Prop} {E : Prop} (hgd : o.guard = none) (s x : Operand)
    (ho : o.op = .call { callee := .builtin .append, args := #[s, x], argTypes := #[52, 52] }) (ht : o.type = 52) (vs : Value) (H : Nat) (hs : a.eval s = vs) (hx : a.eval x = .slice (some ⟨H, 0, none⟩) 1 1)
    {B : Nat} {wA : World} {zs : List UInt8} (c : UInt8) (h : RI B wA w vs zs) (hc : Blk w H #[bcell c] 5) (hl : zs.length + 1 ≤ 140737488355328)
    (hk : ∀ v' w', RI B wA w' v' (zs ++ [c]) → K (a.put o.dst v') w') :
    if Region.wanted o (yielded ops a.tmps) = true then Oper.wp Tryd.prog o a w K Q else E := by
  obtain ⟨i0, hi, hz0, hz1, hz2⟩ := info_parts5 info_u8
  obtain ⟨g, cap, w2, hr, ho2, hg, _, _⟩ := run_append_lies (P := Tryd.prog) w 52 52 B 5 i0 _ 1 1 Tryd.underlying52 hi hz0 hz1 hz2 rfl (by decide) vs zs.length (zs.map bcell) h.row ⟨H, 0, none⟩ 1 1 [bcell c] rfl
    (World.news_of_block hc) (bcells_one [c]) (by decide) (by unfold maxLen; omega) (by omega) h.size _ rfl
  have hb2 : BRow w2 B (.slice (some ⟨g, 0, none⟩) (zs.length + 1) cap) (zs ++ [c]) := by
    unfold BRow
    rw [List.map_append, List.length_append]
    exact ho2
  have hkb : KB B w w2 := ⟨(Below.refl B w).grown hg h.size fun k hk' => (World.ownsRow.lt h.row k hk').1, NB.grown h.row hg⟩
  refine step_append_run w hgd s x _ _ ho vs _ hs hx _ w2 (by rw [ht]; exact hr) (hk _ w2 ⟨hb2, h.kb.trans hkb, Nat.le_trans h.size hg.size⟩)
end Go.Proofs.YtlnkddmpcicejaaDoor
/-
  What the reference's text answers at an array.
-/
namespace Go.Proofs.YtlnkddmpcicejaaDoor
open Go.RowKit Go.Deep

end Go.Proofs.YtlnkddmpcicejaaDoor
/-
  What the reference's text answers at a dictionary; what its Print answers.
-/
namespace Go.Proofs.YtlnkddmpcicejaaDoor
open Go.RowKit Go.Deep

theorem len_atom (y x C K : Nat) (h : y + x + C ≤ K) : y + C ≤ K := by omega
end Go.Proofs.YtlnkddmpcicejaaDoor
/-
  What the reference's text and Print answer.
-/
namespace Go.Proofs.YtlnkddmpcicejaaDoor
open Go.RowKit Go.Deep

end Go.Proofs.YtlnkddmpcicejaaDoor
