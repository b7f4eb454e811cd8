/-
  What utf.appendUnit and utf.Wide answer.
-/
import Derived.Test.YtncmkiejamkklaaDoorU4Enc
import Derived.Deep.AppendSrc
import Derived.Deep.Draws
import Derived.Lib.AppendZeros
import Derived.Lib.SlBytesConst
namespace Go.Proofs.YtncmkiejamkklaaDoor
open Go.RowKit

/- the row that the mark's conversion leaves -/
def Mark (w : World) (B : Nat) (v : Value) (ys : List UInt8) : Prop :=
  ys = [254, 255] ∧ ∃ g, B ≤ g ∧ v = .slice (some ⟨g, 0, none⟩) 2 2 ∧ w.heap[g]? = some (.cells #[.int .u8 254, .int .u8 255] 5 (2, 3))
theorem Mark.cell {w : World} {B : Nat} {v : Value} {ys : List UInt8} (h : Mark w B v ys) : ∃ g, B ≤ g ∧ g < w.heap.size ∧ v = .slice (some ⟨g, 0, none⟩) 2 2 ∧ ys = [254, 255] ∧ w.cell? ⟨g, 0, none⟩ = some (bcell 254) ∧ w.cell? ⟨g, 1, none⟩ = some (bcell 255) := by
  obtain ⟨h1, g, hg, hv, hh⟩ := h
  refine ⟨g, hg, ?_, hv, h1, ?_, ?_⟩
  · rcases Nat.lt_or_ge g w.heap.size with h | h
    · exact h
    · rw [Array.getElem?_eq_none h] at hh; simp at hh
  · unfold World.cell?; rw [hh]; rfl
  · unfold World.cell?; rw [hh]; rfl
def Buf (w : World) (B : Nat) (v : Value) (ys : List UInt8) : Prop := BRow w B v ys ∨ Mark w B v ys
theorem Buf.text {w : World} {B : Nat} {v : Value} {ys : List UInt8} (h : Buf w B v ys) :
    (convert 52 9 v).run Tryd.prog w = .ok (.string ⟨ys.toArray⟩) w := by
  rcases h with h | h
  · exact h.text
  · obtain ⟨g, _, _, rfl, rfl, c0, c1⟩ := h.cell
    refine run_convert_bytes_back (P := Tryd.prog) w 52 9 5 ⟨g, 0, none⟩ 2 [254, 255] Tryd.underlying52 Tryd.underlying5 Tryd.underlying9 ?_
    intro k hk
    match k, hk with
    | 0, _ => rw [Go.WideShapes.add_plain, Nat.zero_add, c0]; rfl
    | 1, _ => rw [Go.WideShapes.add_plain, Nat.zero_add, c1]; rfl
theorem bcell_bt' (n : Nat) (h : n < 256) (x : Int) (hx : x = (n : Int)) : Value.int .u8 x = bcell (bt n) := by
  unfold bcell
  rw [bt_nat n h, hx]

/- two bytes behind the mark: the row grows into a new one -/
theorem append_mark (w : World) (g : Nat) (x0 x1 : Value) (b0 b1 : UInt8) (h0 : x0 = bcell b0) (h1 : x1 = bcell b1) (hg : g < w.heap.size) (c0 : w.cell? ⟨g, 0, none⟩ = some (bcell 254)) (c1 : w.cell? ⟨g, 1, none⟩ = some (bcell 255)) :
    ∃ v' w', (Builtin.append_ #[52, 52] 52 #[.slice (some ⟨g, 0, none⟩) 2 2, .slice (some ⟨w.heap.size, 0, none⟩) 2 2]).run Tryd.prog (w.alloc (.cells #[x0, x1] 5)) = .ok v' w' ∧
      BRow w' w.heap.size v' ([254, 255] ++ [b0, b1]) ∧ Below w.heap.size w w' := by
  obtain ⟨i0, hi, hz0, hz1, hz2⟩ := info_parts info_u8
  subst h0 h1
  have hs : Src Tryd.prog i0.size 52 (.slice (some ⟨w.heap.size, 0, none⟩) 2 2) 2 [bcell b0, bcell b1] (w.alloc (.cells #[bcell b0, bcell b1] 5)) := by
    refine Src.ofSlice (w.alloc (.cells #[bcell b0, bcell b1] 5)) Tryd.underlying52 ⟨w.heap.size, 0, none⟩ 2 2 _ (by rw [hz1]; rfl) ?_ ?_
    · intro j u hu
      rw [Go.WideShapes.add_plain, Nat.zero_add, World.cell?_alloc_at _ _ _ _ rfl]
      simpa using hu
    · intro u hu
      simp at hu
      rcases hu with rfl | rfl <;> rfl
  have hf : (Builtin.firstCells i0.size 2 (.slice (some ⟨g, 0, none⟩) 2 2)).run Tryd.prog (w.alloc (.cells #[bcell b0, bcell b1] 5)).drew = .ok [bcell 254, bcell 255].toArray (w.alloc (.cells #[bcell b0, bcell b1] 5)).drew := by
    refine run_firstCells_some _ i0.size 2 _ 2 2 [bcell 254, bcell 255] (by rw [hz1]; rfl) ?_
    intro j u hu
    show (w.alloc (.cells #[bcell b0, bcell b1] 5)).cell? _ = _
    rw [Go.WideShapes.add_plain, Nat.zero_add, World.cell?_alloc_lt _ _ _ hg]
    match j, hu with
    | 0, hu => simp at hu; rw [c0, hu]
    | 1, hu => simp at hu; rw [c1, hu]
  have hr := run_append_grow_src (P := Tryd.prog) (w.alloc (.cells #[bcell b0, bcell b1] 5)) 52 52 52 5 i0 (.int .u8 0) Tryd.underlying52 hi hz0 (some ⟨g, 0, none⟩) 2 2 [bcell 254, bcell 255] hf _ 2 _ hs (by omega) (by omega)
    (by rw [hz2]; have := growslice_fits (need := 2 + 2) (old := 2) (bytes := 1) (by omega) (by omega); exact this)
  refine ⟨_, _, hr, ?_, ?_⟩
  · have hcl := grownCap_le_maxLen (w.alloc (.cells #[bcell b0, bcell b1] 5)) 4 2 5 (by simp only [maxLen]; omega)
    have hcg := grownCap_ge (w.alloc (.cells #[bcell b0, bcell b1] 5)) 4 2 5
    unfold BRow
    refine ⟨by simp, Or.inr ⟨_, _, _, rfl, by simp, heap_alloc_new _ _, hcg, hcl, ?_, ?_⟩⟩
    · rw [Array.size_append, size_zeroCells]
      simp [Value.cells]
      omega
    · simp
  · exact (((Below.refl _ _).alloc (Nat.le_refl _) _).drew).alloc (by simp) _

theorem unit_plain (B u Q M : Nat) (v : Value) (ys : List UInt8) (w : World) (h : u ≤ 65535) (hQ : u / 256 = Q) (hM : u % 256 = M) (hr : BRow w B v ys) (hB : B ≤ w.heap.size) (hl : ys.length ≤ 1000000) :
    Calls Tryd.prog 34 #[v, .int .i64 u] w fun e w' => ∃ v', e = .returned v' ∧ BRow w' B v' (ys ++ [bt Q, bt M]) ∧ Below B w w' := by
  have h1 : (u : Int) ≤ 65535 := by omega
  have e1 : (u : Int) / 256 = (Q : Int) := by omega
  have e2 : IntKind.u8.wrap (u : Int) = (M : Int) := by rw [IntKind.wrap_u8]; omega
  have q1 : (Q : Int) ≤ 255 := by omega
  have m1 : (M : Int) ≤ 255 := by omega
  have HC := hide (show Value.int .u8 (Q : Int) = bcell (bt Q) ∧ Value.int .u8 (M : Int) = bcell (bt M) from ⟨bcell_bt' Q (by omega) _ rfl, bcell_bt' M (by omega) _ rfl⟩)
  obtain ⟨i0, hi, hz0, hz1, hz2⟩ := info_parts info_u8
  have HI := hide hi
  have HI0 := hide hz0
  have HI1 := hide hz1
  have HI2 := hide hz2
  have HR := hide hr
  have HBW := hide hB
  have HLL := hide hl
  clear hi hz0 hz1 hz2 hr h hQ hM hB hl
  go_enter Tryd.func34, Tryd.ntmps34
  go_wp2_with (at_builtin; refine wpList_append_own _ rfl _ _ 52 rfl B 5 i0 (.int .u8 0) 1 1 Tryd.underlying52 HI.out HI0.out HI1.out HI2.out rfl (by decide) _ _ _ rfl (World.ownsRow.alloc HR.out _) ⟨w.heap.size, 0, none⟩ 2 2 [.int .u8 (Q : Int), .int .u8 (M : Int)] rfl rfl ?d1 ?d2 ?d3 ?d4 ?d5 ?_)
  case d1 =>
    intro j u hj
    match j, hj with
    | 0, hj => simp at hj; subst hj; simp [Addr.add]
    | 1, hj => simp at hj; subst hj; simp [Addr.add]
  case d2 => intro u hu; simp at hu; rcases hu with rfl | rfl <;> rfl
  case d3 => have := HLL.out; unfold maxLen; omega
  case d4 => have := HLL.out; omega
  case d5 => simp; have := HBW.out; omega
  intro v2 w2 hown2 hgrow2 _
  have HB2 := hide (show Below B w w2 from ((Below.refl _ _).alloc HBW.out _).grown hgrow2 (by simp; have := HBW.out; omega) (fun k hk => (World.ownsRow.lt HR.out k hk).1))
  have HO2 := hide (show BRow w2 B v2 (ys ++ [bt Q, bt M]) by
    unfold BRow
    rw [HC.out.1, HC.out.2] at hown2
    rw [List.map_append, List.length_append]
    exact hown2)
  clear hown2 hgrow2
  go_wp2
  go_ret
  exact ⟨_, rfl, HO2.out, HB2.out⟩
theorem unit_mark (u Q M g : Nat) (w : World) (h : u ≤ 65535) (hQ : u / 256 = Q) (hM : u % 256 = M) (hg : g < w.heap.size) (c0 : w.cell? ⟨g, 0, none⟩ = some (bcell 254)) (c1 : w.cell? ⟨g, 1, none⟩ = some (bcell 255)) :
    Calls Tryd.prog 34 #[.slice (some ⟨g, 0, none⟩) 2 2, .int .i64 u] w fun e w' => ∃ v', e = .returned v' ∧ BRow w' w.heap.size v' ([254, 255] ++ [bt Q, bt M]) ∧ Below w.heap.size w w' := by
  have h1 : (u : Int) ≤ 65535 := by omega
  have e1 : (u : Int) / 256 = (Q : Int) := by omega
  have e2 : IntKind.u8.wrap (u : Int) = (M : Int) := by rw [IntKind.wrap_u8]; omega
  have q1 : (Q : Int) ≤ 255 := by omega
  have m1 : (M : Int) ≤ 255 := by omega
  obtain ⟨v', w', hr, hR, hb⟩ := append_mark w g (.int .u8 (Q : Int)) (.int .u8 (M : Int)) (bt Q) (bt M) (bcell_bt' Q (by omega) _ rfl) (bcell_bt' M (by omega) _ rfl) hg c0 c1
  have HR := hide hr
  have HO := hide hR
  have HB := hide hb
  clear h hQ hM c0 c1 hr hR hb hg
  go_enter Tryd.func34, Tryd.ntmps34
  go_wp2_with (at_builtin; refine Lib.wpList_append_run _ rfl _ _ _ _ rfl _ _ rfl rfl _ _ HR.out ?_)
  go_ret
  exact ⟨_, rfl, HO.out, HB.out⟩
end Go.Proofs.YtncmkiejamkklaaDoor
