/-
  Two rows of bytes that grow beside one another.
-/
import Derived.Test.YtgmmhlpdkoiheaaDoorS8Row
namespace Go.Proofs.YtgmmhlpdkoiheaaDoor
open Go.RowKit Go.Deep
set_option linter.unusedVariables false

/- what an append to a row of the call's own leaves: the row's block is the old one or a new one, every other block is as it was -/
def Grew (W w2 : World) (B : Nat) (v v' : Value) (ys : List UInt8) : Prop :=
  BRow w2 B v' ys ∧ (v'.ownBlock = v.ownBlock ∨ v'.ownBlock = some W.heap.size) ∧ W.heap.size ≤ w2.heap.size ∧ (∀ k, k < W.heap.size → v.ownBlock ≠ some k → w2.heap[k]? = W.heap[k]?) ∧ Below B W w2
theorem app_s4 {W : World} {B : Nat} {v : Value} {ys : List UInt8} (s : ByteArray) (h : BRow W B v ys) (hB : B ≤ W.heap.size) (hl : ys.length + s.size ≤ 140737488355328) :
    ∃ v' w2, (Builtin.append_ #[45, 9] 45 #[v, .string s]).run Tryd.prog W = .ok v' w2 ∧ Grew W w2 B v v' (ys ++ s.data.toList) := by
  obtain ⟨i0, hi, hz0, hz1, hz2⟩ := info_parts5 info_u8
  obtain ⟨v', w2, hr, ho, hg, hnil⟩ := Lib.run_append_own_string (P := Tryd.prog) W B 45 9 45 5 i0 Tryd.underlying45 Tryd.underlying9 hi hz0 hz1 hz2 v ys.length (ys.map bcell) h s (by unfold maxLen; omega) hl hB
  refine ⟨v', w2, hr, ?_, ?_, hg.size, fun k hk hne => hg.block k hk (Ne.symm hne), (Below.refl B W).grown hg (by omega) fun k hk' => (World.ownsRow.lt h k hk').1⟩
  · unfold BRow
    rw [List.map_append, List.length_append, ← Lib.size_eq, ← strCells_b]
    exact ho
  · obtain ⟨hxl, ⟨rfl, h0⟩ | ⟨g, cap, cur, rfl, hbg, hgc, hnc, hcm, hcs, htake⟩⟩ := h
    · by_cases hm : s.size = 0
      · left
        rw [hnil.2 ⟨rfl, hm⟩]
      · right
        have hr2 := run_append_nil_string (P := Tryd.prog) W 45 9 45 5 i0 (.int .u8 0) Tryd.underlying45 Tryd.underlying9 hi hz0 s (by omega) (by omega) (by rw [hz2]; omega)
        rw [hr] at hr2
        rw [(Result.ok.inj hr2).1]; rfl
    · by_cases hroom : ys.length + s.size ≤ cap
      · left
        have hr2 := Lib.run_append_room_string (P := Tryd.prog) W 45 9 45 5 i0 Tryd.underlying45 Tryd.underlying9 hi hz1 g ys.length cap cur hgc s hroom (by omega)
        rw [hr] at hr2
        rw [(Result.ok.inj hr2).1]; rfl
      · right
        have hc : ∀ j u, (ys.map bcell)[j]? = some u → W.cell? ((⟨g, 0, none⟩ : Addr).add j) = some u := World.ownsRow.cells (g := g) (show W.ownsRow B 5 1 (.slice (some ⟨g, 0, none⟩) ys.length cap) ys.length (ys.map bcell) from ⟨hxl, Or.inr ⟨g, cap, cur, rfl, hbg, hgc, hnc, hcm, hcs, htake⟩⟩) rfl
        have hr2 := Lib.run_append_grow_string (P := Tryd.prog) W 45 9 45 5 i0 (.int .u8 0) Tryd.underlying45 Tryd.underlying9 hi hz0 ⟨g, 0, none⟩ ys.length cap (ys.map bcell) (by rw [hz1]; simp) hc s (by omega) (by omega) (by rw [hz2]; exact growslice_fits (by omega) (by omega))
        rw [hr] at hr2
        rw [(Result.ok.inj hr2).1]; rfl
theorem app_b4 {W : World} {B : Nat} {v : Value} {ys : List UInt8} (news : List UInt8) (h : BRow W B v ys) (hB : B ≤ W.heap.size) (hm : 0 < news.length) (hl : ys.length + news.length ≤ 140737488355328) (H : Nat) (hH : W.heap.size = H) :
    ∃ v' w2, (Builtin.append_ #[45, 45] 45 #[v, .slice (some ⟨H, 0, none⟩) news.length news.length]).run Tryd.prog (W.alloc (.cells (news.map bcell).toArray 5)) = .ok v' w2 ∧
      Grew (W.alloc (.cells (news.map bcell).toArray 5)) w2 B v v' (ys ++ news) := by
  obtain ⟨i0, hi, hz0, hz1, hz2⟩ := info_parts5 info_u8
  subst hH
  have hB' : B ≤ (W.alloc (.cells (news.map bcell).toArray 5)).heap.size := by simp; omega
  obtain ⟨g, cap, w2, hr, ho, hg, hat, _⟩ := run_append_lies (P := Tryd.prog) (W.alloc (.cells (news.map bcell).toArray 5)) 45 45 B 5 i0 _ 1 1 Tryd.underlying45 hi hz0 hz1 hz2 rfl (by decide) v ys.length (ys.map bcell) (World.ownsRow.alloc h _) ⟨W.heap.size, 0, none⟩ news.length news.length (news.map bcell) (by simp)
    (fun j u hu => by rw [Go.WideShapes.add_plain, Nat.zero_add, World.cell?_alloc_at _ _ _ _ rfl]; simpa using hu) (bcells_one _) hm (by unfold maxLen; omega) (by omega) hB' _ rfl
  refine ⟨_, w2, hr, ?_, ?_, hg.size, fun k hk hne => hg.block k hk (Ne.symm hne), (Below.refl B _).grown hg hB' fun k hk' => (World.ownsRow.lt h k hk').1⟩
  · unfold BRow
    rw [List.map_append, List.length_append]
    exact ho
  · rcases hat with hat | hat
    · exact Or.inl (by rw [hat]; rfl)
    · exact Or.inr (by rw [hat]; rfl)
/- zeros that are made are a string of zeros -/
def zeS (k : Nat) : ByteArray := ⟨(List.replicate k (0 : UInt8)).toArray⟩
set_option maxHeartbeats 1000000 in
theorem zeros_0 (base : Option Addr) (sLen sCap : Nat) (w : World) (h1 : sLen ≤ 1000000000000) (h0 : sLen ≤ sCap) (h2 : ¬ sLen + 0 ≤ sCap → Builtin.nextslicecap (sLen + 0) sCap ≤ 281474976710656) :
    (Builtin.append_ #[45, 3] 45 #[.slice base sLen sCap, .int .i64 0]).run Tryd.prog w = (Builtin.append_ #[45, 9] 45 #[.slice base sLen sCap, .string ⟨#[]⟩]).run Tryd.prog w := by
  obtain ⟨i, hi, hz, hs, hb⟩ := info_parts5 info_u8
  have hw : IntKind.i64.wrap (0 : Int) = 0 := by rw [IntKind.wrap_i64]; omega
  have e1 : (Builtin.zeroCells (Value.int IntKind.u8 0).cells 0) = #[] := by kernel_rfl
  have e2 : (ByteArray.mk #[]).size = 0 := rfl
  simp [Builtin.append_, run_underlying Tryd.underlying45, run_underlying Tryd.underlying3, run_underlying Tryd.underlying9, sizeOf, typeInfo, zeroValue, hi, hz, hs, hb, asInt, asIntOf, hw, Builtin.lenOf, e2, h0, Builtin.firstCells, e1]
set_option maxHeartbeats 1000000 in
theorem zeros_1 (base : Option Addr) (sLen sCap : Nat) (w : World) (h1 : sLen ≤ 1000000000000) (h0 : sLen ≤ sCap) (h2 : ¬ sLen + 1 ≤ sCap → Builtin.nextslicecap (sLen + 1) sCap ≤ 281474976710656) :
    (Builtin.append_ #[45, 3] 45 #[.slice base sLen sCap, .int .i64 1]).run Tryd.prog w = (Builtin.append_ #[45, 9] 45 #[.slice base sLen sCap, .string ⟨#[0]⟩]).run Tryd.prog w := by
  obtain ⟨i, hi, hz, hs, hb⟩ := info_parts5 info_u8
  have hw : IntKind.i64.wrap (1 : Int) = 1 := by rw [IntKind.wrap_i64]; omega
  have e1 : (Builtin.zeroCells (Value.int IntKind.u8 0).cells 1) = #[.int .u8 0] := by kernel_rfl
  have e2 : (ByteArray.mk #[0]).size = 1 := rfl
  have n1 : ¬ (9223372036854775807 < ((sLen : Int) + 1)) := by omega
  by_cases hr : sLen + 1 ≤ sCap
  · simp [Builtin.append_, run_underlying Tryd.underlying45, run_underlying Tryd.underlying3, run_underlying Tryd.underlying9, sizeOf, typeInfo, zeroValue, hi, hz, hs, hb, asInt, asIntOf, hw, Builtin.lenOf, e2, hr, Builtin.firstCells, e1]
  · have n2 : ¬ (281474976710656 < Builtin.nextslicecap (sLen + 1) sCap) := by have := h2 hr; omega
    simp [Builtin.append_, run_underlying Tryd.underlying45, run_underlying Tryd.underlying3, run_underlying Tryd.underlying9, sizeOf, typeInfo, zeroValue, hi, hz, hs, hb, asInt, asIntOf, hw, Builtin.lenOf, e2, hr, Builtin.firstCells, e1, n1, n2]
    intro h
    exact absurd h (by omega)
set_option maxHeartbeats 1000000 in
theorem zeros_2 (base : Option Addr) (sLen sCap : Nat) (w : World) (h1 : sLen ≤ 1000000000000) (h0 : sLen ≤ sCap) (h2 : ¬ sLen + 2 ≤ sCap → Builtin.nextslicecap (sLen + 2) sCap ≤ 281474976710656) :
    (Builtin.append_ #[45, 3] 45 #[.slice base sLen sCap, .int .i64 2]).run Tryd.prog w = (Builtin.append_ #[45, 9] 45 #[.slice base sLen sCap, .string ⟨#[0, 0]⟩]).run Tryd.prog w := by
  obtain ⟨i, hi, hz, hs, hb⟩ := info_parts5 info_u8
  have hw : IntKind.i64.wrap (2 : Int) = 2 := by rw [IntKind.wrap_i64]; omega
  have e1 : (Builtin.zeroCells (Value.int IntKind.u8 0).cells 2) = #[.int .u8 0, .int .u8 0] := by kernel_rfl
  have e2 : (ByteArray.mk #[0, 0]).size = 2 := rfl
  have n1 : ¬ (9223372036854775807 < ((sLen : Int) + 2)) := by omega
  by_cases hr : sLen + 2 ≤ sCap
  · simp [Builtin.append_, run_underlying Tryd.underlying45, run_underlying Tryd.underlying3, run_underlying Tryd.underlying9, sizeOf, typeInfo, zeroValue, hi, hz, hs, hb, asInt, asIntOf, hw, Builtin.lenOf, e2, hr, Builtin.firstCells, e1]
  · have n2 : ¬ (281474976710656 < Builtin.nextslicecap (sLen + 2) sCap) := by have := h2 hr; omega
    simp [Builtin.append_, run_underlying Tryd.underlying45, run_underlying Tryd.underlying3, run_underlying Tryd.underlying9, sizeOf, typeInfo, zeroValue, hi, hz, hs, hb, asInt, asIntOf, hw, Builtin.lenOf, e2, hr, Builtin.firstCells, e1, n1, n2]
    intro h
    exact absurd h (by omega)
set_option maxHeartbeats 1000000 in
theorem zeros_3 (base : Option Addr) (sLen sCap : Nat) (w : World) (h1 : sLen ≤ 1000000000000) (h0 : sLen ≤ sCap) (h2 : ¬ sLen + 3 ≤ sCap → Builtin.nextslicecap (sLen + 3) sCap ≤ 281474976710656) :
    (Builtin.append_ #[45, 3] 45 #[.slice base sLen sCap, .int .i64 3]).run Tryd.prog w = (Builtin.append_ #[45, 9] 45 #[.slice base sLen sCap, .string ⟨#[0, 0, 0]⟩]).run Tryd.prog w := by
  obtain ⟨i, hi, hz, hs, hb⟩ := info_parts5 info_u8
  have hw : IntKind.i64.wrap (3 : Int) = 3 := by rw [IntKind.wrap_i64]; omega
  have e1 : (Builtin.zeroCells (Value.int IntKind.u8 0).cells 3) = #[.int .u8 0, .int .u8 0, .int .u8 0] := by kernel_rfl
  have e2 : (ByteArray.mk #[0, 0, 0]).size = 3 := rfl
  have n1 : ¬ (9223372036854775807 < ((sLen : Int) + 3)) := by omega
  by_cases hr : sLen + 3 ≤ sCap
  · simp [Builtin.append_, run_underlying Tryd.underlying45, run_underlying Tryd.underlying3, run_underlying Tryd.underlying9, sizeOf, typeInfo, zeroValue, hi, hz, hs, hb, asInt, asIntOf, hw, Builtin.lenOf, e2, hr, Builtin.firstCells, e1]
  · have n2 : ¬ (281474976710656 < Builtin.nextslicecap (sLen + 3) sCap) := by have := h2 hr; omega
    simp [Builtin.append_, run_underlying Tryd.underlying45, run_underlying Tryd.underlying3, run_underlying Tryd.underlying9, sizeOf, typeInfo, zeroValue, hi, hz, hs, hb, asInt, asIntOf, hw, Builtin.lenOf, e2, hr, Builtin.firstCells, e1, n1, n2]
    intro h
    exact absurd h (by omega)
theorem BRow.cap {w : World} {B : Nat} {v : Value} {ys : List UInt8} (h : BRow w B v ys) : ∃ a cap, v = .slice a ys.length cap ∧ ys.length ≤ cap := by
  obtain ⟨_, ⟨h0, h1⟩ | ⟨g, cap, cur, hv, _, _, hc, _⟩⟩ := h
  · exact ⟨none, 0, by rw [h0, h1], by omega⟩
  · exact ⟨_, cap, hv, hc⟩
theorem app_z4 {W : World} {B : Nat} {v : Value} {ys : List UInt8} (k : Nat) (h : BRow W B v ys) (hB : B ≤ W.heap.size) (hk : k ≤ 3) (hl : ys.length ≤ 1000000000) :
    ∃ v' w2, (Builtin.append_ #[45, 3] 45 #[v, .int .i64 (k : Int)]).run Tryd.prog W = .ok v' w2 ∧ Grew W w2 B v v' (ys ++ List.replicate k 0) := by
  have e2 : (zeS k).size = k := by rw [Lib.size_eq]; simp [zeS]
  obtain ⟨v', w2, hr, hg⟩ := app_s4 (zeS k) h hB (by rw [e2]; omega)
  obtain ⟨a, cap, rfl, hcap⟩ := h.cap
  refine ⟨v', w2, ?_, hg⟩
  have hf : ∀ m, ¬ ys.length + m ≤ cap → m ≤ 3 → Builtin.nextslicecap (ys.length + m) cap ≤ 281474976710656 := fun m hn hm => by
    have h := growslice_fits (need := ys.length + m) (old := cap) (bytes := 1) (by omega) (by omega)
    omega
  rcases (show k = 0 ∨ k = 1 ∨ k = 2 ∨ k = 3 by omega) with rfl | rfl | rfl | rfl
  · exact (zeros_0 a ys.length cap W (by omega) hcap (fun hn => hf 0 hn (by omega))).trans hr
  · exact (zeros_1 a ys.length cap W (by omega) hcap (fun hn => hf 1 hn (by omega))).trans hr
  · exact (zeros_2 a ys.length cap W (by omega) hcap (fun hn => hf 2 hn (by omega))).trans hr
  · exact (zeros_3 a ys.length cap W (by omega) hcap (fun hn => hf 3 hn (by omega))).trans hr
/- no block is both rows' -/
def Apart (v v' : Value) : Prop := ∀ k, v.ownBlock = some k → v'.ownBlock ≠ some k
structure B2 (w u : World) (v1 v2 : Value) (y1 y2 : List UInt8) : Prop where
  i1 : BRow u w.heap.size v1 y1
  i2 : BRow u w.heap.size v2 y2
  ap : Apart v1 v2
  low : Below w.heap.size w u
theorem BRow.keep {w w' : World} {B : Nat} {v : Value} {ys : List UInt8} (h : BRow w B v ys) (hk : ∀ k, v.ownBlock = some k → k < w.heap.size → w'.heap[k]? = w.heap[k]?) : BRow w' B v ys := by
  obtain ⟨h1, h2 | ⟨g, cap, cur, hv, hg, hh, hr⟩⟩ := h
  · exact ⟨h1, Or.inl h2⟩
  · have hlt : g < w.heap.size := by
      rcases Nat.lt_or_ge g w.heap.size with h | h
      · exact h
      · rw [Array.getElem?_eq_none h] at hh; simp at hh
    exact ⟨h1, Or.inr ⟨g, cap, cur, hv, hg, by rw [hk g (by rw [hv]; rfl) hlt]; exact hh, hr⟩⟩
theorem B2.swap {w u : World} {v1 v2 : Value} {y1 y2 : List UInt8} (h : B2 w u v1 v2 y1 y2) : B2 w u v2 v1 y2 y1 := ⟨h.i2, h.i1, fun k h1 h2 => h.ap k h2 h1, h.low⟩
theorem B2.later {w u u' : World} {v1 v2 : Value} {y1 y2 : List UInt8} (h : B2 w u v1 v2 y1 y2) (hb : Below u.heap.size u u') : B2 w u' v1 v2 y1 y2 :=
  ⟨h.i1.later hb, h.i2.later hb, h.ap, h.low.trans (hb.mono h.low.size)⟩
theorem B2.grew {w u w2 : World} {v1 v2 v' : Value} {y1 y2 ys : List UInt8} (h : B2 w u v1 v2 y1 y2) (hg : Grew u w2 w.heap.size v1 v' ys) : B2 w w2 v' v2 ys y2 := by
  obtain ⟨h1, h2, h3, h4, h5⟩ := hg
  refine ⟨h1, h.i2.keep (fun k hk hl => h4 k hl (fun e => h.ap k e hk)), fun k e1 e2 => ?_, h.low.trans h5⟩
  rcases h2 with h2 | h2
  · rw [h2] at e1; exact h.ap k e1 e2
  · rw [h2] at e1
    injection e1 with e1
    have := (World.ownsRow.lt h.i2 k e2).2
    omega
end Go.Proofs.YtgmmhlpdkoiheaaDoor
