/-
  Rows of bytes that are plain or bear a mark behind their end (made by []byte of a text): a text appended to them, the text of them.
-/
import Derived.Test.YtkdnoemakclmdaaM9Sh
import Derived.Test.YtkdnoemakclmdaaM9Sam
import Derived.Lib.AppendStr
import Derived.Lib.ConvBytes
namespace Go.Proofs.Ytkdnoemakclmdaa
open Go.RowKit Go.Deep
set_option linter.unusedVariables false
def stc (g : Nat) : World → Nat → List Value → World
  | w, _, [] => w
  | w, o, v :: r => stc g (w.setCell ⟨g, o, none⟩ v) (o + 1) r
theorem set_marked {w : World} {g : Nat} {cur : Array Value} {t : TypeId} {fz : Nat × Nat} (h : w.heap[g]? = some (.cells cur t fz)) (o : Nat) (v : Value) : (w.setCell ⟨g, o, none⟩ v).heap[g]? = some (.cells (cur.setIfInBounds o v) t fz) := by
  simp [World.setCell, Array.getElem?_modify, h]
theorem store_marked (g o : Nat) (t : TypeId) (m : Nat) : ∀ (vs : List Value) (i : Nat) (w : World) (cur : Array Value), w.heap[g]? = some (.cells cur t (m, m + 1)) → o + i + vs.length ≤ m → m ≤ cur.size → (∀ v ∈ vs, v.oneCell' = true) →
    (storeCells ⟨g, o, none⟩ vs i).run Try.prog w = .ok () (stc g w (o + i) vs)
  | [], _, _, _, _, _, _, _ => rfl
  | v :: r, i, w, cur, hg, hl, hm, h1 => by
    rw [List.length_cons] at hl
    have hc : w.cell? ⟨g, o + i, none⟩ = some (cur[o + i]'(by omega)) := by
      unfold World.cell?
      simp [hg]
    have hf : w.frozen? ⟨g, o + i, none⟩ = false := by
      unfold World.frozen?
      simp [hg]
      omega
    have hs : (store ((⟨g, o, none⟩ : Addr).add i) v).run Try.prog w = .ok () (w.setCell ⟨g, o + i, none⟩ v) := by
      rw [Go.WideShapes.add_plain, run_store Try.prog w _ v _ (h1 v (by simp)), hc]
      simp [hf]
    have ih := store_marked g o t m r (i + 1) _ _ (set_marked hg (o + i) v) (by omega) (by simpa using hm) (fun x hx => h1 x (by simp [hx]))
    simp only [storeCells, Sem.run_bind, hs, Result.andThen_ok, ih]
    rfl
theorem stc_at (g : Nat) (t : TypeId) (fz : Nat × Nat) : ∀ (vs : List Value) (o : Nat) (w : World) (cur : Array Value), w.heap[g]? = some (.cells cur t fz) → o + vs.length ≤ cur.size →
    ∃ cur', (stc g w o vs).heap[g]? = some (.cells cur' t fz) ∧ cur'.size = cur.size ∧ cur'.toList.take (o + vs.length) = cur.toList.take o ++ vs
  | [], o, w, cur, hg, _ => ⟨cur, hg, rfl, by simp⟩
  | v :: r, o, w, cur, hg, hl => by
    rw [List.length_cons] at hl
    obtain ⟨c, h1, h2, h3⟩ := stc_at g t fz r (o + 1) _ _ (set_marked hg o v) (by simp; omega)
    refine ⟨c, h1, by rw [h2]; simp, ?_⟩
    rw [List.length_cons, show o + (r.length + 1) = o + 1 + r.length by omega, h3, Array.toList_setIfInBounds, List.take_add_one, List.take_set_of_le (Nat.le_refl _), List.getElem?_set_self (by simp; omega)]
    simp
theorem stc_else (g : Nat) : ∀ (vs : List Value) (o : Nat) (w : World) (k : Nat), k ≠ g → (stc g w o vs).heap[k]? = w.heap[k]?
  | [], _, _, _, _ => rfl
  | v :: r, o, w, k, hk => by
    rw [stc, stc_else g r (o + 1) _ k hk]
    exact Below.heap_setCell _ _ _ _ hk
def MkRow (w : World) (B : Nat) (v : Value) (ys : List UInt8) : Prop := ∃ (g cap : Nat) (cur : Array Value), v = .slice (some ⟨g, 0, none⟩) ys.length cap ∧ B ≤ g ∧ w.heap[g]? = some (.cells cur 5 (cap, cap + 1)) ∧ ys.length ≤ cap ∧ cap ≤ maxLen ∧ cur.size = cap ∧ cur.toList.take ys.length = ys.map bcell
theorem app_room {w : World} {g cap : Nat} {cur : Array Value} (n : Nat) (s : ByteArray) (hg : w.heap[g]? = some (.cells cur 5 (cap, cap + 1))) (hc : cur.size = cap) (hr : n + s.size ≤ cap) :
    (Builtin.append_ #[35, 9] 35 #[.slice (some ⟨g, 0, none⟩) n cap, .string s]).run Try.prog w = .ok (.slice (some ⟨g, 0, none⟩) (n + s.size) cap) (stc g w n (Lib.strCells s)) := by
  obtain ⟨i0, hi, hz0, hz1, hz2⟩ := info_parts5 info_u8
  have hst := store_marked g n 5 cap (Lib.strCells s) 0 w cur hg (by rw [Lib.strCells_length]; omega) (by omega) (Lib.strCells_oneCell s)
  have hf := Lib.run_firstCells_string (P := Try.prog) w 1 s
  rw [Nat.add_zero] at hst
  simp [Builtin.append_, run_underlying Try.underlying35, run_underlying Try.underlying9, sizeOf, typeInfo, hi, hz1, Builtin.lenOf, hr, hf, Addr.add_lit, hst]
theorem stc_kb (g B : Nat) (hB : B ≤ g) : ∀ (vs : List Value) (o : Nat) (w : World) (cur : Array Value) (fz : Nat × Nat), w.heap[g]? = some (.cells cur 5 fz) → KB B w (stc g w o vs)
  | [], _, w, _, _, _ => KB.refl _ _
  | v :: r, o, w, cur, fz, h => by
    have h1 : KB B w (w.setCell ⟨g, o, none⟩ v) := ⟨(Below.refl B w).setCell (p := ⟨g, o, none⟩) hB _, ⟨by simp [World.setCell], fun k hk hn => by
      by_cases e : k = g
      · subst e
        exact absurd h (hn cur fz)
      · exact Below.heap_setCell _ _ _ _ e⟩⟩
    exact h1.trans (stc_kb g B hB r (o + 1) _ _ fz (set_marked h o v))
def XRow (w : World) (B : Nat) (v : Value) (ys : List UInt8) : Prop := BRow w B v ys ∨ MkRow w B v ys
theorem app_x {W : World} {B : Nat} {v : Value} {ys : List UInt8} (s : ByteArray) (h : XRow W B v ys) (hB : B ≤ W.heap.size) (hl : ys.length + s.size ≤ 140737488355328) :
    ∃ v' w2, (Builtin.append_ #[35, 9] 35 #[v, .string s]).run Try.prog W = .ok v' w2 ∧ XRow w2 B v' (ys ++ s.data.toList) ∧ KB B W w2 := by
  rcases h with h | ⟨g, cap, cur, rfl, hg, hh, hc, hm, hs, ht⟩
  · obtain ⟨v', w2, a, b, c⟩ := app_s3 s h hB hl
    exact ⟨v', w2, a, Or.inl b, c⟩
  · have hsl : s.data.toList.length = s.size := (Lib.size_eq s).symm
    by_cases hr : ys.length + s.size ≤ cap
    · obtain ⟨c', h1, h2, h3⟩ := stc_at g 5 _ (Lib.strCells s) ys.length W cur hh (by rw [Lib.strCells_length]; omega)
      rw [Lib.strCells_length, ht, strCells_b, ← List.map_append] at h3
      have el : (ys ++ s.data.toList).length = ys.length + s.size := by rw [List.length_append, hsl]
      refine ⟨_, _, app_room ys.length s hh hs hr, Or.inr ⟨g, cap, c', by rw [el], hg, h1, by rw [el]; exact hr, hm, by omega, by rw [el]; exact h3⟩, stc_kb g B hg _ _ _ _ _ hh⟩
    · obtain ⟨i0, hi, hz0, hz1, hz2⟩ := info_parts5 info_u8
      have hcell : ∀ j u, (ys.map bcell)[j]? = some u → W.cell? ((⟨g, 0, none⟩ : Addr).add j) = some u := by
        intro j u hu
        rw [← ht, List.getElem?_take] at hu
        rw [Go.WideShapes.add_plain, Nat.zero_add]
        unfold World.cell?
        simp only [hh]
        split at hu
        · simpa using hu
        · cases hu
      have hgr := Lib.run_append_grow_string (P := Try.prog) W 35 9 35 5 i0 (.int .u8 0) Try.underlying35 Try.underlying9 hi hz0 ⟨g, 0, none⟩ ys.length cap (ys.map bcell) (by rw [hz1]; simp) hcell s (by omega) (by omega) (by rw [hz2]; exact growslice_fits (by omega) (by omega))
      have hge := grownCap_ge W (ys.length + s.size) cap 5
      have hcm : grownCap W (ys.length + s.size) cap 5 ≤ maxLen := grownCap_le_maxLen W (ys.length + s.size) cap 5 (by unfold maxLen; omega)
      refine ⟨_, _, hgr, Or.inl ⟨by simp, Or.inr ⟨W.heap.size, _, _, by rw [List.length_append, hsl], hB, heap_alloc_new W.drew _, by rw [List.length_append, hsl]; exact hge, hcm, ?_, ?_⟩⟩, ⟨(Below.refl B W).drew.alloc hB _, ⟨by simp, fun k hk _ => Below.heap_alloc W.drew _ _ hk⟩⟩⟩
      · have e1 : (Value.int IntKind.u8 0).cells.size = 1 := rfl
        simp only [Array.size_append, List.size_toArray, size_zeroCells, e1, List.length_map, Lib.strCells_length]
        omega
      · have e2 : (ys ++ s.data.toList).length * 1 = (ys.map bcell ++ Lib.strCells s).length := by simp [Lib.strCells_length, hsl]
        rw [e2]
        simp only [Array.toList_append]
        rw [List.take_append_of_le_length (by simp), List.take_of_length_le (by simp), strCells_b, List.map_append]
theorem bytes_mk (w : World) (s : ByteArray) (hl : s.size ≤ 140737488355328) : MkRow (Lib.bytesWorld w 5 s) w.heap.size (.slice (some ⟨w.heap.size, 0, none⟩) s.size (grownCap w s.size 0 5)) s.data.toList := by
  have hge := grownCap_ge w s.size 0 5
  have hcm : grownCap w s.size 0 5 ≤ maxLen := grownCap_le_maxLen w s.size 0 5 (by unfold maxLen; omega)
  have hsl : s.data.toList.length = s.size := (Lib.size_eq s).symm
  have hsz : (Lib.bytesCells w 5 s).size = grownCap w s.size 0 5 := by
    unfold Lib.bytesCells
    rw [Array.size_append, Array.size_map, Array.size_replicate]
    show s.size + _ = _
    omega
  have hh := Lib.bytesWorld_at_new w 5 s
  rw [hsz] at hh
  refine ⟨w.heap.size, _, _, by rw [hsl], Nat.le_refl _, hh, by omega, hcm, hsz, ?_⟩
  unfold Lib.bytesCells
  rw [Array.toList_append, Array.toList_map, List.take_append_of_le_length (by simp), List.take_of_length_le (by simp)]
  rfl
theorem bytes_kb (w : World) (s : ByteArray) : Below w.heap.size w (Lib.bytesWorld w 5 s) := ⟨rfl, rfl, rfl, by rw [Lib.bytesWorld_size]; omega, fun k hk => Lib.bytesWorld_at_old w _ s k hk⟩
theorem XRow.text {w : World} {B : Nat} {v : Value} {ys : List UInt8} (h : XRow w B v ys) : (convert 35 9 v).run Try.prog w = .ok (.string ⟨ys.toArray⟩) w := by
  rcases h with h | ⟨g, cap, cur, rfl, hg, hh, hc, hm, hs, ht⟩
  · exact BRow.text h
  · refine run_convert_bytes_back (P := Try.prog) w 35 9 5 ⟨g, 0, none⟩ cap ys Try.underlying35 Try.underlying5 Try.underlying9 ?_
    intro k hk
    have hu : (ys.map bcell)[k]? = some (bcell ys[k]) := by rw [List.getElem?_map, List.getElem?_eq_getElem hk]; rfl
    rw [← ht, List.getElem?_take_of_lt hk] at hu
    rw [Go.WideShapes.add_plain, Nat.zero_add]
    unfold World.cell?
    simp only [hh]
    simpa [bcell] using hu
theorem XRow.later {w w' : World} {B : Nat} {v : Value} {ys : List UInt8} (h : XRow w B v ys) (hb : Below w.heap.size w w') : XRow w' B v ys := by
  rcases h with h | ⟨g, cap, cur, hv, hg, hh, hr⟩
  · exact Or.inl (ownsRow_kept h (fun k _ hk => hb.block k hk))
  · have hlt : g < w.heap.size := by
      rcases Nat.lt_or_ge g w.heap.size with h | h
      · exact h
      · rw [Array.getElem?_eq_none h] at hh; simp at hh
    exact Or.inr ⟨g, cap, cur, hv, hg, by rw [hb.block g hlt]; exact hh, hr⟩
theorem XRow.shape {w : World} {B : Nat} {v : Value} {ys : List UInt8} (h : XRow w B v ys) : ∃ a c, v = .slice a ys.length c := by
  rcases h with h | ⟨g, cap, cur, hv, _⟩
  · obtain ⟨a, c, rfl⟩ := h.shape
    exact ⟨a, c, rfl⟩
  · exact ⟨_, _, hv⟩
end Go.Proofs.Ytkdnoemakclmdaa
