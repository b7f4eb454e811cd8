/-
  Joined: P6Dg, P6Ts, P6Tn, P6Mk, P6Mr, P6Mx, P6Mc, P6Dc, P6Tl.
-/
import Derived.Test.YtlnkddmpcicejaaDoorQC
import Derived.Lib.ItoaMem
import Derived.Test.YtlnkddmpcicejaaDoorBE
import Derived.Lib.AppendStr
import Derived.Lib.ConvBytes
import Derived.Test.YtlnkddmpcicejaaDoorBC
/-
  The last j digits of a number; ten digits are tenT. Pure.
-/
namespace Go.Proofs.YtlnkddmpcicejaaDoor
open Go.RowKit Go.Deep
set_option linter.unusedVariables false

def dg : Nat → Nat → List UInt8
  | 0, _ => []
  | j + 1, n => dg j (n / 10) ++ [UInt8.ofNat (48 + n % 10)]
theorem dg_len : ∀ j n, (dg j n).length = j
  | 0, _ => rfl
  | j + 1, n => by rw [dg, List.length_append, dg_len j]; rfl
theorem dg_zero : ∀ j, dg j 0 = List.replicate j 48
  | 0 => rfl
  | j + 1 => by rw [dg, Nat.zero_div, dg_zero j, List.replicate_succ']; rfl
/- one digit more, ahead -/
theorem dg_cons : ∀ j n, dg (j + 1) n = UInt8.ofNat (48 + n / 10 ^ j % 10) :: dg j n
  | 0, n => by simp [dg]
  | j + 1, n => by
    rw [dg, dg_cons j (n / 10), dg, List.cons_append, Nat.div_div_eq_div_mul, Nat.pow_succ, Nat.mul_comm 10]
theorem dg_dec : ∀ j n, 1 ≤ j → n < 10 ^ j → (Lib.decDigits n).length ≤ j ∧ dg j n = List.replicate (j - (Lib.decDigits n).length) 48 ++ Lib.decDigits n
  | 0, _, h, _ => by omega
  | j + 1, n, _, h => by
    rw [dg]
    by_cases h10 : n < 10
    · have e : Lib.decDigits n = [UInt8.ofNat (48 + n)] := by rw [Lib.decDigits, dif_pos h10]
      rw [e, Nat.div_eq_of_lt h10, Nat.mod_eq_of_lt h10, dg_zero]
      simp
    · have e : Lib.decDigits n = Lib.decDigits (n / 10) ++ [UInt8.ofNat (48 + n % 10)] := by rw [Lib.decDigits, dif_neg h10]
      have hj : 1 ≤ j := by
        rcases Nat.eq_zero_or_pos j with h0 | h0
        · subst h0; simp at h; omega
        · exact h0
      obtain ⟨h1, h2⟩ := dg_dec j (n / 10) hj (by rw [Nat.pow_succ] at h; omega)
      rw [e, h2, List.length_append, List.length_singleton, Nat.add_sub_add_right, List.append_assoc]
      exact ⟨by omega, rfl⟩
theorem ten_dg (n : Nat) (h : n < 10000000000) : tenT (n : Int) = dg 10 n := by
  unfold tenT
  rw [Lib.itoa_nonneg]
  exact (dg_dec 10 n (by omega) h).2.symm
end Go.Proofs.YtlnkddmpcicejaaDoor
/-
  The reference's Ten, walked.
-/
namespace Go.Proofs.YtlnkddmpcicejaaDoor
open Go.RowKit Go.Deep
set_option linter.unusedVariables false

theorem nought_digit (d : Nat) (h : d < 10) : bcell (UInt8.ofNat (48 + d)) = .int .u8 (48 + (d : Int)) := by
  unfold bcell
  have : (UInt8.ofNat (48 + d)).toNat = 48 + d := by
    rw [UInt8.toNat_ofNat']
    omega
  rw [this]
  congr 1
/- a row that was made out of a constant: its block bears a mark behind its end -/
def TRow (w : World) (b : Nat) (ys : List UInt8) : Prop := w.heap[b]? = some (.cells (ys.map bcell).toArray 5 (ys.length, ys.length + 1))
theorem TRow.cell {w : World} {b : Nat} {ys : List UInt8} (h : TRow w b ys) (i : Nat) (hi : i < ys.length) : w.cell? ⟨b, i, none⟩ = some (bcell (ys.getD i 0)) := by
  unfold TRow at h
  unfold World.cell?
  simp [h, List.getElem?_eq_getElem hi, List.getD_eq_getElem?_getD]
theorem TRow.frozen {w : World} {b : Nat} {ys : List UInt8} (h : TRow w b ys) (i : Nat) (hi : i < ys.length) : w.frozen? ⟨b, i, none⟩ = false := by
  unfold TRow at h
  unfold World.frozen?
  simp [h]
  omega
theorem TRow.set {w : World} {b : Nat} {ys : List UInt8} (h : TRow w b ys) (i : Nat) (y : UInt8) : TRow (w.setCell ⟨b, i, none⟩ (bcell y)) b (ys.set i y) := by
  unfold TRow at *
  simp [World.setCell, Array.getElem?_modify, h]
theorem TRow.text {w : World} {b cap : Nat} {ys : List UInt8} (h : TRow w b ys) : (convert 52 9 (.slice (some ⟨b, 0, none⟩) ys.length cap)).run Tryd.prog w = .ok (.string ⟨ys.toArray⟩) w := by
  refine run_convert_bytes_back (P := Tryd.prog) w 52 9 5 ⟨b, 0, none⟩ cap ys Tryd.underlying52 Tryd.underlying5 Tryd.underlying9 ?_
  intro k hk
  rw [Go.WideShapes.add_plain, Nat.zero_add, h.cell k hk, List.getD_eq_getElem?_getD, List.getElem?_eq_getElem hk]
  rfl
theorem conv_const (w : World) (ys : List UInt8) (n c : Nat) :
    (convert 52 52 (.slice (some ⟨w.heap.size, 0, none⟩) n c)).run Tryd.prog (w.alloc (.cells (ys.map bcell).toArray 5)) = .ok (.slice (some ⟨w.heap.size, 0, none⟩) n c) ((w.alloc (.cells (ys.map bcell).toArray 5)).freeze ⟨w.heap.size, ys.length, none⟩ 1) := by
  have hsh : (w.alloc (.cells (ys.map bcell).toArray 5)).shape? w.heap.size = some (5, ys.length) := by
    simp [World.shape?, World.alloc, -World.alloc_eq]
  simp [convert, run_underlying Tryd.underlying52, run_underlying Tryd.underlying5, markStringish, Result.andThen, hsh, -World.alloc_eq]
theorem const_row (w : World) (ys : List UInt8) : TRow ((w.alloc (.cells (ys.map bcell).toArray 5)).freeze ⟨w.heap.size, ys.length, none⟩ 1) w.heap.size ys := by
  unfold TRow
  simp [World.freeze, World.alloc, -World.alloc_eq]
  rw [Array.getElem_modify_self]
  simp
theorem const_below (w : World) (ys : List UInt8) : Below w.heap.size w ((w.alloc (.cells (ys.map bcell).toArray 5)).freeze ⟨w.heap.size, ys.length, none⟩ 1) :=
  ⟨rfl, rfl, rfl, by simp [World.freeze, World.alloc, -World.alloc_eq], fun k hk => by
    have h1 : w.heap.size ≠ k := by omega
    simp [World.freeze, World.alloc, -World.alloc_eq, Array.getElem?_modify, Array.getElem?_push, h1, Ne.symm h1]⟩
def tenI (N j : Nat) : List UInt8 := List.replicate (10 - j) 48 ++ dg j N
theorem tenI_len (N j : Nat) (h : j ≤ 10) : (tenI N j).length = 10 := by
  unfold tenI
  rw [List.length_append, List.length_replicate, dg_len]
  omega
theorem tenI_step (N j : Nat) (h : j < 10) : (tenI N j).set (9 - j) (UInt8.ofNat (48 + N / 10 ^ j % 10)) = tenI N (j + 1) := by
  unfold tenI
  rw [dg_cons, show 10 - j = (9 - j) + 1 by omega, List.replicate_succ', List.append_assoc, List.set_append_right _ _ (by simp), show 10 - (j + 1) = 9 - j by omega]
  simp
end Go.Proofs.YtlnkddmpcicejaaDoor
/-
  The reference's Ten, walked.
-/
namespace Go.Proofs.YtlnkddmpcicejaaDoor
open Go.RowKit Go.Deep
set_option linter.unusedVariables false

end Go.Proofs.YtlnkddmpcicejaaDoor
/-
  Cells stored one behind the other into a block that bears a mark behind its end.
-/
namespace Go.Proofs.YtlnkddmpcicejaaDoor
open Go.RowKit Go.Deep
set_option linter.unusedVariables false

def stc (g : Nat) : World → Nat → List Value → World
  | w, _, [] => w
  | w, o, v :: r => stc g (w.setCell ⟨g, o, none⟩ v) (o + 1) r
theorem set_marked {w : World} {g : Nat} {cur : Array Value} {t : TypeId} {fz : Nat × Nat} (h : w.heap[g]? = some (.cells cur t fz)) (o : Nat) (v : Value) : (w.setCell ⟨g, o, none⟩ v).heap[g]? = some (.cells (cur.setIfInBounds o v) t fz) := by
  simp [World.setCell, Array.getElem?_modify, h]
theorem store_marked (g o : Nat) (t : TypeId) (m : Nat) : ∀ (vs : List Value) (i : Nat) (w : World) (cur : Array Value), w.heap[g]? = some (.cells cur t (m, m + 1)) → o + i + vs.length ≤ m → m ≤ cur.size → (∀ v ∈ vs, v.oneCell' = true) →
    (storeCells ⟨g, o, none⟩ vs i).run Tryd.prog w = .ok () (stc g w (o + i) vs)
  | [], _, _, _, _, _, _, _ => rfl
  | v :: r, i, w, cur, hg, hl, hm, h1 => by
    rw [List.length_cons] at hl
    have hc : w.cell? ⟨g, o + i, none⟩ = some (cur[o + i]'(by omega)) := by
      unfold World.cell?
      simp [hg]
    have hf : w.frozen? ⟨g, o + i, none⟩ = false := by
      unfold World.frozen?
      simp [hg]
      omega
    have hs : (store ((⟨g, o, none⟩ : Addr).add i) v).run Tryd.prog w = .ok () (w.setCell ⟨g, o + i, none⟩ v) := by
      rw [Go.WideShapes.add_plain, run_store Tryd.prog w _ v _ (h1 v (by simp)), hc]
      simp [hf]
    have ih := store_marked g o t m r (i + 1) _ _ (set_marked hg (o + i) v) (by omega) (by simpa using hm) (fun x hx => h1 x (by simp [hx]))
    simp only [storeCells, Sem.run_bind, hs, Result.andThen_ok, ih]
    rfl
theorem stc_at (g : Nat) (t : TypeId) (fz : Nat × Nat) : ∀ (vs : List Value) (o : Nat) (w : World) (cur : Array Value), w.heap[g]? = some (.cells cur t fz) → o + vs.length ≤ cur.size →
    ∃ cur', (stc g w o vs).heap[g]? = some (.cells cur' t fz) ∧ cur'.size = cur.size ∧ cur'.toList.take (o + vs.length) = cur.toList.take o ++ vs
  | [], o, w, cur, hg, _ => ⟨cur, hg, rfl, by simp⟩
  | v :: r, o, w, cur, hg, hl => by
    rw [List.length_cons] at hl
    obtain ⟨c, h1, h2, h3⟩ := stc_at g t fz r (o + 1) _ _ (set_marked hg o v) (by simp; omega)
    refine ⟨c, h1, by rw [h2]; simp, ?_⟩
    rw [List.length_cons, show o + (r.length + 1) = o + 1 + r.length by omega, h3, Array.toList_setIfInBounds, List.take_add_one, List.take_set_of_le (Nat.le_refl _), List.getElem?_set_self (by simp; omega)]
    simp
theorem stc_else (g : Nat) : ∀ (vs : List Value) (o : Nat) (w : World) (k : Nat), k ≠ g → (stc g w o vs).heap[k]? = w.heap[k]?
  | [], _, _, _, _ => rfl
  | v :: r, o, w, k, hk => by
    rw [stc, stc_else g r (o + 1) _ k hk]
    exact Below.heap_setCell _ _ _ _ hk
end Go.Proofs.YtlnkddmpcicejaaDoor
/-
  A row of bytes that is plain or bears a mark behind its end; a text appended to it.
-/
namespace Go.Proofs.YtlnkddmpcicejaaDoor
open Go.RowKit Go.Deep
set_option linter.unusedVariables false

def MkRow (w : World) (B : Nat) (v : Value) (ys : List UInt8) : Prop := ∃ (g cap : Nat) (cur : Array Value), v = .slice (some ⟨g, 0, none⟩) ys.length cap ∧ B ≤ g ∧ w.heap[g]? = some (.cells cur 5 (cap, cap + 1)) ∧ ys.length ≤ cap ∧ cap ≤ maxLen ∧ cur.size = cap ∧ cur.toList.take ys.length = ys.map bcell
theorem app_room {w : World} {g cap : Nat} {cur : Array Value} (n : Nat) (s : ByteArray) (hg : w.heap[g]? = some (.cells cur 5 (cap, cap + 1))) (hc : cur.size = cap) (hr : n + s.size ≤ cap) :
    (Builtin.append_ #[52, 9] 52 #[.slice (some ⟨g, 0, none⟩) n cap, .string s]).run Tryd.prog w = .ok (.slice (some ⟨g, 0, none⟩) (n + s.size) cap) (stc g w n (Lib.strCells s)) := by
  obtain ⟨i0, hi, hz0, hz1, hz2⟩ := info_parts5 info_u8
  have hst := store_marked g n 5 cap (Lib.strCells s) 0 w cur hg (by rw [Lib.strCells_length]; omega) (by omega) (Lib.strCells_oneCell s)
  have hf := Lib.run_firstCells_string (P := Tryd.prog) w 1 s
  rw [Nat.add_zero] at hst
  simp [Builtin.append_, run_underlying Tryd.underlying52, run_underlying Tryd.underlying9, sizeOf, typeInfo, hi, hz1, Builtin.lenOf, hr, hf, Addr.add_lit, hst]
end Go.Proofs.YtlnkddmpcicejaaDoor
/-
  A text appended to a row that is plain or marked.
-/
namespace Go.Proofs.YtlnkddmpcicejaaDoor
open Go.RowKit Go.Deep
set_option linter.unusedVariables false

theorem stc_kb (g B : Nat) (hB : B ≤ g) : ∀ (vs : List Value) (o : Nat) (w : World) (cur : Array Value) (fz : Nat × Nat), w.heap[g]? = some (.cells cur 5 fz) → KB B w (stc g w o vs)
  | [], _, w, _, _, _ => KB.refl _ _
  | v :: r, o, w, cur, fz, h => by
    have h1 : KB B w (w.setCell ⟨g, o, none⟩ v) := ⟨(Below.refl B w).setCell (p := ⟨g, o, none⟩) hB _, ⟨by simp [World.setCell], fun k hk hn => by
      by_cases e : k = g
      · subst e
        exact absurd h (hn cur fz)
      · exact Below.heap_setCell _ _ _ _ e⟩⟩
    exact h1.trans (stc_kb g B hB r (o + 1) _ _ fz (set_marked h o v))
def XRow (w : World) (B : Nat) (v : Value) (ys : List UInt8) : Prop := BRow w B v ys ∨ MkRow w B v ys
theorem app_x {W : World} {B : Nat} {v : Value} {ys : List UInt8} (s : ByteArray) (h : XRow W B v ys) (hB : B ≤ W.heap.size) (hl : ys.length + s.size ≤ 140737488355328) :
    ∃ v' w2, (Builtin.append_ #[52, 9] 52 #[v, .string s]).run Tryd.prog W = .ok v' w2 ∧ XRow w2 B v' (ys ++ s.data.toList) ∧ KB B W w2 := by
  rcases h with h | ⟨g, cap, cur, rfl, hg, hh, hc, hm, hs, ht⟩
  · obtain ⟨v', w2, a, b, c⟩ := app_s3 s h hB hl
    exact ⟨v', w2, a, Or.inl b, c⟩
  · have hsl : s.data.toList.length = s.size := (Lib.size_eq s).symm
    by_cases hr : ys.length + s.size ≤ cap
    · obtain ⟨c', h1, h2, h3⟩ := stc_at g 5 _ (Lib.strCells s) ys.length W cur hh (by rw [Lib.strCells_length]; omega)
      rw [Lib.strCells_length, ht, strCells_b, ← List.map_append] at h3
      have el : (ys ++ s.data.toList).length = ys.length + s.size := by rw [List.length_append, hsl]
      refine ⟨_, _, app_room ys.length s hh hs hr, Or.inr ⟨g, cap, c', by rw [el], hg, h1, by rw [el]; exact hr, hm, by omega, by rw [el]; exact h3⟩, stc_kb g B hg _ _ _ _ _ hh⟩
    · obtain ⟨i0, hi, hz0, hz1, hz2⟩ := info_parts5 info_u8
      have hcell : ∀ j u, (ys.map bcell)[j]? = some u → W.cell? ((⟨g, 0, none⟩ : Addr).add j) = some u := by
        intro j u hu
        rw [← ht, List.getElem?_take] at hu
        rw [Go.WideShapes.add_plain, Nat.zero_add]
        unfold World.cell?
        simp only [hh]
        split at hu
        · simpa using hu
        · cases hu
      have hgr := Lib.run_append_grow_string (P := Tryd.prog) W 52 9 52 5 i0 (.int .u8 0) Tryd.underlying52 Tryd.underlying9 hi hz0 ⟨g, 0, none⟩ ys.length cap (ys.map bcell) (by rw [hz1]; simp) hcell s (by omega) (by omega) (by rw [hz2]; exact growslice_fits (by omega) (by omega))
      have hge := grownCap_ge W (ys.length + s.size) cap 5
      have hcm : grownCap W (ys.length + s.size) cap 5 ≤ maxLen := grownCap_le_maxLen W (ys.length + s.size) cap 5 (by unfold maxLen; omega)
      refine ⟨_, _, hgr, Or.inl ⟨by simp, Or.inr ⟨W.heap.size, _, _, by rw [List.length_append, hsl], hB, heap_alloc_new W.drew _, by rw [List.length_append, hsl]; exact hge, hcm, ?_, ?_⟩⟩, ⟨(Below.refl B W).drew.alloc hB _, ⟨by simp, fun k hk _ => Below.heap_alloc W.drew _ _ hk⟩⟩⟩
      · have e1 : (Value.int IntKind.u8 0).cells.size = 1 := rfl
        simp only [Array.size_append, List.size_toArray, size_zeroCells, e1, List.length_map, Lib.strCells_length]
        omega
      · have e2 : (ys ++ s.data.toList).length * 1 = (ys.map bcell ++ Lib.strCells s).length := by simp [Lib.strCells_length, hsl]
        rw [e2]
        simp only [Array.toList_append]
        rw [List.take_append_of_le_length (by simp), List.take_of_length_le (by simp), strCells_b, List.map_append]
end Go.Proofs.YtlnkddmpcicejaaDoor
/-
  []byte of a text and of a constant; string of a row plain or marked.
-/
namespace Go.Proofs.YtlnkddmpcicejaaDoor
open Go.RowKit Go.Deep
set_option linter.unusedVariables false

theorem bytes_mk (w : World) (s : ByteArray) (hl : s.size ≤ 140737488355328) : MkRow (Lib.bytesWorld w 5 s) w.heap.size (.slice (some ⟨w.heap.size, 0, none⟩) s.size (grownCap w s.size 0 5)) s.data.toList := by
  have hge := grownCap_ge w s.size 0 5
  have hcm : grownCap w s.size 0 5 ≤ maxLen := grownCap_le_maxLen w s.size 0 5 (by unfold maxLen; omega)
  have hsl : s.data.toList.length = s.size := (Lib.size_eq s).symm
  have hsz : (Lib.bytesCells w 5 s).size = grownCap w s.size 0 5 := by
    unfold Lib.bytesCells
    rw [Array.size_append, Array.size_map, Array.size_replicate]
    show s.size + _ = _
    omega
  have hh := Lib.bytesWorld_at_new w 5 s
  rw [hsz] at hh
  refine ⟨w.heap.size, _, _, by rw [hsl], Nat.le_refl _, hh, by omega, hcm, hsz, ?_⟩
  unfold Lib.bytesCells
  rw [Array.toList_append, Array.toList_map, List.take_append_of_le_length (by simp), List.take_of_length_le (by simp)]
  rfl
theorem bytes_kb (w : World) (s : ByteArray) : Below w.heap.size w (Lib.bytesWorld w 5 s) := ⟨rfl, rfl, rfl, by rw [Lib.bytesWorld_size]; omega, fun k hk => Lib.bytesWorld_at_old w _ s k hk⟩
theorem const_mk (w : World) (ys : List UInt8) (hl : ys.length ≤ 1000000) : MkRow ((w.alloc (.cells (ys.map bcell).toArray 5)).freeze ⟨w.heap.size, ys.length, none⟩ 1) w.heap.size (.slice (some ⟨w.heap.size, 0, none⟩) ys.length ys.length) ys :=
  ⟨w.heap.size, ys.length, _, rfl, Nat.le_refl _, const_row w ys, Nat.le_refl _, by unfold maxLen; omega, by simp, by rw [List.take_of_length_le (by simp)]⟩
theorem XRow.text {w : World} {B : Nat} {v : Value} {ys : List UInt8} (h : XRow w B v ys) : (convert 52 9 v).run Tryd.prog w = .ok (.string ⟨ys.toArray⟩) w := by
  rcases h with h | ⟨g, cap, cur, rfl, hg, hh, hc, hm, hs, ht⟩
  · exact BRow.text h
  · refine run_convert_bytes_back (P := Tryd.prog) w 52 9 5 ⟨g, 0, none⟩ cap ys Tryd.underlying52 Tryd.underlying5 Tryd.underlying9 ?_
    intro k hk
    have hu : (ys.map bcell)[k]? = some (bcell ys[k]) := by rw [List.getElem?_map, List.getElem?_eq_getElem hk]; rfl
    rw [← ht, List.getElem?_take_of_lt hk] at hu
    rw [Go.WideShapes.add_plain, Nat.zero_add]
    unfold World.cell?
    simp only [hh]
    simpa [bcell] using hu
theorem XRow.later {w w' : World} {B : Nat} {v : Value} {ys : List UInt8} (h : XRow w B v ys) (hb : Below w.heap.size w w') : XRow w' B v ys := by
  rcases h with h | ⟨g, cap, cur, hv, hg, hh, hr⟩
  · exact Or.inl (ownsRow_kept h (fun k _ hk => hb.block k hk))
  · have hlt : g < w.heap.size := by
      rcases Nat.lt_or_ge g w.heap.size with h | h
      · exact h
      · rw [Array.getElem?_eq_none h] at hh; simp at hh
    exact Or.inr ⟨g, cap, cur, hv, hg, by rw [hb.block g hlt]; exact hh, hr⟩
theorem XRow.shape {w : World} {B : Nat} {v : Value} {ys : List UInt8} (h : XRow w B v ys) : ∃ a c, v = .slice a ys.length c := by
  rcases h with h | ⟨g, cap, cur, hv, _⟩
  · obtain ⟨a, c, rfl⟩ := h.shape
    exact ⟨a, c, rfl⟩
  · exact ⟨_, _, hv⟩
end Go.Proofs.YtlnkddmpcicejaaDoor
/-
  The reference's Decimal of a number from 0 on is its decimal text.
-/
namespace Go.Proofs.YtlnkddmpcicejaaDoor
open Go.RowKit Go.Deep
set_option linter.unusedVariables false

end Go.Proofs.YtlnkddmpcicejaaDoor
/-
  The reference's Tail, walked.
-/
namespace Go.Proofs.YtlnkddmpcicejaaDoor
open Go.RowKit Go.Deep
set_option linter.unusedVariables false

theorem below_d {V a b x : World} (h : Below V.heap.size V a) (hx : Below b.heap.size b x) (e0 : b.os = a.os) (e1 : b.tape = a.tape) (e2 : b.output = a.output) (e3 : b.heap = a.heap) : Below V.heap.size V x :=
  h.trans ⟨hx.os.trans e0, hx.tape.trans e1, hx.output.trans e2, e3 ▸ hx.size, fun k hk => by rw [hx.block k (by rw [e3]; exact Nat.lt_of_lt_of_le hk h.size), e3]⟩
theorem MkRow.mono {w : World} {B B' : Nat} {v : Value} {ys : List UInt8} (h : MkRow w B v ys) (hB : B' ≤ B) : MkRow w B' v ys := by
  obtain ⟨g, cap, cur, hv, hg, hr⟩ := h
  exact ⟨g, cap, cur, hv, Nat.le_trans hB hg, hr⟩
def preT (n : Nat) : List UInt8 := [120, 114, 101, 102, 10, 48, 32] ++ Lib.itoa ((n : Int) + 1) ++ [10, 48, 48, 48, 48, 48, 48, 48, 48, 48, 48, 32, 54, 53, 53, 51, 53, 32, 102, 32, 10]
theorem tab_pre (zs : List Int) : tabT zs = preT zs.length ++ zs.flatMap rowT := by
  unfold tabT preT
  simp
theorem trl_eq (n root : Nat) (start : Int) (h1 : n ≤ 4096) (h2 : 1 ≤ root) (h3 : root ≤ 4096) : trlT ((n : Int) + 1) (root : Int) start = [116, 114, 97, 105, 108, 101, 114, 10, 60, 60, 47, 83, 105, 122, 101, 32] ++ Lib.itoa ((n : Int) + 1) ++ [32, 47, 82, 111, 111, 116, 32] ++ Lib.itoa (root : Int) ++ [32, 48, 32, 82, 62, 62, 10, 115, 116, 97, 114, 116, 120, 114, 101, 102, 10] ++ Lib.itoa start ++ [10, 37, 37, 69, 79, 70, 10] := by
  have e : objT trP (trT ((n : Int) + 1) (root : Int)) = 60 :: 60 :: (nameT sizS.data.toList ++ [32] ++ intT ((n : Int) + 1) ++ [32] ++ nameT rooS.data.toList ++ [32] ++ (intT (root : Int) ++ [32, 48, 32, 82]) ++ [62, 62]) := by
    simp [objT, objV, forT, atomT]
  have n1 : nameT sizS.data.toList = [47, 83, 105, 122, 101] := by decide
  have n2 : nameT rooS.data.toList = [47, 82, 111, 111, 116] := by decide
  unfold trlT
  rw [e, n1, n2, ← itoa_intT, ← itoa_intT]
  simp
end Go.Proofs.YtlnkddmpcicejaaDoor
