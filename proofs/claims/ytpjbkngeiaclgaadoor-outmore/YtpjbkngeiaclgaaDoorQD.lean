/-
  Joined: P6Dg, P6Ts, P6Tn, P6Mk, P6Mr, P6Mx, P6Mc, P6Dc, P6Tl.
-/
import Derived.Test.YtpjbkngeiaclgaaDoorQC
import Derived.Lib.ItoaMem
import Derived.Test.YtpjbkngeiaclgaaDoorBE
import Derived.Lib.AppendStr
import Derived.Lib.ConvBytes
import Derived.Test.YtpjbkngeiaclgaaDoorBC
/-
  The last j digits of a number; ten digits are tenT. Pure.
-/
namespace Go.Proofs.YtpjbkngeiaclgaaDoor
open Go.RowKit Go.Deep
set_option linter.unusedVariables false

def dg : Nat → Nat → List UInt8
  | 0, _ => []
  | j + 1, n => dg j (n / 10) ++ [UInt8.ofNat (48 + n % 10)]
theorem dg_len : ∀ j n, (dg j n).length = j
  | 0, _ => rfl
  | j + 1, n => by rw [dg, List.length_append, dg_len j]; rfl
theorem dg_zero : ∀ j, dg j 0 = List.replicate j 48
  | 0 => rfl
  | j + 1 => by rw [dg, Nat.zero_div, dg_zero j, List.replicate_succ']; rfl
/- one digit more, ahead -/
theorem dg_cons : ∀ j n, dg (j + 1) n = UInt8.ofNat (48 + n / 10 ^ j % 10) :: dg j n
  | 0, n => by simp [dg]
  | j + 1, n => by
    rw [dg, dg_cons j (n / 10), dg, List.cons_append, Nat.div_div_eq_div_mul, Nat.pow_succ, Nat.mul_comm 10]
theorem dg_dec : ∀ j n, 1 ≤ j → n < 10 ^ j → (Lib.decDigits n).length ≤ j ∧ dg j n = List.replicate (j - (Lib.decDigits n).length) 48 ++ Lib.decDigits n
  | 0, _, h, _ => by omega
  | j + 1, n, _, h => by
    rw [dg]
    by_cases h10 : n < 10
    · have e : Lib.decDigits n = [UInt8.ofNat (48 + n)] := by rw [Lib.decDigits, dif_pos h10]
      rw [e, Nat.div_eq_of_lt h10, Nat.mod_eq_of_lt h10, dg_zero]
      simp
    · have e : Lib.decDigits n = Lib.decDigits (n / 10) ++ [UInt8.ofNat (48 + n % 10)] := by rw [Lib.decDigits, dif_neg h10]
      have hj : 1 ≤ j := by
        rcases Nat.eq_zero_or_pos j with h0 | h0
        · subst h0; simp at h; omega
        · exact h0
      obtain ⟨h1, h2⟩ := dg_dec j (n / 10) hj (by rw [Nat.pow_succ] at h; omega)
      rw [e, h2, List.length_append, List.length_singleton, Nat.add_sub_add_right, List.append_assoc]
      exact ⟨by omega, rfl⟩
theorem ten_dg (n : Nat) (h : n < 10000000000) : tenT (n : Int) = dg 10 n := by
  unfold tenT
  rw [Lib.itoa_nonneg]
  exact (dg_dec 10 n (by omega) h).2.symm
end Go.Proofs.YtpjbkngeiaclgaaDoor
/-
  The reference's Ten, walked.
-/
namespace Go.Proofs.YtpjbkngeiaclgaaDoor
open Go.RowKit Go.Deep
set_option linter.unusedVariables false

theorem nought_digit (d : Nat) (h : d < 10) : bcell (UInt8.ofNat (48 + d)) = .int .u8 (48 + (d : Int)) := by
  unfold bcell
  have : (UInt8.ofNat (48 + d)).toNat = 48 + d := by
    rw [UInt8.toNat_ofNat']
    omega
  rw [this]
  congr 1
/- a row that was made out of a constant: its block bears a mark behind its end -/
def TRow (w : World) (b : Nat) (ys : List UInt8) : Prop := w.heap[b]? = some (.cells (ys.map bcell).toArray 5 (ys.length, ys.length + 1))
theorem TRow.cell {w : World} {b : Nat} {ys : List UInt8} (h : TRow w b ys) (i : Nat) (hi : i < ys.length) : w.cell? ⟨b, i, none⟩ = some (bcell (ys.getD i 0)) := by
  unfold TRow at h
  unfold World.cell?
  simp [h, List.getElem?_eq_getElem hi, List.getD_eq_getElem?_getD]
theorem TRow.frozen {w : World} {b : Nat} {ys : List UInt8} (h : TRow w b ys) (i : Nat) (hi : i < ys.length) : w.frozen? ⟨b, i, none⟩ = false := by
  unfold TRow at h
  unfold World.frozen?
  simp [h]
  omega
theorem TRow.set {w : World} {b : Nat} {ys : List UInt8} (h : TRow w b ys) (i : Nat) (y : UInt8) : TRow (w.setCell ⟨b, i, none⟩ (bcell y)) b (ys.set i y) := by
  unfold TRow at *
  simp [World.setCell, Array.getElem?_modify, h]
theorem TRow.text {w : World} {b cap : Nat} {ys : List UInt8} (h : TRow w b ys) : (convert 53 9 (.slice (some ⟨b, 0, none⟩) ys.length cap)).run Tryd.prog w = .ok (.string ⟨ys.toArray⟩) w := by
  refine run_convert_bytes_back (P := Tryd.prog) w 53 9 5 ⟨b, 0, none⟩ cap ys Tryd.underlying53 Tryd.underlying5 Tryd.underlying9 ?_
  intro k hk
  rw [Go.WideShapes.add_plain, Nat.zero_add, h.cell k hk, List.getD_eq_getElem?_getD, List.getElem?_eq_getElem hk]
  rfl
theorem conv_const (w : World) (ys : List UInt8) (n c : Nat) :
    (convert 53 53 (.slice (some ⟨w.heap.size, 0, none⟩) n c)).run Tryd.prog (w.alloc (.cells (ys.map bcell).toArray 5)) = .ok (.slice (some ⟨w.heap.size, 0, none⟩) n c) ((w.alloc (.cells (ys.map bcell).toArray 5)).freeze ⟨w.heap.size, ys.length, none⟩ 1) := by
  have hsh : (w.alloc (.cells (ys.map bcell).toArray 5)).shape? w.heap.size = some (5, ys.length) := by
    simp [World.shape?, World.alloc, -World.alloc_eq]
  simp [convert, run_underlying Tryd.underlying53, run_underlying Tryd.underlying5, markStringish, Result.andThen, hsh, -World.alloc_eq]
theorem const_row (w : World) (ys : List UInt8) : TRow ((w.alloc (.cells (ys.map bcell).toArray 5)).freeze ⟨w.heap.size, ys.length, none⟩ 1) w.heap.size ys := by
  unfold TRow
  simp [World.freeze, World.alloc, -World.alloc_eq]
  rw [Array.getElem_modify_self]
  simp
theorem const_below (w : World) (ys : List UInt8) : Below w.heap.size w ((w.alloc (.cells (ys.map bcell).toArray 5)).freeze ⟨w.heap.size, ys.length, none⟩ 1) :=
  ⟨rfl, rfl, rfl, by simp [World.freeze, World.alloc, -World.alloc_eq], fun k hk => by
    have h1 : w.heap.size ≠ k := by omega
    simp [World.freeze, World.alloc, -World.alloc_eq, Array.getElem?_modify, Array.getElem?_push, h1, Ne.symm h1]⟩
def tenI (N j : Nat) : List UInt8 := List.replicate (10 - j) 48 ++ dg j N
theorem tenI_len (N j : Nat) (h : j ≤ 10) : (tenI N j).length = 10 := by
  unfold tenI
  rw [List.length_append, List.length_replicate, dg_len]
  omega
theorem tenI_step (N j : Nat) (h : j < 10) : (tenI N j).set (9 - j) (UInt8.ofNat (48 + N / 10 ^ j % 10)) = tenI N (j + 1) := by
  unfold tenI
  rw [dg_cons, show 10 - j = (9 - j) + 1 by omega, List.replicate_succ', List.append_assoc, List.set_append_right _ _ (by simp), show 10 - (j + 1) = 9 - j by omega]
  simp
end Go.Proofs.YtpjbkngeiaclgaaDoor
/-
  The reference's Ten, walked.
-/
namespace Go.Proofs.YtpjbkngeiaclgaaDoor
open Go.RowKit Go.Deep
set_option linter.unusedVariables false

set_option maxRecDepth 8000 in
set_option maxHeartbeats 1000000 in
theorem ten_any (N : Nat) (hN : N < 10000000000) (w : World) :
    Calls Tryd.prog 35 #[.int .i64 N] w fun e w' => e = .returned (.string ⟨(tenT (N : Int)).toArray⟩) ∧ Below w.heap.size w w' := by
  have hcv := conv_const w (tenI N 0) 10 10
  have HK0 := hide (const_row w (tenI N 0))
  have HB0 := hide (const_below w (tenI N 0))
  obtain ⟨W1, hW1⟩ : ∃ W1, (w.alloc (.cells ((tenI N 0).map bcell).toArray 5)).freeze ⟨w.heap.size, (tenI N 0).length, none⟩ 1 = W1 := ⟨_, rfl⟩
  rw [hW1] at hcv HK0 HB0
  rw [show ((tenI N 0).map bcell).toArray = #[.int .u8 48, .int .u8 48, .int .u8 48, .int .u8 48, .int .u8 48, .int .u8 48, .int .u8 48, .int .u8 48, .int .u8 48, .int .u8 48] from rfl] at hcv
  rw [ten_dg N hN]
  clear hW1
  go_enter Tryd.func35, Tryd.ntmps35
  go_wp2_with fail
  go_loopw [0, 4] (fun vn vi wr => ∃ j : Nat, vn = .int .i64 ((N / 10 ^ j : Nat) : Int) ∧ vi = .int .i64 (9 - (j : Int)) ∧ Hid (j ≤ 10 ∧ TRow wr w.heap.size (tenI N j) ∧ Below w.heap.size w wr)) (fun _ vi _ => (intOf vi + 1).toNat)
  case atStart => exact ⟨0, by simp, by simp, hide ⟨by omega, HK0.out, HB0.out⟩⟩
  case round =>
    clear HB0 HK0
    obtain ⟨j, rfl, rfl, HV⟩ := hrel
    obtain ⟨hj, hK, hB⟩ := HV.out
    have HB := hide hB
    have HK := hide hK
    clear HV hcv
    by_cases h10 : j = 10
    case pos =>
      subst h10
      have htx := TRow.text (cap := 10) hK
      rw [tenI_len N 10 (by omega)] at htx
      have et : tenI N 10 = dg 10 N := rfl
      rw [et] at htx
      clear hK hB hj et
      go_wp2_with fail
      go_ret
      exact ⟨rfl, HB.out⟩
    have hj9 : j < 10 := by omega
    obtain ⟨m, hm⟩ : ∃ m, 9 - j = m := ⟨_, rfl⟩
    have hmi : (9 : Int) - (j : Int) = (m : Int) := by omega
    have hm9 : m < 10 := by omega
    have hl := tenI_len N j (by omega)
    obtain ⟨Q, hQ⟩ : ∃ Q, N / 10 ^ j = Q := ⟨_, rfl⟩
    have hQN : Q ≤ 10000000000 := by rw [← hQ]; exact Nat.le_trans (Nat.div_le_self _ _) (by omega)
    have hQ1 : N / 10 ^ (j + 1) = Q / 10 := by rw [Nat.pow_succ, ← Nat.div_div_eq_div_mul, hQ]
    obtain ⟨t1, t2, t3⟩ := D2.tens Q (by omega)
    have c := hK.cell m (by omega)
    have f := hK.frozen m (by omega)
    have hset := hK.set m (UInt8.ofNat (48 + Q % 10))
    rw [← hQ, ← hm, tenI_step N j hj9, hQ, hm, nought_digit _ (Nat.mod_lt _ (by omega))] at hset
    have hbs : Below w.heap.size w (wr.setCell ⟨w.heap.size, m, none⟩ (.int .u8 (48 + ((Q % 10 : Nat) : Int)))) := hB.setCell (p := ⟨w.heap.size, m, none⟩) (by simp) _
    have hq10 : Q % 10 < 10 := Nat.mod_lt _ (by omega)
    obtain ⟨D, hD⟩ : ∃ D, Q % 10 = D := ⟨_, rfl⟩
    obtain ⟨E, hE⟩ : ∃ E, Q / 10 = E := ⟨_, rfl⟩
    rw [hD] at hset hbs t2 hq10
    rw [hE] at t1 t3 hQ1
    have HS := hide hset
    have HBS := hide hbs
    have HQ1 := hide hQ1
    have HM := hide hmi
    rw [hQ, hmi]
    have hm0 : (0 : Int) ≤ (m : Int) := by omega
    have hm10 : (m : Int) < 10 := by omega
    have hD0 : (0 : Int) ≤ (D : Int) := by omega
    have hD10 : (D : Int) < 10 := by omega
    have hQi : (Q : Int) ≤ 10000000000 := by omega
    have hQ0 : (0 : Int) ≤ (Q : Int) := by omega
    clear hset hbs hQ1 hK hB hl hmi hQ hD hE hq10
    go_wp2_with fail
    go_roundw
    case rel => exact ⟨j + 1, by rw [HQ1.out], by have := HM.out; go_num, hide ⟨by omega, HS.out, HBS.out⟩⟩
    case measure => simp [intOf]
end Go.Proofs.YtpjbkngeiaclgaaDoor
/-
  Cells stored one behind the other into a block that bears a mark behind its end.
-/
namespace Go.Proofs.YtpjbkngeiaclgaaDoor
open Go.RowKit Go.Deep
set_option linter.unusedVariables false

def stc (g : Nat) : World → Nat → List Value → World
  | w, _, [] => w
  | w, o, v :: r => stc g (w.setCell ⟨g, o, none⟩ v) (o + 1) r
theorem set_marked {w : World} {g : Nat} {cur : Array Value} {t : TypeId} {fz : Nat × Nat} (h : w.heap[g]? = some (.cells cur t fz)) (o : Nat) (v : Value) : (w.setCell ⟨g, o, none⟩ v).heap[g]? = some (.cells (cur.setIfInBounds o v) t fz) := by
  simp [World.setCell, Array.getElem?_modify, h]
theorem store_marked (g o : Nat) (t : TypeId) (m : Nat) : ∀ (vs : List Value) (i : Nat) (w : World) (cur : Array Value), w.heap[g]? = some (.cells cur t (m, m + 1)) → o + i + vs.length ≤ m → m ≤ cur.size → (∀ v ∈ vs, v.oneCell' = true) →
    (storeCells ⟨g, o, none⟩ vs i).run Tryd.prog w = .ok () (stc g w (o + i) vs)
  | [], _, _, _, _, _, _, _ => rfl
  | v :: r, i, w, cur, hg, hl, hm, h1 => by
    rw [List.length_cons] at hl
    have hc : w.cell? ⟨g, o + i, none⟩ = some (cur[o + i]'(by omega)) := by
      unfold World.cell?
      simp [hg]
    have hf : w.frozen? ⟨g, o + i, none⟩ = false := by
      unfold World.frozen?
      simp [hg]
      omega
    have hs : (store ((⟨g, o, none⟩ : Addr).add i) v).run Tryd.prog w = .ok () (w.setCell ⟨g, o + i, none⟩ v) := by
      rw [Go.WideShapes.add_plain, run_store Tryd.prog w _ v _ (h1 v (by simp)), hc]
      simp [hf]
    have ih := store_marked g o t m r (i + 1) _ _ (set_marked hg (o + i) v) (by omega) (by simpa using hm) (fun x hx => h1 x (by simp [hx]))
    simp only [storeCells, Sem.run_bind, hs, Result.andThen_ok, ih]
    rfl
theorem stc_at (g : Nat) (t : TypeId) (fz : Nat × Nat) : ∀ (vs : List Value) (o : Nat) (w : World) (cur : Array Value), w.heap[g]? = some (.cells cur t fz) → o + vs.length ≤ cur.size →
    ∃ cur', (stc g w o vs).heap[g]? = some (.cells cur' t fz) ∧ cur'.size = cur.size ∧ cur'.toList.take (o + vs.length) = cur.toList.take o ++ vs
  | [], o, w, cur, hg, _ => ⟨cur, hg, rfl, by simp⟩
  | v :: r, o, w, cur, hg, hl => by
    rw [List.length_cons] at hl
    obtain ⟨c, h1, h2, h3⟩ := stc_at g t fz r (o + 1) _ _ (set_marked hg o v) (by simp; omega)
    refine ⟨c, h1, by rw [h2]; simp, ?_⟩
    rw [List.length_cons, show o + (r.length + 1) = o + 1 + r.length by omega, h3, Array.toList_setIfInBounds, List.take_add_one, List.take_set_of_le (Nat.le_refl _), List.getElem?_set_self (by simp; omega)]
    simp
theorem stc_else (g : Nat) : ∀ (vs : List Value) (o : Nat) (w : World) (k : Nat), k ≠ g → (stc g w o vs).heap[k]? = w.heap[k]?
  | [], _, _, _, _ => rfl
  | v :: r, o, w, k, hk => by
    rw [stc, stc_else g r (o + 1) _ k hk]
    exact Below.heap_setCell _ _ _ _ hk
end Go.Proofs.YtpjbkngeiaclgaaDoor
/-
  A row of bytes that is plain or bears a mark behind its end; a text appended to it.
-/
namespace Go.Proofs.YtpjbkngeiaclgaaDoor
open Go.RowKit Go.Deep
set_option linter.unusedVariables false

def MkRow (w : World) (B : Nat) (v : Value) (ys : List UInt8) : Prop := ∃ (g cap : Nat) (cur : Array Value), v = .slice (some ⟨g, 0, none⟩) ys.length cap ∧ B ≤ g ∧ w.heap[g]? = some (.cells cur 5 (cap, cap + 1)) ∧ ys.length ≤ cap ∧ cap ≤ maxLen ∧ cur.size = cap ∧ cur.toList.take ys.length = ys.map bcell
theorem app_room {w : World} {g cap : Nat} {cur : Array Value} (n : Nat) (s : ByteArray) (hg : w.heap[g]? = some (.cells cur 5 (cap, cap + 1))) (hc : cur.size = cap) (hr : n + s.size ≤ cap) :
    (Builtin.append_ #[53, 9] 53 #[.slice (some ⟨g, 0, none⟩) n cap, .string s]).run Tryd.prog w = .ok (.slice (some ⟨g, 0, none⟩) (n + s.size) cap) (stc g w n (Lib.strCells s)) := by
  obtain ⟨i0, hi, hz0, hz1, hz2⟩ := info_parts5 info_u8
  have hst := store_marked g n 5 cap (Lib.strCells s) 0 w cur hg (by rw [Lib.strCells_length]; omega) (by omega) (Lib.strCells_oneCell s)
  have hf := Lib.run_firstCells_string (P := Tryd.prog) w 1 s
  rw [Nat.add_zero] at hst
  simp [Builtin.append_, run_underlying Tryd.underlying53, run_underlying Tryd.underlying9, sizeOf, typeInfo, hi, hz1, Builtin.lenOf, hr, hf, Addr.add_lit, hst]
end Go.Proofs.YtpjbkngeiaclgaaDoor
/-
  A text appended to a row that is plain or marked.
-/
namespace Go.Proofs.YtpjbkngeiaclgaaDoor
open Go.RowKit Go.Deep
set_option linter.unusedVariables false

theorem stc_kb (g B : Nat) (hB : B ≤ g) : ∀ (vs : List Value) (o : Nat) (w : World) (cur : Array Value) (fz : Nat × Nat), w.heap[g]? = some (.cells cur 5 fz) → KB B w (stc g w o vs)
  | [], _, w, _, _, _ => KB.refl _ _
  | v :: r, o, w, cur, fz, h => by
    have h1 : KB B w (w.setCell ⟨g, o, none⟩ v) := ⟨(Below.refl B w).setCell (p := ⟨g, o, none⟩) hB _, ⟨by simp [World.setCell], fun k hk hn => by
      by_cases e : k = g
      · subst e
        exact absurd h (hn cur fz)
      · exact Below.heap_setCell _ _ _ _ e⟩⟩
    exact h1.trans (stc_kb g B hB r (o + 1) _ _ fz (set_marked h o v))
def XRow (w : World) (B : Nat) (v : Value) (ys : List UInt8) : Prop := BRow w B v ys ∨ MkRow w B v ys
theorem app_x {W : World} {B : Nat} {v : Value} {ys : List UInt8} (s : ByteArray) (h : XRow W B v ys) (hB : B ≤ W.heap.size) (hl : ys.length + s.size ≤ 140737488355328) :
    ∃ v' w2, (Builtin.append_ #[53, 9] 53 #[v, .string s]).run Tryd.prog W = .ok v' w2 ∧ XRow w2 B v' (ys ++ s.data.toList) ∧ KB B W w2 := by
  rcases h with h | ⟨g, cap, cur, rfl, hg, hh, hc, hm, hs, ht⟩
  · obtain ⟨v', w2, a, b, c⟩ := app_s3 s h hB hl
    exact ⟨v', w2, a, Or.inl b, c⟩
  · have hsl : s.data.toList.length = s.size := (Lib.size_eq s).symm
    by_cases hr : ys.length + s.size ≤ cap
    · obtain ⟨c', h1, h2, h3⟩ := stc_at g 5 _ (Lib.strCells s) ys.length W cur hh (by rw [Lib.strCells_length]; omega)
      rw [Lib.strCells_length, ht, strCells_b, ← List.map_append] at h3
      have el : (ys ++ s.data.toList).length = ys.length + s.size := by rw [List.length_append, hsl]
      refine ⟨_, _, app_room ys.length s hh hs hr, Or.inr ⟨g, cap, c', by rw [el], hg, h1, by rw [el]; exact hr, hm, by omega, by rw [el]; exact h3⟩, stc_kb g B hg _ _ _ _ _ hh⟩
    · obtain ⟨i0, hi, hz0, hz1, hz2⟩ := info_parts5 info_u8
      have hcell : ∀ j u, (ys.map bcell)[j]? = some u → W.cell? ((⟨g, 0, none⟩ : Addr).add j) = some u := by
        intro j u hu
        rw [← ht, List.getElem?_take] at hu
        rw [Go.WideShapes.add_plain, Nat.zero_add]
        unfold World.cell?
        simp only [hh]
        split at hu
        · simpa using hu
        · cases hu
      have hgr := Lib.run_append_grow_string (P := Tryd.prog) W 53 9 53 5 i0 (.int .u8 0) Tryd.underlying53 Tryd.underlying9 hi hz0 ⟨g, 0, none⟩ ys.length cap (ys.map bcell) (by rw [hz1]; simp) hcell s (by omega) (by omega) (by rw [hz2]; exact growslice_fits (by omega) (by omega))
      have hge := grownCap_ge W (ys.length + s.size) cap 5
      have hcm : grownCap W (ys.length + s.size) cap 5 ≤ maxLen := grownCap_le_maxLen W (ys.length + s.size) cap 5 (by unfold maxLen; omega)
      refine ⟨_, _, hgr, Or.inl ⟨by simp, Or.inr ⟨W.heap.size, _, _, by rw [List.length_append, hsl], hB, heap_alloc_new W.drew _, by rw [List.length_append, hsl]; exact hge, hcm, ?_, ?_⟩⟩, ⟨(Below.refl B W).drew.alloc hB _, ⟨by simp, fun k hk _ => Below.heap_alloc W.drew _ _ hk⟩⟩⟩
      · have e1 : (Value.int IntKind.u8 0).cells.size = 1 := rfl
        simp only [Array.size_append, List.size_toArray, size_zeroCells, e1, List.length_map, Lib.strCells_length]
        omega
      · have e2 : (ys ++ s.data.toList).length * 1 = (ys.map bcell ++ Lib.strCells s).length := by simp [Lib.strCells_length, hsl]
        rw [e2]
        simp only [Array.toList_append]
        rw [List.take_append_of_le_length (by simp), List.take_of_length_le (by simp), strCells_b, List.map_append]
end Go.Proofs.YtpjbkngeiaclgaaDoor
/-
  []byte of a text and of a constant; string of a row plain or marked.
-/
namespace Go.Proofs.YtpjbkngeiaclgaaDoor
open Go.RowKit Go.Deep
set_option linter.unusedVariables false

theorem bytes_mk (w : World) (s : ByteArray) (hl : s.size ≤ 140737488355328) : MkRow (Lib.bytesWorld w 5 s) w.heap.size (.slice (some ⟨w.heap.size, 0, none⟩) s.size (grownCap w s.size 0 5)) s.data.toList := by
  have hge := grownCap_ge w s.size 0 5
  have hcm : grownCap w s.size 0 5 ≤ maxLen := grownCap_le_maxLen w s.size 0 5 (by unfold maxLen; omega)
  have hsl : s.data.toList.length = s.size := (Lib.size_eq s).symm
  have hsz : (Lib.bytesCells w 5 s).size = grownCap w s.size 0 5 := by
    unfold Lib.bytesCells
    rw [Array.size_append, Array.size_map, Array.size_replicate]
    show s.size + _ = _
    omega
  have hh := Lib.bytesWorld_at_new w 5 s
  rw [hsz] at hh
  refine ⟨w.heap.size, _, _, by rw [hsl], Nat.le_refl _, hh, by omega, hcm, hsz, ?_⟩
  unfold Lib.bytesCells
  rw [Array.toList_append, Array.toList_map, List.take_append_of_le_length (by simp), List.take_of_length_le (by simp)]
  rfl
theorem bytes_kb (w : World) (s : ByteArray) : Below w.heap.size w (Lib.bytesWorld w 5 s) := ⟨rfl, rfl, rfl, by rw [Lib.bytesWorld_size]; omega, fun k hk => Lib.bytesWorld_at_old w _ s k hk⟩
theorem const_mk (w : World) (ys : List UInt8) (hl : ys.length ≤ 1000000) : MkRow ((w.alloc (.cells (ys.map bcell).toArray 5)).freeze ⟨w.heap.size, ys.length, none⟩ 1) w.heap.size (.slice (some ⟨w.heap.size, 0, none⟩) ys.length ys.length) ys :=
  ⟨w.heap.size, ys.length, _, rfl, Nat.le_refl _, const_row w ys, Nat.le_refl _, by unfold maxLen; omega, by simp, by rw [List.take_of_length_le (by simp)]⟩
theorem XRow.text {w : World} {B : Nat} {v : Value} {ys : List UInt8} (h : XRow w B v ys) : (convert 53 9 v).run Tryd.prog w = .ok (.string ⟨ys.toArray⟩) w := by
  rcases h with h | ⟨g, cap, cur, rfl, hg, hh, hc, hm, hs, ht⟩
  · exact BRow.text h
  · refine run_convert_bytes_back (P := Tryd.prog) w 53 9 5 ⟨g, 0, none⟩ cap ys Tryd.underlying53 Tryd.underlying5 Tryd.underlying9 ?_
    intro k hk
    have hu : (ys.map bcell)[k]? = some (bcell ys[k]) := by rw [List.getElem?_map, List.getElem?_eq_getElem hk]; rfl
    rw [← ht, List.getElem?_take_of_lt hk] at hu
    rw [Go.WideShapes.add_plain, Nat.zero_add]
    unfold World.cell?
    simp only [hh]
    simpa [bcell] using hu
theorem XRow.later {w w' : World} {B : Nat} {v : Value} {ys : List UInt8} (h : XRow w B v ys) (hb : Below w.heap.size w w') : XRow w' B v ys := by
  rcases h with h | ⟨g, cap, cur, hv, hg, hh, hr⟩
  · exact Or.inl (ownsRow_kept h (fun k _ hk => hb.block k hk))
  · have hlt : g < w.heap.size := by
      rcases Nat.lt_or_ge g w.heap.size with h | h
      · exact h
      · rw [Array.getElem?_eq_none h] at hh; simp at hh
    exact Or.inr ⟨g, cap, cur, hv, hg, by rw [hb.block g hlt]; exact hh, hr⟩
theorem XRow.shape {w : World} {B : Nat} {v : Value} {ys : List UInt8} (h : XRow w B v ys) : ∃ a c, v = .slice a ys.length c := by
  rcases h with h | ⟨g, cap, cur, hv, _⟩
  · obtain ⟨a, c, rfl⟩ := h.shape
    exact ⟨a, c, rfl⟩
  · exact ⟨_, _, hv⟩
end Go.Proofs.YtpjbkngeiaclgaaDoor
/-
  The reference's Decimal of a number from 0 on is its decimal text.
-/
namespace Go.Proofs.YtpjbkngeiaclgaaDoor
open Go.RowKit Go.Deep
set_option linter.unusedVariables false

theorem rdec_any (n : Nat) (h : n ≤ 1000000000000) (w : World) :
    Calls Tryd.prog 34 #[.int .i64 n] w fun e w' => e = .returned (.string ⟨(Lib.itoa (n : Int)).toArray⟩) ∧ Below w.heap.size w w' := by
  have hp : n < 10 ^ (18 + 1) := by omega
  have := D2.dec_any 18 n (by omega) hp (by omega) w
  rw [D2.decF_eq 18 n hp] at this
  rw [Lib.itoa_nonneg]
  exact this
end Go.Proofs.YtpjbkngeiaclgaaDoor
/-
  The reference's Tail, walked.
-/
namespace Go.Proofs.YtpjbkngeiaclgaaDoor
open Go.RowKit Go.Deep
set_option linter.unusedVariables false

theorem below_d {V a b x : World} (h : Below V.heap.size V a) (hx : Below b.heap.size b x) (e0 : b.os = a.os) (e1 : b.tape = a.tape) (e2 : b.output = a.output) (e3 : b.heap = a.heap) : Below V.heap.size V x :=
  h.trans ⟨hx.os.trans e0, hx.tape.trans e1, hx.output.trans e2, e3 ▸ hx.size, fun k hk => by rw [hx.block k (by rw [e3]; exact Nat.lt_of_lt_of_le hk h.size), e3]⟩
theorem MkRow.mono {w : World} {B B' : Nat} {v : Value} {ys : List UInt8} (h : MkRow w B v ys) (hB : B' ≤ B) : MkRow w B' v ys := by
  obtain ⟨g, cap, cur, hv, hg, hr⟩ := h
  exact ⟨g, cap, cur, hv, Nat.le_trans hB hg, hr⟩
def preT (n : Nat) : List UInt8 := [120, 114, 101, 102, 10, 48, 32] ++ Lib.itoa ((n : Int) + 1) ++ [10, 48, 48, 48, 48, 48, 48, 48, 48, 48, 48, 32, 54, 53, 53, 51, 53, 32, 102, 32, 10]
theorem tab_pre (zs : List Int) : tabT zs = preT zs.length ++ zs.flatMap rowT := by
  unfold tabT preT
  simp
set_option maxRecDepth 8000 in
set_option maxHeartbeats 2000000 in
theorem tail_any (v : Value) (zs : List Int) (root start B : Nat) (w : World) (hz : IRow w B v zs) (hn : zs.length ≤ 4096) (hb : ∀ z ∈ zs, 0 ≤ z ∧ z ≤ 16777216) (hr : root ≤ 4096) (hs : start ≤ 16777216) :
    Calls Tryd.prog 23 #[v, .int .i64 root, .int .i64 start] w fun e w' => e = .returned (.string ⟨(tabT zs ++ [116, 114, 97, 105, 108, 101, 114, 10, 60, 60, 47, 83, 105, 122, 101, 32] ++ Lib.itoa ((zs.length : Int) + 1) ++ [32, 47, 82, 111, 111, 116, 32] ++ Lib.itoa (root : Int) ++ [32, 48, 32, 82, 62, 62, 10, 115, 116, 97, 114, 116, 120, 114, 101, 102, 10] ++ Lib.itoa (start : Int) ++ [10, 37, 37, 69, 79, 70, 10]).toArray⟩) ∧ Below w.heap.size w w' := by
  obtain ⟨va, vc, rfl, hL, hvc, hvm⟩ := hz.lst
  have CD := hide (fun n w' h => rdec_any n h w')
  have CT := hide (fun n w' h => ten_any n h w')
  have HBD := hide hb
  have HL := hide hL
  have hn' : (zs.length : Int) ≤ 4096 := by omega
  have hn0 : (0 : Int) ≤ (zs.length : Int) := by omega
  obtain ⟨it, hit⟩ : ∃ it : ByteArray, ⟨(Lib.itoa ((zs.length : Int) + 1)).toArray⟩ = it := ⟨_, rfl⟩
  have hio : (Lib.itoa ((zs.length : Int) + 1)).length ≤ 21 := Lib.itoa_length_le _ (by omega) (by omega)
  have hil : it.data.toList = Lib.itoa ((zs.length : Int) + 1) := by rw [← hit]
  have his : (it.size : Int) ≤ 21 := by rw [Lib.size_eq, hil]; omega
  have C1 := CD.out (zs.length + 1) w (by omega)
  rw [show ((zs.length + 1 : Nat) : Int) = (zs.length : Int) + 1 by omega, hit] at C1
  have C1 := hide C1
  have HIL := hide hil
  clear hz hb hL hit hil hio
  go_enter Tryd.func23, Tryd.ntmps23
  go_wp2_with fail
  refine C1.out.mono ?_
  rintro e w1 ⟨rfl, h1⟩
  have H1 := hide h1
  obtain ⟨X, hX⟩ : ∃ X : ByteArray, (⟨#[120, 114, 101, 102, 10, 48, 32]⟩ ++ it ++ ⟨#[10, 48, 48, 48, 48, 48, 48, 48, 48, 48, 48, 32, 54, 53, 53, 51, 53, 32, 102, 32, 10]⟩ : ByteArray) = X := ⟨_, rfl⟩
  have hXl : X.data.toList = preT zs.length := by
    rw [← hX, ByteArray.data_append, ByteArray.data_append, Array.toList_append, Array.toList_append, HIL.out]
    rfl
  have hXs : X.size ≤ 1000 := by
    rw [← hX, ByteArray.size_append, ByteArray.size_append]
    show 7 + it.size + 21 ≤ _
    omega
  have hcv := Lib.run_convert_string_bytes (P := Tryd.prog) w1 9 53 5 X (u := .string) Tryd.underlying9 Tryd.underlying53 Tryd.underlying5
  have hmk := (bytes_mk w1 X (by omega)).mono h1.size
  have hbw := below_t5 h1 (bytes_kb w1 X)
  obtain ⟨W2, hW2⟩ : ∃ W2, Lib.bytesWorld w1 5 X = W2 := ⟨_, rfl⟩
  rw [hW2] at hcv hmk hbw
  rw [← hX] at hcv
  rw [hXl, show X.size = 7 + it.size + 21 by rw [← hX, ByteArray.size_append, ByteArray.size_append]; rfl] at hmk
  have HM := hide hmk
  have HB := hide hbw
  clear h1 hmk hbw hW2 hXl hXs hX
  go_wp2_with fail
  go_loopw [8, 9] (fun vb vi wr => ∃ k : Nat, vi = .int .i64 k ∧ Hid (k ≤ zs.length ∧ XRow wr w.heap.size vb (preT zs.length ++ (zs.take k).flatMap rowT) ∧ Below w.heap.size w wr)) (fun _ vi _ => zs.length - (intOf vi).toNat)
  case atStart => exact ⟨0, rfl, hide ⟨by omega, by rw [List.take_zero, List.flatMap_nil, List.append_nil]; exact Or.inr HM.out, HB.out⟩⟩
  case round =>
    clear HM HB hcv
    obtain ⟨k, rfl, HV⟩ := hrel
    obtain ⟨hk, hX, hB⟩ := HV.out
    have hk0 : (0 : Int) ≤ (k : Int) := by omega
    have HB := hide hB
    have HX := hide hX
    obtain ⟨ba, bc, rfl⟩ := hX.shape
    generalize hbl : (preT zs.length ++ (zs.take k).flatMap rowT).length = bl
    clear HV
    by_cases hlt : k < zs.length
    case neg =>
      have hlt' : ¬ (k : Int) < (zs.length : Int) := by omega
      have hkk : zs.take k = zs := List.take_of_length_le (by omega)
      have hXr := hX
      rw [hbl, hkk, ← tab_pre] at hXr
      have htl5 : (tabT zs).length ≤ 1000000 := by
        unfold tabT
        have h1 := rows_len6 zs HBD.out
        have h2 : (Lib.itoa ((zs.length : Int) + 1)).length ≤ 21 := Lib.itoa_length_le _ (by omega) (by omega)
        simp only [List.length_append, h1, List.length_cons, List.length_nil]
        omega
      obtain ⟨TB, hTB⟩ : ∃ TB : ByteArray, ⟨(tabT zs).toArray⟩ = TB := ⟨_, rfl⟩
      have hTl : TB.data.toList = tabT zs := by rw [← hTB]
      have hTs : (TB.size : Int) ≤ 1000000 := by rw [Lib.size_eq, hTl]; omega
      have TX := hide (fun w' (h : Below wr.heap.size wr w') => by have := (hXr.later h).text; rw [hTB] at this; exact this)
      have hdr : Below wr.heap.size wr wr.drew := (Below.refl _ _).drew
      have hcv0 := TX.out _ hdr
      obtain ⟨ir, hir⟩ : ∃ ir : ByteArray, ⟨(Lib.itoa (root : Int)).toArray⟩ = ir := ⟨_, rfl⟩
      obtain ⟨is, his2⟩ : ∃ is : ByteArray, ⟨(Lib.itoa (start : Int)).toArray⟩ = is := ⟨_, rfl⟩
      have hirl : ir.data.toList = Lib.itoa (root : Int) := by rw [← hir]
      have hisl : is.data.toList = Lib.itoa (start : Int) := by rw [← his2]
      have hirs : (ir.size : Int) ≤ 21 := by rw [Lib.size_eq, hirl]; have := Lib.itoa_length_le (root : Int) (by omega) (by omega); omega
      have hiss : (is.size : Int) ≤ 21 := by rw [Lib.size_eq, hisl]; have := Lib.itoa_length_le (start : Int) (by omega) (by omega); omega
      have HR2 := hide (And.intro hir his2)
      have HD := hide (Below.refl wr.heap.size wr)
      have HALL := hide (show TB.data.toList = tabT zs ∧ ir.data.toList = Lib.itoa (root : Int) ∧ is.data.toList = Lib.itoa (start : Int) from ⟨hTl, hirl, hisl⟩)
      have CR := hide (fun w' => by have := CD.out root w' (by omega); rw [hir] at this; exact this)
      have CS := hide (fun w' => by have := CD.out start w' (by omega); rw [his2] at this; exact this)
      clear hX hB hkk hXr htl5 hTB hTl hir his2 hirl hisl hdr hbl hcv0
      go_wp2_with fail
      rename_i q0
      have HA := hide q0
      clear q0
      obtain ⟨S1, hS1⟩ : ∃ S1 : ByteArray, TB ++ (⟨#[116, 114, 97, 105, 108, 101, 114, 10, 60, 60, 47, 83, 105, 122, 101, 32]⟩ : ByteArray) = S1 := ⟨_, rfl⟩
      obtain ⟨S2, hS2⟩ : ∃ S2 : ByteArray, S1 ++ it = S2 := ⟨_, rfl⟩
      obtain ⟨S3, hS3⟩ : ∃ S3 : ByteArray, S2 ++ (⟨#[32, 47, 82, 111, 111, 116, 32]⟩ : ByteArray) = S3 := ⟨_, rfl⟩
      obtain ⟨S4, hS4⟩ : ∃ S4 : ByteArray, S3 ++ ir = S4 := ⟨_, rfl⟩
      obtain ⟨S5, hS5⟩ : ∃ S5 : ByteArray, S4 ++ (⟨#[32, 48, 32, 82, 62, 62, 10, 115, 116, 97, 114, 116, 120, 114, 101, 102, 10]⟩ : ByteArray) = S5 := ⟨_, rfl⟩
      obtain ⟨S6, hS6⟩ : ∃ S6 : ByteArray, S5 ++ is = S6 := ⟨_, rfl⟩
      obtain ⟨S7, hS7⟩ : ∃ S7 : ByteArray, S6 ++ (⟨#[10, 37, 37, 69, 79, 70, 10]⟩ : ByteArray) = S7 := ⟨_, rfl⟩
      have hz1 : S1.size ≤ 1000016 := by rw [← hS1, ByteArray.size_append]; show TB.size + 16 ≤ _; omega
      have hz2 : S2.size ≤ 1000040 := by rw [← hS2, ByteArray.size_append]; show S1.size + it.size ≤ _; omega
      have hz3 : S3.size ≤ 1000050 := by rw [← hS3, ByteArray.size_append]; show S2.size + 7 ≤ _; omega
      have hz4 : S4.size ≤ 1000080 := by rw [← hS4, ByteArray.size_append]; show S3.size + ir.size ≤ _; omega
      have hz5 : S5.size ≤ 1000100 := by rw [← hS5, ByteArray.size_append]; show S4.size + 17 ≤ _; omega
      have hz6 : S6.size ≤ 1000130 := by rw [← hS6, ByteArray.size_append]; show S5.size + is.size ≤ _; omega
      have hz7 : S7.size ≤ 1000150 := by rw [← hS7, ByteArray.size_append]; show S6.size + 7 ≤ _; omega
      refine wp_region_held_drew (S := (fun x => (convert 53 9 (.slice ba bl bc)).run Tryd.prog x = .ok (.string TB) x)) (by kernel_rfl) (TX.out _ (show Below wr.heap.size wr wr.drew from (Below.refl _ _).drew)) (fun hHeld => ?_)
      refine takeW (i := 0) (d := 32) (v := .slice ba bl bc) rfl rfl (by kernel_rfl) (by kernel_rfl) (by kernel_rfl) (fun _ _ _ h => h) (by rfl) ?_ (by assumption) ?_
      · intro x hSx
        have q0 := hSx
        go_simp
      simp only [Act.put, List.setIfInBounds_toArray, List.set_cons_zero, List.set_cons_succ]
      refine takeW (i := 1) (d := 33) (v := .string TB) rfl rfl (by kernel_rfl) (by kernel_rfl) (by kernel_rfl) (fun _ _ _ h => h) (by rfl) ?_ (by assumption) ?_
      · intro x hSx
        have q0 := hSx
        go_simp
      simp only [Act.put, List.setIfInBounds_toArray, List.set_cons_zero, List.set_cons_succ]
      refine takeW (i := 2) (d := 34) (v := .string S1) rfl rfl (by kernel_rfl) (by kernel_rfl) (by kernel_rfl) (fun _ _ _ h => h) (by rfl) ?_ (by assumption) ?_
      · intro x hSx
        have q0 := hSx
        go_simp
        try omega
      simp only [Act.put, List.setIfInBounds_toArray, List.set_cons_zero, List.set_cons_succ]
      refine takeW (i := 3) (d := 35) (v := .string it) rfl rfl (by kernel_rfl) (by kernel_rfl) (by kernel_rfl) (fun _ _ _ h => h) (by rfl) ?_ (by assumption) ?_
      · intro x hSx
        have q0 := hSx
        go_simp
      simp only [Act.put, List.setIfInBounds_toArray, List.set_cons_zero, List.set_cons_succ]
      refine takeW (i := 4) (d := 36) (v := .string S2) rfl rfl (by kernel_rfl) (by kernel_rfl) (by kernel_rfl) (fun _ _ _ h => h) (by rfl) ?_ (by assumption) ?_
      · intro x hSx
        have q0 := hSx
        go_simp
        try omega
      simp only [Act.put, List.setIfInBounds_toArray, List.set_cons_zero, List.set_cons_succ]
      refine takeW (i := 5) (d := 37) (v := .string S3) rfl rfl (by kernel_rfl) (by kernel_rfl) (by kernel_rfl) (fun _ _ _ h => h) (by rfl) ?_ (by assumption) ?_
      · intro x hSx
        have q0 := hSx
        go_simp
        try omega
      simp only [Act.put, List.setIfInBounds_toArray, List.set_cons_zero, List.set_cons_succ]
      refine takeW (i := 6) (d := 38) (v := .int .i64 (root : Int)) rfl rfl (by kernel_rfl) (by kernel_rfl) (by kernel_rfl) (fun _ _ _ h => h) (by rfl) ?_ (by assumption) ?_
      · intro x hSx
        have q0 := hSx
        go_simp
      simp only [Act.put, List.setIfInBounds_toArray, List.set_cons_zero, List.set_cons_succ]
      refine takeW (i := 10) (d := 42) (v := .int .i64 (start : Int)) rfl rfl (by kernel_rfl) (by kernel_rfl) (by kernel_rfl) (fun _ _ _ h => h) (by rfl) ?_ (by assumption) ?_
      · intro x hSx
        have q0 := hSx
        go_simp
      simp only [Act.put, List.setIfInBounds_toArray, List.set_cons_zero, List.set_cons_succ]
      refine wpAnyH_ready (rs := [7]) (by kernel_rfl) (by simp) ?_
      refine AllReadyH.cons rfl (fun K hK => ?_) AllReadyH.nil
      rw [if_pos (by rfl)]
      go_simp
      go_at_call 34
      refine (CD.out _ _ (by omega)).mono ?_
      rintro e x ⟨rfl, hbx⟩
      rw [HR2.out.1]
      replace HD := hide (below_d HD.out hbx rfl rfl rfl rfl)
      clear hbx
      refine hK.out _ _ (TX.out _ HD.out) (fun hHeld => ?_)
      clear hK K
      refine takeW (i := 8) (d := 40) (v := .string S4) rfl rfl (by kernel_rfl) (by kernel_rfl) (by kernel_rfl) (fun _ _ _ h => h) (by rfl) ?_ (by assumption) ?_
      · intro x hSx
        have q0 := hSx
        go_simp
        try omega
      simp only [Act.put, List.setIfInBounds_toArray, List.set_cons_zero, List.set_cons_succ]
      refine takeW (i := 9) (d := 41) (v := .string S5) rfl rfl (by kernel_rfl) (by kernel_rfl) (by kernel_rfl) (fun _ _ _ h => h) (by rfl) ?_ (by assumption) ?_
      · intro x hSx
        have q0 := hSx
        go_simp
        try omega
      simp only [Act.put, List.setIfInBounds_toArray, List.set_cons_zero, List.set_cons_succ]
      refine wpAnyH_ready (rs := [11]) (by kernel_rfl) (by simp) ?_
      refine AllReadyH.cons rfl (fun K hK => ?_) AllReadyH.nil
      rw [if_pos (by rfl)]
      go_simp
      go_at_call 34
      refine (CD.out _ _ (by omega)).mono ?_
      rintro e x ⟨rfl, hbx⟩
      rw [HR2.out.2]
      replace HD := hide (below_d HD.out hbx rfl rfl rfl rfl)
      clear hbx
      refine hK.out _ _ (TX.out _ HD.out) (fun hHeld => ?_)
      clear hK K
      refine takeW (i := 12) (d := 44) (v := .string S6) rfl rfl (by kernel_rfl) (by kernel_rfl) (by kernel_rfl) (fun _ _ _ h => h) (by rfl) ?_ (by assumption) ?_
      · intro x hSx
        have q0 := hSx
        go_simp
        try omega
      simp only [Act.put, List.setIfInBounds_toArray, List.set_cons_zero, List.set_cons_succ]
      refine takeW (i := 13) (d := 45) (v := .string S7) rfl rfl (by kernel_rfl) (by kernel_rfl) (by kernel_rfl) (fun _ _ _ h => h) (by rfl) ?_ (by assumption) ?_
      · intro x hSx
        have q0 := hSx
        go_simp
        try omega
      simp only [Act.put, List.setIfInBounds_toArray, List.set_cons_zero, List.set_cons_succ]
      refine takeW (i := 14) (d := 6) (v := .string S7) rfl rfl (by kernel_rfl) (by kernel_rfl) (by kernel_rfl) (fun _ _ _ h => h) (by rfl) ?_ (by assumption) ?_
      · intro x hSx
        have q0 := hSx
        go_simp
        try omega
      simp only [Act.put, List.setIfInBounds_toArray, List.set_cons_zero, List.set_cons_succ]
      refine wpAnyH_done (by kernel_rfl) ?_ _
      all_goals
        refine HA.out _ _ ?_
        go_wp2_with fail
        go_ret
        refine ⟨?_, below_t5 HB.out (below_d HD.out (Below.refl _ _) rfl rfl rfl rfl)⟩
        show Ending.returned (.string S7) = _
        obtain ⟨a1, a2, a3⟩ := HALL.out
        have e : S7.data.toList = tabT zs ++ [116, 114, 97, 105, 108, 101, 114, 10, 60, 60, 47, 83, 105, 122, 101, 32] ++ Lib.itoa ((zs.length : Int) + 1) ++ [32, 47, 82, 111, 111, 116, 32] ++ Lib.itoa (root : Int) ++ [32, 48, 32, 82, 62, 62, 10, 115, 116, 97, 114, 116, 120, 114, 101, 102, 10] ++ Lib.itoa (start : Int) ++ [10, 37, 37, 69, 79, 70, 10] := by
          rw [← hS7, ← hS6, ← hS5, ← hS4, ← hS3, ← hS2, ← hS1]
          repeat rw [ByteArray.data_append, Array.toList_append]
          rw [a1, a2, a3, HIL.out]
        rw [← e]
    have hlt' : (k : Int) < (zs.length : Int) := by omega
    obtain ⟨zb, zo, rfl, hzb, hzc0⟩ : ∃ zb zo, va = some ⟨zb, zo, none⟩ ∧ zb < w.heap.size ∧ w.cell? ⟨zb, zo + k, none⟩ = some (.int .i64 (zs.getD k 0)) := by
      rcases HL.out with h | ⟨zb, zo, h1, h2, h3⟩
      · rw [h] at hlt; simp at hlt
      · exact ⟨zb, zo, h1, h2, h3 k hlt⟩
    have hzc := (hB.cell (p := ⟨zb, zo + k, none⟩) hzb).trans hzc0
    have hzr := HBD.out (zs.getD k 0) (by rw [List.getD_eq_getElem?_getD, List.getElem?_eq_getElem hlt]; exact List.getElem_mem hlt)
    have htk : zs.take (k + 1) = zs.take k ++ [zs.getD k 0] := by
      rw [List.take_add_one, List.getElem?_eq_getElem hlt, List.getD_eq_getElem?_getD, List.getElem?_eq_getElem hlt]
      rfl
    have hfl : (preT zs.length ++ (zs.take k).flatMap rowT).length ≤ 1000000 := by
      have e := rows_len6 (zs.take k) (fun z hz => HBD.out z (List.mem_of_mem_take hz))
      have h2 : (Lib.itoa ((zs.length : Int) + 1)).length ≤ 21 := Lib.itoa_length_le _ (by omega) (by omega)
      unfold preT
      rw [List.length_append, e, List.length_append, List.length_append, List.length_take]
      show 7 + _ + 21 + _ ≤ _
      omega
    have HTK := hide htk
    generalize zs.getD k 0 = z at hzc hzr HTK
    obtain ⟨n, rfl⟩ : ∃ n : Nat, z = n := ⟨z.toNat, by omega⟩
    have CTz := hide (CT.out n wr (by omega))
    have HLT := hide hlt
    have HFL := hide hfl
    clear hX hB htk hfl hzc0 hlt
    go_wp2_with fail
    refine CTz.out.mono ?_
    rintro e w3 ⟨rfl, h3⟩
    obtain ⟨tx, htx⟩ : ∃ tx : ByteArray, ⟨(tenT (n : Int)).toArray⟩ = tx := ⟨_, rfl⟩
    have htl : tx.data.toList = tenT (n : Int) := by rw [← htx]
    have hts : tx.size = 10 := by rw [Lib.size_eq, htl, ten_dg n (by omega), dg_len]
    rw [htx]
    have hX3 := HX.out.later h3
    rw [hbl] at hX3
    have hB3 := below_t5 HB.out h3
    obtain ⟨v4, w4, hr4, hX4, hk4⟩ := app_x tx hX3 hB3.size (by rw [hts]; have := HFL.out; omega)
    obtain ⟨v5, w5, hr5, hX5, hk5⟩ := app_x ⟨#[32, 48, 48, 48, 48, 48, 32, 110, 32, 10]⟩ hX4 (Nat.le_trans hB3.size hk4.size) (by rw [List.length_append, ← Lib.size_eq, hts]; have := HFL.out; show _ + 10 ≤ _; omega)
    have HR4 := hide hr4
    have HR5 := hide hr5
    have HX5 := hide hX5
    have HTL := hide htl
    have HB5 := hide ((hB3.trans hk4.below).trans hk5.below)
    clear htx htl hts hX3 hB3 hr4 hX4 hk4 hr5 hX5 hk5 h3
    go_wp2_with (at_builtin; first | refine Lib.wpList_append_run _ rfl _ _ _ _ rfl _ _ rfl rfl _ _ HR4.out ?_ | refine Lib.wpList_append_run _ rfl _ _ _ _ rfl _ _ rfl rfl _ _ HR5.out ?_)
    go_roundw
    case rel =>
      refine ⟨k + 1, by go_num, hide ⟨HLT.out, ?_, HB5.out⟩⟩
      have h := HX5.out
      rw [HTL.out] at h
      rw [HTK.out, List.flatMap_append]
      have e : [(n : Int)].flatMap rowT = tenT (n : Int) ++ [32, 48, 48, 48, 48, 48, 32, 110, 32, 10] := by simp [rowT]
      rw [e, ← List.append_assoc, ← List.append_assoc]
      exact h
    case measure => have := HLT.out; simp [intOf]; omega
theorem trl_eq (n root : Nat) (start : Int) (h1 : n ≤ 4096) (h2 : 1 ≤ root) (h3 : root ≤ 4096) : trlT ((n : Int) + 1) (root : Int) start = [116, 114, 97, 105, 108, 101, 114, 10, 60, 60, 47, 83, 105, 122, 101, 32] ++ Lib.itoa ((n : Int) + 1) ++ [32, 47, 82, 111, 111, 116, 32] ++ Lib.itoa (root : Int) ++ [32, 48, 32, 82, 62, 62, 10, 115, 116, 97, 114, 116, 120, 114, 101, 102, 10] ++ Lib.itoa start ++ [10, 37, 37, 69, 79, 70, 10] := by
  have e : objT trP (trT ((n : Int) + 1) (root : Int)) = 60 :: 60 :: (nameT sizS.data.toList ++ [32] ++ intT ((n : Int) + 1) ++ [32] ++ nameT rooS.data.toList ++ [32] ++ (intT (root : Int) ++ [32, 48, 32, 82]) ++ [62, 62]) := by
    simp [objT, objV, forT, atomT]
  have n1 : nameT sizS.data.toList = [47, 83, 105, 122, 101] := by decide
  have n2 : nameT rooS.data.toList = [47, 82, 111, 111, 116] := by decide
  unfold trlT
  rw [e, n1, n2, ← itoa_intT, ← itoa_intT]
  simp
end Go.Proofs.YtpjbkngeiaclgaaDoor
