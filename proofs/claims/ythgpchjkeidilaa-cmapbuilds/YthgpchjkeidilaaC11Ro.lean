/-
  What cmap's rowsOf, walk and Read answer where a wide row counts.
-/
import Derived.Test.YthgpchjkeidilaaC11R
namespace Go.Proofs.Ythgpchjkeidilaa
open Go.RowKit Go.Deep
set_option linter.unusedVariables false

theorem Blk.drewN {w : World} {b : Nat} {cs : Array Value} {t : TypeId} (h : Blk w b cs t) (n : Nat) : Blk (w.drewN n) b cs t := h
/- n ints, of which the first k are those of f, the others 0 -/
def arr (f : Nat → Int) (n k : Nat) : Array Value := ((List.range n).map fun i => Value.int .i64 (if i < k then f i else 0)).toArray
theorem arr_size (f : Nat → Int) (n k : Nat) : (arr f n k).size = n := by simp [arr]
theorem arr_at (f : Nat → Int) (n k j : Nat) (h : j < n) : (arr f n k)[j]? = some (.int .i64 (if j < k then f j else 0)) := by
  simp [arr, h]
theorem arr_set (f : Nat → Int) (n k : Nat) (h : k < n) : (arr f n k).setIfInBounds k (.int .i64 (f k)) = arr f n (k + 1) := by
  apply Array.ext_getElem?
  intro j
  rw [Array.getElem?_setIfInBounds]
  by_cases hj : j < n
  · rw [arr_at _ _ _ _ hj, arr_at _ _ _ _ hj]
    by_cases e : k = j
    · subst e; simp [arr_size, hj]
    · rw [if_neg e]
      by_cases h1 : j < k
      · rw [if_pos h1, if_pos (by omega)]
      · rw [if_neg h1, if_neg (by omega)]
  · rw [if_neg (by rintro rfl; exact hj h)]
    rw [Array.getElem?_eq_none (by rw [arr_size]; omega), Array.getElem?_eq_none (by rw [arr_size]; omega)]
theorem arr_zero (f : Nat → Int) (n : Nat) : arr f n 0 = Array.replicate n (.int .i64 0) := by
  apply Array.ext_getElem?
  intro j
  by_cases hj : j < n
  · rw [arr_at _ _ _ _ hj]; simp [hj]
  · rw [Array.getElem?_eq_none (by rw [arr_size]; omega), Array.getElem?_eq_none (by simp; omega)]
theorem info_row : (Try.prog.info? 57).map (fun i => (i.zero, i.size, i.bytes)) = some (some (.agg #[.int .i64 0, .int .i64 0, .int .i64 0]), 3, 24) := by kernel_rfl
theorem make_rows (n : Nat) (hn : n ≤ 100000) (x : World) : (Instr.makeSlice 53 (.int .i64 (n : Int)) (.int .i64 (n : Int))).run Try.prog x = .ok (.slice (some ⟨x.heap.size, 0, none⟩) n n) (x.alloc (.cells (Array.replicate (n * 3) (.int .i64 0)) 57)) := by
  obtain ⟨i0, hi, hz0, hz1, hz2⟩ := info_parts5 info_row
  have h := run_make (P := Try.prog) x 53 57 i0 (.agg #[.int .i64 0, .int .i64 0, .int .i64 0]) Try.underlying53 hi hz0 .i64 .i64 n n (by omega) (Int.le_refl _) (by rw [hz2]; omega) (by omega)
  rw [hz1] at h
  simp only [Int.toNat_natCast] at h
  have e : madeCells (Value.agg #[.int .i64 0, .int .i64 0, .int .i64 0]).cells (n * 3) = Array.replicate (n * 3) (.int .i64 0) := by
    apply Array.ext (by simp [madeCells])
    intro j h1 h2
    have hm : j % 3 < 3 := Nat.mod_lt _ (by omega)
    simp [madeCells, Value.cells]
    generalize j % 3 = q at hm
    match q, hm with
    | 0, _ => rfl
    | 1, _ => rfl
    | 2, _ => rfl
  rw [e] at h
  exact h
/- the rows' numbers, one behind the other -/
def rwF (l : List UInt8) (j : Nat) : Int := if j % 3 = 0 then (rp l (j / 3) : Int) else if j % 3 = 1 then (re l (j / 3) : Int) else (rpl l (j / 3) : Int)
theorem rwF0 (l : List UInt8) (i : Nat) : rwF l (i * 3) = (rp l i : Int) := by unfold rwF; rw [if_pos (by omega), show i * 3 / 3 = i by omega]
theorem rwF1 (l : List UInt8) (i : Nat) : rwF l (i * 3 + 1) = (re l i : Int) := by unfold rwF; rw [if_neg (by omega), if_pos (by omega), show (i * 3 + 1) / 3 = i by omega]
theorem rwF2 (l : List UInt8) (i : Nat) : rwF l (i * 3 + 2) = (rpl l i : Int) := by unfold rwF; rw [if_neg (by omega), if_neg (by omega), show (i * 3 + 2) / 3 = i by omega]
theorem rw_step {w : World} {b k i : Nat} {l : List UInt8} (h : Blk w b (arr (rwF l) (k * 3) (i * 3)) 57) (hi : i < k) :
    Blk (((w.setCell ⟨b, i * 3, none⟩ (.int .i64 (rp l i : Int))).setCell ⟨b, i * 3 + 1, none⟩ (.int .i64 (re l i : Int))).setCell ⟨b, i * 3 + 2, none⟩ (.int .i64 (rpl l i : Int))) b (arr (rwF l) (k * 3) ((i + 1) * 3)) 57 := by
  have h1 := Blk.set h (i * 3) (.int .i64 (rp l i : Int))
  rw [← rwF0, arr_set _ _ _ (by omega)] at h1
  have h2 := Blk.set h1 (i * 3 + 1) (.int .i64 (re l i : Int))
  rw [← rwF1, arr_set _ _ _ (by omega)] at h2
  have h3 := Blk.set h2 (i * 3 + 2) (.int .i64 (rpl l i : Int))
  rw [← rwF2, show i * 3 + 2 = i * 3 + 1 + 1 from rfl, arr_set _ _ _ (by omega), show i * 3 + 1 + 1 + 1 = (i + 1) * 3 by omega] at h3
  rw [← rwF0, ← rwF1, ← rwF2]
  exact h3
theorem rw_cells {w : World} {b k i : Nat} {l : List UInt8} (h : Blk w b (arr (rwF l) (k * 3) (i * 3)) 57) (hi : i < k) :
    w.cell? ⟨b, i * 3, none⟩ = some (.int .i64 0) ∧ w.cell? ⟨b, i * 3 + 1, none⟩ = some (.int .i64 0) ∧ w.cell? ⟨b, i * 3 + 2, none⟩ = some (.int .i64 0) := by
  refine ⟨?_, ?_, ?_⟩
  · rw [h.cell, arr_at _ _ _ _ (by omega), if_neg (by omega)]
  · rw [h.cell, arr_at _ _ _ _ (by omega), if_neg (by omega)]
  · rw [h.cell, arr_at _ _ _ _ (by omega), if_neg (by omega)]
theorem rw_all {w : World} {b k : Nat} {l : List UInt8} (h : Blk w b (arr (rwF l) (k * 3) (k * 3)) 57) : RwL w (some ⟨b, 0, none⟩) l k := by
  refine Or.inr ⟨b, rfl, h.lt, fun i hi => ⟨?_, ?_, ?_⟩⟩
  · rw [h.cell, arr_at _ _ _ _ (by omega), if_pos (by omega), rwF0]
  · rw [h.cell, arr_at _ _ _ _ (by omega), if_pos (by omega), rwF1]
  · rw [h.cell, arr_at _ _ _ _ (by omega), if_pos (by omega), rwF2]
def RoR (w : World) (l : List UInt8) (K : Nat) (e : Ending) (w' : World) : Prop := ∃ a c, e = .returned (.slice a K c) ∧ RwL w' a l K ∧ Below w.heap.size w w'
def kR (l : List UInt8) : Nat := if rowB l then n2 l 2 else 0
set_option maxRecDepth 8000 in
set_option maxHeartbeats 2000000 in
theorem rows_any (t : ByteArray) (w : World) (hs : t.size ≤ 1073741824) :
    Calls Try.prog 28 #[.string t] w (RoR w t.data.toList (kR t.data.toList)) := by
  have hs' : (t.size : Int) ≤ 1073741824 := by omega
  have HN := hide (show rowB t.data.toList = false → kR t.data.toList = 0 from fun h => by unfold kR; rw [h]; rfl)
  have HY := hide (show rowB t.data.toList = true → kR t.data.toList = n2 t.data.toList 2 from fun h => by unfold kR; rw [h]; rfl)
  have hT := @rowB_t t.data.toList
  rw [← Lib.size_eq] at hT
  have HT := hide hT
  have HF : Hid (¬ (4 ≤ t.size ∧ t.data.toList.take 2 = [0, 0] ∧ 4 + 8 * n2 t.data.toList 2 ≤ t.size) → kR t.data.toList = 0) := hide (fun h => HN.out (by cases e : rowB t.data.toList; rfl; exact absurd (HT.out.1 e) h))
  clear hT
  generalize kR t.data.toList = KR at *
  by_cases h1 : t.size < 4
  · have h1' : (t.size : Int) < 4 := by omega
    obtain rfl := HF.out (by omega)
    go_enter Try.func28, Try.ntmps28
    go_wp2_with fail
    go_ret
    exact ⟨none, 0, rfl, Or.inl rfl, Below.refl _ _⟩
  have h1' : ¬ (t.size : Int) < 4 := by omega
  have h1b : (2 : Int) ≤ (t.size : Int) := by omega
  have hq := head_eq t 2 [0, 0]
  by_cases h2 : t.data.toList.take 2 = [0, 0]
  case neg =>
    obtain rfl := HF.out (fun h => h2 h.2.1)
    rw [decide_eq_false h2] at hq
    clear h2
    go_enter Try.func28, Try.ntmps28
    go_wp2_with fail
    go_ret
    exact ⟨none, 0, rfl, Or.inl rfl, Below.refl _ _⟩
  rw [decide_eq_true h2] at hq
  have C2 := hide (fun w => two_any t 2 2 w rfl (by omega) hs)
  have bk := n2_lt t.data.toList 2
  by_cases h3 : 4 + 8 * n2 t.data.toList 2 ≤ t.size
  case neg =>
    obtain rfl := HF.out (fun h => h3 h.2.2)
    clear HF HN HY HT h2
    generalize n2 t.data.toList 2 = K at *
    have h3' : (t.size : Int) < 4 + 8 * (K : Int) := by omega
    have k0 : (0 : Int) ≤ (K : Int) := by omega
    have k1 : (K : Int) ≤ 65535 := by omega
    go_enter Try.func28, Try.ntmps28
    go_wp2_with fail
    refine (C2.out _).mono ?_
    rintro e w1 ⟨rfl, m, hw⟩
    subst hw
    go_wp2_with fail
    go_ret
    exact ⟨none, 0, rfl, Or.inl rfl, below_drewN (Below.refl _ _) _⟩
  obtain rfl := HY.out (HT.out.2 ⟨by omega, h2, h3⟩)
  have CT := hide (fun (j : Nat) (z : Int) (w : World) (hz : z = (j : Int)) (h : j + 2 ≤ t.size) => two_any t j z w hz h hs)
  have CF := hide (fun (j : Nat) (z : Int) (w : World) (hz : z = (j : Int)) (h : j + 4 ≤ t.size) => four_any t j z w hz h hs)
  clear HF HN HY HT h2
  have H3 := hide h3
  generalize n2 t.data.toList 2 = K at *
  have h3' : ¬ (t.size : Int) < 4 + 8 * (K : Int) := by omega
  have k0 : (0 : Int) ≤ (K : Int) := by omega
  have k1 : (K : Int) ≤ 65535 := by omega
  have HMK := make_rows K (by omega)
  rw [← arr_zero (rwF t.data.toList)] at HMK
  clear h3
  go_enter Try.func28, Try.ntmps28
  go_wp2_with fail
  refine (C2.out _).mono ?_
  rintro e w1 ⟨rfl, m, hw⟩
  subst hw
  have HBW := hide (show Below w.heap.size w ((w.drewN m).alloc (.cells (arr (rwF t.data.toList) (K * 3) 0) 57)) from (below_drewN (Below.refl _ _) m).alloc (Nat.le_refl _) _)
  have HBL := hide (show Blk ((w.drewN m).alloc (.cells (arr (rwF t.data.toList) (K * 3) 0) 57)) w.heap.size (arr (rwF t.data.toList) (K * 3) (0 * 3)) 57 from Blk.new _ _ _)
  go_wp2_with fail
  go_loopw [27] (fun vi wr => ∃ (i : Nat), vi = .int .i64 i ∧ Hid (i ≤ K ∧ Blk wr w.heap.size (arr (rwF t.data.toList) (K * 3) (i * 3)) 57 ∧ Below w.heap.size w wr)) (fun vi _ => K - (intOf vi).toNat)
  case atStart => exact ⟨0, rfl, hide ⟨by omega, HBL.out, HBW.out⟩⟩
  case round =>
    obtain ⟨i, rfl, HV⟩ := hrel
    obtain ⟨hi, hbl, hbw⟩ := HV.out
    have hi0 : (0 : Int) ≤ (i : Int) := by omega
    have HB1 := hide hbl
    have HB2 := hide hbw
    clear HV hbw HBL HBW
    by_cases hlt : i < K
    case neg =>
      have hlt' : ¬ (i : Int) < (K : Int) := by omega
      obtain rfl : i = K := by omega
      clear hbl
      go_wp2_with fail
      go_ret
      exact ⟨_, _, rfl, rw_all HB1.out, HB2.out⟩
    have hlt' : (i : Int) < (K : Int) := by omega
    obtain ⟨z0, z1, z2⟩ := rw_cells hbl hlt
    have f0 := hbl.frozen (i * 3)
    have f1 := hbl.frozen (i * 3 + 1)
    have f2 := hbl.frozen (i * 3 + 2)
    have zl := hbl.lt
    have C1 := hide (fun z w (hz : z = ((4 + 8 * i : Nat) : Int)) => CT.out (4 + 8 * i) z w hz (by have := H3.out; omega))
    have C3 := hide (fun z w (hz : z = ((6 + 8 * i : Nat) : Int)) => CT.out (6 + 8 * i) z w hz (by have := H3.out; omega))
    have C4 := hide (fun z w (hz : z = ((8 + 8 * i : Nat) : Int)) => CF.out (8 + 8 * i) z w hz (by have := H3.out; omega))
    have HST := hide (fun m => rw_step (HB1.out.drewN m) hlt)
    have e1 : n2 t.data.toList (4 + 8 * i) = rp t.data.toList i := rfl
    have e2 : n2 t.data.toList (6 + 8 * i) = re t.data.toList i := rfl
    have e3 : n4 t.data.toList (8 + 8 * i) = rpl t.data.toList i := rfl
    rw [e1] at C1
    rw [e2] at C3
    rw [e3] at C4
    generalize ((rp t.data.toList i : Nat) : Int) = X at *
    generalize ((re t.data.toList i : Nat) : Int) = Y at *
    generalize ((rpl t.data.toList i : Nat) : Int) = Z at *
    clear hbl e1 e2 e3
    go_wp2_with fail
    refine (C1.out _ _ (by omega)).mono ?_
    rintro e w1 ⟨rfl, m1, hw⟩
    subst hw
    go_wp2_with fail
    refine (C3.out _ _ (by omega)).mono ?_
    rintro e w1 ⟨rfl, m2, hw⟩
    subst hw
    go_wp2_with fail
    refine (C4.out _ _ (by omega)).mono ?_
    rintro e w1 ⟨rfl, m3, hw⟩
    subst hw
    go_wp2_with fail
    go_roundw
    case rel => exact ⟨i + 1, by go_num, hide ⟨by omega, HST.out _, ((((below_drewN HB2.out _).setCell (p := ⟨w.heap.size, i * 3, none⟩) (Nat.le_refl _) _).setCell (p := ⟨w.heap.size, i * 3 + 1, none⟩) (Nat.le_refl _) _).setCell (p := ⟨w.heap.size, i * 3 + 2, none⟩) (Nat.le_refl _) _)⟩⟩
    case measure => simp [intOf]; omega
theorem groups_any (L : Nat) (s : ByteArray) (n : Nat) (w : World) (hs : s.size ≤ 1073741824) (hn : n ≤ 4096) (hS : TkS w L []) :
    Calls Try.prog 31 #[.string s, .int .i64 (n : Int), .func (.func 17) #[] #[.pointer (some ⟨L, 0, none⟩)]] w (TkR w L (twV s.data.toList n)) := by
  cases h : twB s.data.toList
  · rw [twV_head h]
    exact (groups_bad L s n w hs h).mono fun e w' ⟨h1, m, h2⟩ => ⟨h1, by rw [h2]; exact (TF.refl _ _).drewN _⟩
  · exact groups_ok L s n w hs h hn hS
theorem ext_drop (s : ByteArray) (k : Nat) : (s.extract (min k s.size) s.size).data.toList = s.data.toList.drop k := by
  rw [Lib.extract_data]
  by_cases h : k ≤ s.size
  · rw [Nat.min_eq_left h, List.take_of_length_le (by rw [List.length_drop, ← Lib.size_eq]; omega)]
  · rw [Nat.min_eq_right (by omega), List.drop_eq_nil_of_le (by rw [← Lib.size_eq]; omega), List.drop_eq_nil_of_le (by rw [← Lib.size_eq]; omega)]
    simp
theorem ext_le (s : ByteArray) (k : Nat) : (s.extract (min k s.size) s.size).size ≤ s.size := by rw [ByteArray.size_extract]; omega
theorem kR_t {l : List UInt8} (h : rowB l = true) : kR l = n2 l 2 := by unfold kR; rw [h]; rfl
set_option maxHeartbeats 1000000 in
theorem walk_wide (L : Nat) (t : ByteArray) (n i : Nat) (w : World) (hs : t.size ≤ 1073741824) (hn : n ≤ 4096) (hS : TkS w L []) (hr : rowB t.data.toList = true) (hw : wiI t.data.toList = some i) :
    Calls Try.prog 19 #[.string t, .int .i64 (n : Int), .func (.func 17) #[] #[.pointer (some ⟨L, 0, none⟩)]] w (TkR w L (redV t.data.toList n)) := by
  have hv : redV t.data.toList n = twV (t.data.toList.drop (rpl t.data.toList i)) n := by unfold redV redW; rw [hr, hw]; rfl
  rw [hv]
  have CR := hide (rows_any t w hs)
  rw [kR_t hr] at CR
  have hbk := n2_lt t.data.toList 2
  have CI := hide (fun a c w (h : RwL w a t.data.toList (n2 t.data.toList 2)) => index_w a t.data.toList (n2 t.data.toList 2) c w (by omega) h)
  have hw' : fstI (fun j => wiR (rp t.data.toList j) (re t.data.toList j)) (n2 t.data.toList 2) = some i := hw
  rw [hw'] at CI
  have hi := (fstI_get hw').1
  have bp := n4_lt t.data.toList (8 + 8 * i)
  have hpl : rpl t.data.toList i = n4 t.data.toList (8 + 8 * i) := rfl
  have CF := hide (fun w => from_any t (rpl t.data.toList i) w hs (by omega))
  have CG := hide (fun w (h : TkS w L []) => groups_any L (t.extract (min (rpl t.data.toList i) t.size) t.size) n w (Nat.le_trans (ext_le t _) hs) hn h)
  rw [ext_drop] at CG
  have HS := hide hS
  have hn' : (n : Int) ≤ 4096 := by omega
  generalize twV (t.data.toList.drop (rpl t.data.toList i)) n = RR at *
  generalize t.extract (min (rpl t.data.toList i) t.size) t.size = SX at *
  obtain ⟨K, hK⟩ : ∃ K, n2 t.data.toList 2 = K := ⟨_, rfl⟩
  rw [hK] at CR CI hi hbk
  have k1 : (i : Int) < (K : Int) := by omega
  have k0 : (0 : Int) ≤ (i : Int) := by omega
  have kb : (K : Int) ≤ 65535 := by omega
  have HI := hide hi
  clear hS hr hw hv hw' bp hpl hK hbk
  go_enter Try.func19, Try.ntmps19
  go_wp2_with fail
  refine CR.out.mono ?_
  rintro e w1 ⟨a, c, rfl, hr1, hb1⟩
  have HR1 := hide hr1
  have HB1 := hide hb1
  clear hr1 hb1
  go_wp2_with fail
  refine (CI.out _ _ _ HR1.out).mono ?_
  rintro e w2 ⟨rfl, hb2⟩
  have HB2 := hide (HB1.out.trans (hb2.mono HB1.out.size))
  rcases HR1.out.below hb2 with hz | ⟨b, rfl, hbl, hcell⟩
  · have := HI.out; omega
  obtain ⟨_, _, z2⟩ := hcell i HI.out
  have HS2 := hide (HS.out.below HB2.out)
  have HF2 := hide (TF.of_below HB2.out (Nat.le_of_lt HS.out.lt))
  generalize ((rpl t.data.toList i : Nat) : Int) = PL at *
  have hix : ixV (some i) = (i : Int) := rfl
  rw [hix]
  clear hcell hb2 HR1 hi
  go_wp2_with fail
  refine (CF.out _).mono ?_
  rintro e w3 ⟨rfl, hw3⟩
  subst hw3
  go_wp2_with fail
  cases RR with
  | none =>
    refine (CG.out _ HS2.out).mono ?_
    rintro e w4 ⟨rfl, ht⟩
    have HT := hide (HF2.out.trans ht)
    clear ht
    go_wp2_with fail
    go_ret
    exact ⟨rfl, HT.out⟩
  | some cs =>
    refine (CG.out _ HS2.out).mono ?_
    rintro e w4 ⟨rfl, hk, ht⟩
    have HK := hide hk
    have HT := hide (HF2.out.trans ht)
    clear ht hk
    go_wp2_with fail
    go_ret
    exact ⟨rfl, HK.out, HT.out⟩
/- what Read answers, by what walk answers -/
def RdR (w : World) (R : Option (List Ch)) (e : Ending) (w' : World) : Prop := match R with
  | some cs => ∃ v, e = .returned (.tuple #[v, .int .i64 0]) ∧ CRow w' (w.heap.size + 1) v cs ∧ Below w.heap.size w w'
  | none => e = .returned (.tuple #[.slice none 0 0, .int .i64 110]) ∧ Below w.heap.size w w'
theorem read_arg (t : ByteArray) (n : Int) (w : World) (h : ¬ (1 ≤ n ∧ n ≤ 4096)) :
    Calls Try.prog 7 #[.string t, .int .i64 n] w fun e w' => e = .returned (.tuple #[.slice none 0 0, .int .i64 1]) ∧ w' = w := by
  by_cases h1 : n < 1
  · clear h
    go_enter Try.func7, Try.ntmps7
    go_wp2_with fail
    go_ret2
    exact ⟨rfl, rfl⟩
  · have h1' : decide (n < 1) = false := by simp; omega
    have h2 : 4096 < n := by omega
    clear h h1
    go_enter Try.func7, Try.ntmps7
    go_wp2_with fail
    go_ret2
    exact ⟨rfl, rfl⟩
theorem read_by (t : ByteArray) (n : Nat) (w : World) (h1 : 1 ≤ n) (h2 : n ≤ 4096) (R : Option (List Ch))
    (h : ∀ w L, TkS w L [] → Calls Try.prog 19 #[.string t, .int .i64 (n : Int), .func (.func 17) #[] #[.pointer (some ⟨L, 0, none⟩)]] w (TkR w L R)) :
    Calls Try.prog 7 #[.string t, .int .i64 (n : Int)] w (RdR w R) := by
  have hmf : ∀ (fn : Fn) (first cap : Array Value) (w : World), (Instr.makeFunc fn first cap).run Try.prog w = .ok (.func fn first cap) w := fun _ _ _ _ => rfl
  have t1 : ¬ (n : Int) < 1 := by omega
  have t2 : ¬ (4096 : Int) < (n : Int) := by omega
  have hbk : Blk (w.alloc (.cells #[.slice none 0 0] 22)) w.heap.size #[.slice none 0 0] 22 := Blk.new _ _ _
  have C := hide (h (w.alloc (.cells #[.slice none 0 0] 22)) w.heap.size ⟨_, hbk, CRow.nil _ _⟩)
  have HB := hide ((Below.refl w.heap.size w).alloc (Nat.le_refl _) (.cells #[.slice none 0 0] 22))
  clear h hbk h1 h2
  go_enter Try.func7, Try.ntmps7
  go_wp2_with fail
  cases R with
  | none =>
    refine C.out.mono ?_
    rintro e w1 ⟨rfl, ht⟩
    have HT := hide (HB.out.trans ht.below)
    clear ht
    go_wp2_with fail
    go_ret2
    exact ⟨rfl, HT.out⟩
  | some cs =>
    refine C.out.mono ?_
    rintro e w1 ⟨rfl, ⟨v, hb1, hr1⟩, ht⟩
    have HT := hide (HB.out.trans ht.below)
    have HR1 := hide hr1
    obtain ⟨a, c, rfl, _⟩ := hr1.lst
    have z0 : w1.cell? ⟨w.heap.size, 0, none⟩ = some (.slice a cs.length c) := hb1.cell 0
    clear ht hr1 hb1
    go_wp2_with fail
    go_ret2
    exact ⟨_, rfl, HR1.out, HT.out⟩
end Go.Proofs.Ythgpchjkeidilaa
